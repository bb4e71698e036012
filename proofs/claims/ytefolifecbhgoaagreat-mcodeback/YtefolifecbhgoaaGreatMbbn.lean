import Derived.Test.YtefolifecbhgoaaGreatMbbm
import Derived.OwnWalk
namespace Go.Proofs.YtefolifecbhgoaaGreat
open Go.RowKit Gf2
set_option linter.unusedVariables false


abbrev emp (n : Nat → Nat) (i : Nat) : Bool := n i == 0
def ple (f k m : Int) (c : Nat) (n : Nat → Nat) : Int := if prm f k m = 0 then (if (c : Int) = k + m then (if (ems (emp n) c).length = c then 161 else if ole f (scf (some 0) n c) = 0 then (if m < ((ems (emp n) c).length : Int) then 9 else 0) else ole f (scf (some 0) n c)) else 160) else prm f k m
def plv16 (f k m : Int) (c : Nat) (n : Nat → Nat) : Int := if ple f k m c n = 0 then olv f (scf (some 0) n c) else 0
def pll (f k m : Int) (c : Nat) (n : Nat → Nat) : Nat := if ple f k m c n = 0 then (ems (emp n) c).length else 0
structure Ps16 (w w' : World) (u : Value) (L : Nat) (F : Nat → Int) : Prop where
  bel : Below w.heap.size w w'
  gi : Gi w w' u L F
theorem ps16_nil {w w' : World} (hb : Below w.heap.size w w') (F : Nat → Int) : Ps16 w w' (.slice none 0 0) 0 F := ⟨hb, hb, .inl ⟨rfl, rfl⟩⟩
theorem part_err {w w' : World} {f k m : Int} {c : Nat} {n : Nat → Nat} {z : Int} (h : ple f k m c n = z) (hz : z ≠ 0) (hb : Below w.heap.size w w') : ∃ u, Ending.returned (.tuple #[.int .i64 0, .slice none 0 0, .int .i64 z]) = .returned (.tuple #[.int .i64 (plv16 f k m c n), u, .int .i64 (ple f k m c n)]) ∧ Ps16 w w' u (pll f k m c n) (emz (emp n) c) := by
  unfold plv16 pll
  rw [h, if_neg hz, if_neg hz]
  exact ⟨_, rfl, ps16_nil hb _⟩
set_option maxHeartbeats 4000000 in
set_option maxRecDepth 100000 in
theorem partial16 (f k m : Int) (v : Value) (c : Nat) (n : Nat → Nat) (w : World) (hk : I64 k) (h : Ln w v c n) :
    Calls Tryz.prog 42 #[.int .i64 f, .int .i64 k, .int .i64 m, v] w fun e w' => ∃ u, e = .returned (.tuple #[.int .i64 (plv16 f k m c n), u, .int .i64 (ple f k m c n)]) ∧ Ps16 w w' u (pll f k m c n) (emz (emp n) c) := by
  have c1 := fun x => params16 f k m x hk
  by_cases hp : prm f k m = 0
  case neg =>
    have HE : Hid (∀ w', Below w.heap.size w w' → ∃ u, Ending.returned (.tuple #[.int .i64 0, .slice none 0 0, .int .i64 (prm f k m)]) = .returned (.tuple #[.int .i64 (plv16 f k m c n), u, .int .i64 (ple f k m c n)]) ∧ Ps16 w w' u (pll f k m c n) (emz (emp n) c)) := fun w' hb => part_err (by unfold ple; rw [if_neg hp]) hp hb
    obtain ⟨a, cap, rfl⟩ := h.form
    generalize prm f k m = z at *
    have D1 : (z != 0) = true := by simpa using hp
    have D2 : (z == 0) = false := by simpa using hp
    clear h hk
    go_enter Tryz.func42, Tryz.ntmps42
    go_wp2_with (go_at_call 76; ((with_reducible refine (c1 _).mono ?_); (rintro e w9 ⟨rfl, hw9⟩; have hw9 := hw9.symm; subst hw9)))
    go_ret3
    exact HE.out _ (Below.refl _ _)
  case pos =>
    rw [hp] at c1
    obtain ⟨k, m, rfl, rfl⟩ := prm_nat hp
    obtain ⟨s, HS, hsb, W1⟩ := sum_nat hp
    have es : ((k : Int) + (m : Int)) = (s : Int) := by have := HS.out; omega
    by_cases hc : c = s
    case neg =>
      have HE : Hid (∀ w', Below w.heap.size w w' → ∃ u, Ending.returned (.tuple #[.int .i64 0, .slice none 0 0, .int .i64 160]) = .returned (.tuple #[.int .i64 (plv16 f k m c n), u, .int .i64 (ple f k m c n)]) ∧ Ps16 w w' u (pll f k m c n) (emz (emp n) c)) := fun w' hb => part_err (by unfold ple; rw [if_pos hp, es, if_neg (by omega)]) (by decide) hb
      obtain ⟨a, cap, rfl⟩ := h.form
      have hc' : ¬ s = c := fun e => hc e.symm
      clear h hp es hsb hk
      go_enter Tryz.func42, Tryz.ntmps42
      go_wp2_with (go_at_call 76; ((with_reducible refine (c1 _).mono ?_); (rintro e w9 ⟨rfl, hw9⟩; have hw9 := hw9.symm; subst hw9)))
      go_ret3
      exact HE.out _ (Below.refl _ _)
    case pos =>
      subst hc
      have c2 := numbers16e v c n w h (Nat.le_trans hsb (by decide))
      obtain ⟨L, hL⟩ : ∃ L, L = (ems (emp n) c).length := ⟨_, rfl⟩
      have c2 : Calls Tryz.prog 81 #[v, .func (.func 82) #[] #[]] w fun e w' => ∃ u, e = .returned u ∧ Gi w w' u L (emz (emp n) c) := by rw [hL]; exact c2
      by_cases hf : L = c
      · have HE : Hid (∀ w', Below w.heap.size w w' → ∃ u, Ending.returned (.tuple #[.int .i64 0, .slice none 0 0, .int .i64 161]) = .returned (.tuple #[.int .i64 (plv16 f k m c n), u, .int .i64 (ple f k m c n)]) ∧ Ps16 w w' u (pll f k m c n) (emz (emp n) c)) := fun w' hb => part_err (by unfold ple; rw [if_pos hp, es, if_pos rfl, if_pos (hL.symm.trans hf)]) (by decide) hb
        have hf' : c = L := hf.symm
        subst hf'
        obtain ⟨a, cap, rfl⟩ := h.form
        clear h hp es hsb hL hf hk
        go_enter Tryz.func42, Tryz.ntmps42
        go_wp2_with (first | (go_at_call 76; ((with_reducible refine (c1 _).mono ?_); (rintro e w9 ⟨rfl, hw9⟩; have hw9 := hw9.symm; subst hw9))) | (go_at_call 81; ((with_reducible refine (c2).mono ?_); (rintro e w2 ⟨u, rfl, hG⟩; obtain ⟨ua, uC, rfl⟩ := hG.form; have HG : Hid (Gi w w2 (.slice ua c uC) c (emz (emp n) c)) := hG; clear hG c2))))
        go_ret3
        exact HE.out _ HG.out.1
      · have hf' : ¬ c = L := fun e => hf e.symm
        obtain ⟨q, hq⟩ : ∃ q, q = scf (some 0) n c := ⟨_, rfl⟩
        by_cases ho : ole f q = 0
        · obtain ⟨l, rfl⟩ : ∃ l, q = some l := by
            cases q with
            | none => cases ho
            | some l => exact ⟨l, rfl⟩
          have hodd : ¬ (f = 2 ∧ l % 2 = 1) := fun e => by rw [ole_odd e] at ho; cases ho
          have hov : olv f (some l) = (l : Int) := olv_even hodd
          have c3 : ∀ x, Below w.heap.size w x → Calls Tryz.prog 78 #[.int .i64 f, .slice (some ⟨x.heap.size, 0, none⟩) 1 1] (x.alloc (.cells #[v] 33)) fun e w' => e = .returned (.tuple #[.int .i64 (l : Nat), .int .i64 0]) ∧ w' = x.alloc (.cells #[v] 33) := fun x hx => by
            have := oneLength16 f x.heap.size 1 (fun _ => v) (fun _ => c) (fun _ => n) _ (by decide) (lone16 x v c n (h.below hx) 33)
            rw [show sco (fun _ => c) (fun _ => n) 1 = scf (some 0) n c from rfl, ← hq, hov, ho] at this
            exact this
          have hple : ple f k m c n = if (m : Int) < (L : Int) then 9 else 0 := by unfold ple; rw [if_pos hp, es, if_pos rfl, if_neg (fun e => hf (hL.trans e)), ← hq, if_pos ho, hL]
          have hlc : L ≤ c := by rw [hL]; exact ems_le _ _
          have DM1 : m < L → m < L := fun h => h
          have DM2 : ¬ m < L → ¬ m < L := fun h => h
          by_cases hm : m < L
          · rw [if_pos (by omega)] at hple
            have HE : Hid (∀ w', Below w.heap.size w w' → ∃ u, Ending.returned (.tuple #[.int .i64 0, .slice none 0 0, .int .i64 9]) = .returned (.tuple #[.int .i64 (plv16 f k m c n), u, .int .i64 (ple f k m c n)]) ∧ Ps16 w w' u (pll f k m c n) (emz (emp n) c)) := fun w' hb => part_err hple (by decide) hb
            have Dm := DM1 hm
            obtain ⟨a, cap, rfl⟩ := h.form
            clear h hp es hsb hL hq ho hov hple hlc DM1 DM2 hk
            clear hodd
            go_enter Tryz.func42, Tryz.ntmps42
            go_wp2_with (first | (go_at_call 76; ((with_reducible refine (c1 _).mono ?_); (rintro e w9 ⟨rfl, hw9⟩; have hw9 := hw9.symm; subst hw9))) | (go_at_call 81; ((with_reducible refine (c2).mono ?_); (rintro e w2 ⟨u, rfl, hG⟩; obtain ⟨ua, uC, rfl⟩ := hG.form; have HG : Hid (Gi w w2 (.slice ua L uC) L (emz (emp n) c)) := hG; have d3 := c3 w2 hG.1; clear c3; clear hG c2))) | (go_at_call 78; ((with_reducible refine (d3).mono ?_); (rintro e w9 ⟨rfl, hw9⟩; have hw9 := hw9.symm; subst hw9))))
            go_ret3
            exact HE.out _ (bthen16 HG.out.1 (balloc16 _ _))
          · rw [if_neg (by omega)] at hple
            have HE : Hid (∀ w' u, Gi w w' u L (emz (emp n) c) → ∃ u', Ending.returned (.tuple #[.int .i64 (l : Nat), u, .int .i64 0]) = .returned (.tuple #[.int .i64 (plv16 f k m c n), u', .int .i64 (ple f k m c n)]) ∧ Ps16 w w' u' (pll f k m c n) (emz (emp n) c)) := fun w' u hG => by
              unfold plv16 pll
              rw [hple, if_pos rfl, if_pos rfl, ← hq, hov, ← hL]
              exact ⟨u, rfl, hG.1, hG⟩
            have Dm := DM2 hm
            obtain ⟨a, cap, rfl⟩ := h.form
            clear h hp es hsb hL hq ho hov hple hlc DM1 DM2 hk
            clear hodd
            go_enter Tryz.func42, Tryz.ntmps42
            go_wp2_with (first | (go_at_call 76; ((with_reducible refine (c1 _).mono ?_); (rintro e w9 ⟨rfl, hw9⟩; have hw9 := hw9.symm; subst hw9))) | (go_at_call 81; ((with_reducible refine (c2).mono ?_); (rintro e w2 ⟨u, rfl, hG⟩; obtain ⟨ua, uC, rfl⟩ := hG.form; have HG : Hid (Gi w w2 (.slice ua L uC) L (emz (emp n) c)) := hG; have d3 := c3 w2 hG.1; clear c3; clear hG c2))) | (go_at_call 78; ((with_reducible refine (d3).mono ?_); (rintro e w9 ⟨rfl, hw9⟩; have hw9 := hw9.symm; subst hw9))))
            go_ret3
            exact HE.out _ _ (HG.out.below (balloc16 _ _))
        · have HE : Hid (∀ w', Below w.heap.size w w' → ∃ u, Ending.returned (.tuple #[.int .i64 0, .slice none 0 0, .int .i64 (ole f q)]) = .returned (.tuple #[.int .i64 (plv16 f k m c n), u, .int .i64 (ple f k m c n)]) ∧ Ps16 w w' u (pll f k m c n) (emz (emp n) c)) := fun w' hb => part_err (by unfold ple; rw [if_pos hp, es, if_pos rfl, if_neg (fun e => hf (hL.trans e)), ← hq, if_neg ho]) ho hb
          have c3 : ∀ x, Below w.heap.size w x → Calls Tryz.prog 78 #[.int .i64 f, .slice (some ⟨x.heap.size, 0, none⟩) 1 1] (x.alloc (.cells #[v] 33)) fun e w' => e = .returned (.tuple #[.int .i64 (olv f q), .int .i64 (ole f q)]) ∧ w' = x.alloc (.cells #[v] 33) := fun x hx => by
            have := oneLength16 f x.heap.size 1 (fun _ => v) (fun _ => c) (fun _ => n) _ (by decide) (lone16 x v c n (h.below hx) 33)
            rw [show sco (fun _ => c) (fun _ => n) 1 = scf (some 0) n c from rfl, ← hq] at this
            exact this
          generalize ole f q = z at *
          generalize olv f q = zv at *
          have D1 : (z != 0) = true := by simpa using ho
          have D2 : (z == 0) = false := by simpa using ho
          obtain ⟨a, cap, rfl⟩ := h.form
          clear h hp es hsb hL hq ho hk
          go_enter Tryz.func42, Tryz.ntmps42
          go_wp2_with (first | (go_at_call 76; ((with_reducible refine (c1 _).mono ?_); (rintro e w9 ⟨rfl, hw9⟩; have hw9 := hw9.symm; subst hw9))) | (go_at_call 81; ((with_reducible refine (c2).mono ?_); (rintro e w2 ⟨u, rfl, hG⟩; obtain ⟨ua, uC, rfl⟩ := hG.form; have HG : Hid (Gi w w2 (.slice ua L uC) L (emz (emp n) c)) := hG; have d3 := c3 w2 hG.1; clear c3; clear hG c2))) | (go_at_call 78; ((with_reducible refine (d3).mono ?_); (rintro e w9 ⟨rfl, hw9⟩; have hw9 := hw9.symm; subst hw9))))
          go_ret3
          exact HE.out _ (bthen16 HG.out.1 (balloc16 _ _))
end Go.Proofs.YtefolifecbhgoaaGreat
namespace Go.Proofs.YtefolifecbhgoaaGreat
open Go.RowKit Gf2
set_option linter.unusedVariables false


abbrev ful (n : Nat → Nat) (i : Nat) : Bool := n i != 0
def fle (f k m : Int) (c : Nat) (n : Nat → Nat) (c2 : Nat) (n2 : Nat → Nat) : Int := if prm f k m = 0 then (if (c : Int) = k + m ∧ (c2 : Int) = k then (if aeb n c then 161 else ole f (scf (scf (some 0) n c) n2 c2)) else 160) else prm f k m
def flv (f k m : Int) (c : Nat) (n : Nat → Nat) (c2 : Nat) (n2 : Nat → Nat) : Int := if fle f k m c n c2 n2 = 0 then olv f (scf (scf (some 0) n c) n2 c2) else 0
def fll (f k m : Int) (c : Nat) (n : Nat → Nat) (c2 : Nat) (n2 : Nat → Nat) : Nat := if fle f k m c n c2 n2 = 0 then (ems (ful n2) c2).length else 0
def FrA (f k m : Int) (c : Nat) (n : Nat → Nat) (c2 : Nat) (n2 : Nat → Nat) (w w' : World) (e : Ending) : Prop := ∃ u, e = .returned (.tuple #[.int .i64 (flv f k m c n c2 n2), u, .int .i64 (fle f k m c n c2 n2)]) ∧ Ps16 w w' u (fll f k m c n c2 n2) (emz (ful n2) c2)
theorem fra_err {w w' : World} {f k m : Int} {c c2 : Nat} {n n2 : Nat → Nat} {z : Int} (h : fle f k m c n c2 n2 = z) (hz : z ≠ 0) (hb : Below w.heap.size w w') : FrA f k m c n c2 n2 w w' (.returned (.tuple #[.int .i64 0, .slice none 0 0, .int .i64 z])) := by
  unfold FrA flv fll
  rw [h, if_neg hz, if_neg hz]
  exact ⟨_, rfl, ps16_nil hb _⟩
theorem fra_ok {w w' : World} {f k m : Int} {c c2 : Nat} {n n2 : Nat → Nat} {l : Nat} {u : Value} (h : fle f k m c n c2 n2 = 0) (hl : scf (scf (some 0) n c) n2 c2 = some l) (ho : ole f (some l) = 0) (hG : Gi w w' u (ems (ful n2) c2).length (emz (ful n2) c2)) : FrA f k m c n c2 n2 w w' (.returned (.tuple #[.int .i64 (l : Nat), u, .int .i64 0])) := by
  have hodd : ¬ (f = 2 ∧ l % 2 = 1) := fun e => by rw [ole_odd e] at ho; cases ho
  unfold FrA flv fll
  rw [h, if_pos rfl, if_pos rfl, hl, olv_even hodd]
  exact ⟨_, rfl, hG.1, hG⟩
theorem ltwo16 (w : World) (v u : Value) (c d : Nat) (n m : Nat → Nat) (h : Ln w v c n) (k : Ln w u d m) (T : TypeId) : ∀ t, t < 2 → (w.alloc (.cells #[v, u] T)).cell? ⟨w.heap.size, t, none⟩ = some ((fun t => if t = 0 then v else u) t) ∧ Ln (w.alloc (.cells #[v, u] T)) ((fun t => if t = 0 then v else u) t) ((fun t => if t = 0 then c else d) t) ((fun t => if t = 0 then n else m) t) := by
  intro t ht
  have : t = 0 ∨ t = 1 := by omega
  rcases this with rfl | rfl
  · refine ⟨?_, h.below (balloc16 _ _)⟩
    rw [cell_of_row _ _ _ _ _ _ (heap_alloc_new w _)]
    rfl
  · refine ⟨?_, k.below (balloc16 _ _)⟩
    rw [cell_of_row _ _ _ _ _ _ (heap_alloc_new w _)]
    rfl
set_option maxHeartbeats 4000000 in
set_option maxRecDepth 100000 in
theorem fresh16 (f k m : Int) (v v2 : Value) (c c2 : Nat) (n n2 : Nat → Nat) (w : World) (hk : I64 k) (h : Ln w v c n) (h2 : Ln w v2 c2 n2) :
    Calls Tryz.prog 71 #[.int .i64 f, .int .i64 k, .int .i64 m, v, v2] w fun e w' => FrA f k m c n c2 n2 w w' e := by
  have c1 := fun x => params16 f k m x hk
  by_cases hp : prm f k m = 0
  case neg =>
    have HE : Hid (FrA f k m c n c2 n2 w w (.returned (.tuple #[.int .i64 0, .slice none 0 0, .int .i64 (prm f k m)]))) := fra_err (by unfold fle; rw [if_neg hp]) hp (Below.refl _ _)
    obtain ⟨a, cap, rfl⟩ := h.form
    obtain ⟨a2, cap2, rfl⟩ := h2.form
    generalize prm f k m = z at *
    have D1 : (z != 0) = true := by simpa using hp
    have D2 : (z == 0) = false := by simpa using hp
    clear h h2 hk
    go_enter Tryz.func71, Tryz.ntmps71
    go_wp2_with (go_at_call 76; ((with_reducible refine (c1 _).mono ?_); (rintro e w9 ⟨rfl, hw9⟩; have hw9 := hw9.symm; subst hw9)))
    go_ret3
    exact HE.out
  case pos =>
    rw [hp] at c1
    obtain ⟨k, m, rfl, rfl⟩ := prm_nat hp
    obtain ⟨s, HS, hsb, W1⟩ := sum_nat hp
    have es : ((k : Int) + (m : Int)) = (s : Int) := by have := HS.out; omega
    by_cases hc : c = s
    case neg =>
      have HE : Hid (FrA f k m c n c2 n2 w w (.returned (.tuple #[.int .i64 0, .slice none 0 0, .int .i64 160]))) := fra_err (by unfold fle; rw [if_pos hp, es, if_neg (fun e => hc (by omega))]) (by decide) (Below.refl _ _)
      obtain ⟨a, cap, rfl⟩ := h.form
      obtain ⟨a2, cap2, rfl⟩ := h2.form
      have hc' : ¬ s = c := fun e => hc e.symm
      clear h h2 hp es hsb hk
      go_enter Tryz.func71, Tryz.ntmps71
      go_wp2_with (go_at_call 76; ((with_reducible refine (c1 _).mono ?_); (rintro e w9 ⟨rfl, hw9⟩; have hw9 := hw9.symm; subst hw9)))
      go_ret3
      exact HE.out
    case pos =>
      subst hc
      by_cases hc2 : c2 = k
      case neg =>
        have HE : Hid (FrA f k m c n c2 n2 w w (.returned (.tuple #[.int .i64 0, .slice none 0 0, .int .i64 160]))) := fra_err (by unfold fle; rw [if_pos hp, es, if_neg (fun e => hc2 (by omega))]) (by decide) (Below.refl _ _)
        obtain ⟨a, cap, rfl⟩ := h.form
        obtain ⟨a2, cap2, rfl⟩ := h2.form
        have hc' : ¬ k = c2 := fun e => hc2 e.symm
        clear h h2 hp es hsb hk
        go_enter Tryz.func71, Tryz.ntmps71
        go_wp2_with (go_at_call 76; ((with_reducible refine (c1 _).mono ?_); (rintro e w9 ⟨rfl, hw9⟩; have hw9 := hw9.symm; subst hw9)))
        go_ret3
        exact HE.out
      case pos =>
        subst hc2
        have c3 := anyEmpty16 v c n w h
        cases ha : aeb n c
        · rw [ha] at c3
          have c4 := oneLength16 f w.heap.size 2 _ _ _ _ (by decide) (ltwo16 w v v2 c c2 n n2 h h2 33)
          have e3 : sco (fun t => if t = 0 then c else c2) (fun t => if t = 0 then n else n2) 2 = scf (scf (some 0) n c) n2 c2 := rfl
          rw [e3] at c4
          have hB := balloc16 w (.cells #[v, v2] 33)
          obtain ⟨q, hq⟩ : ∃ q, q = scf (scf (some 0) n c) n2 c2 := ⟨_, rfl⟩
          have hfl : fle f c2 m c n c2 n2 = ole f q := by unfold fle; rw [if_pos hp, es, if_pos ⟨rfl, rfl⟩, ha, if_neg (by decide), hq]
          rw [← hq] at c4
          by_cases ho : ole f q = 0
          · obtain ⟨l, rfl⟩ : ∃ l, q = some l := by
              cases q with
              | none => cases ho
              | some l => exact ⟨l, rfl⟩
            have hodd : ¬ (f = 2 ∧ l % 2 = 1) := fun e => by rw [ole_odd e] at ho; cases ho
            rw [ho, olv_even hodd] at c4
            rw [ho] at hfl
            have c5 := numbers16f v2 c2 n2 (w.alloc (.cells #[v, v2] 33)) (h2.below hB) (by have := HS.out; clear W1; omega)
            have HE : Hid (∀ w' u, Gi (w.alloc (.cells #[v, v2] 33)) w' u (ems (ful n2) c2).length (emz (ful n2) c2) → FrA f c2 m c n c2 n2 w w' (.returned (.tuple #[.int .i64 (l : Nat), u, .int .i64 0]))) := fun w' u hG => fra_ok hfl hq.symm ho (by
              refine ⟨bthen16 hB hG.1, ?_⟩
              rcases hG.2 with h9 | ⟨g, C, F, a1, a2, a3, a4, a5⟩
              · exact .inl h9
              · exact .inr ⟨g, C, F, a1, a2, Nat.le_trans hB.size a3, a4, a5⟩)
            obtain ⟨a, cap, rfl⟩ := h.form
            obtain ⟨a2, cap2, rfl⟩ := h2.form
            clear h h2 hp es hsb hk hq hfl ho hodd ha e3 hB
            go_enter Tryz.func71, Tryz.ntmps71
            go_wp2_with (first | (go_at_call 76; ((with_reducible refine (c1 _).mono ?_); (rintro e w9 ⟨rfl, hw9⟩; have hw9 := hw9.symm; subst hw9))) | (go_at_call 77; ((with_reducible refine (c3).mono ?_); (rintro e w9 ⟨rfl, hw9⟩; have hw9 := hw9.symm; subst hw9))) | (go_at_call 78; ((with_reducible refine (c4).mono ?_); (rintro e w9 ⟨rfl, hw9⟩; have hw9 := hw9.symm; subst hw9))) | (go_at_call 81; ((with_reducible refine (c5).mono ?_); (rintro e w6 ⟨u, rfl, hG⟩; have H6 := HE.out w6 u hG; obtain ⟨ua, uC, rfl⟩ := hG.form; have HF : Hid (FrA f c2 m c n c2 n2 w w6 _) := H6; clear H6 hG c5))))
            go_ret3
            exact HF.out
          · have HE : Hid (FrA f c2 m c n c2 n2 w (w.alloc (.cells #[v, v2] 33)) (.returned (.tuple #[.int .i64 0, .slice none 0 0, .int .i64 (ole f q)]))) := fra_err hfl ho hB
            generalize ole f q = z at *
            generalize olv f q = zv at *
            have D1 : (z != 0) = true := by simpa using ho
            have D2 : (z == 0) = false := by simpa using ho
            obtain ⟨a, cap, rfl⟩ := h.form
            obtain ⟨a2, cap2, rfl⟩ := h2.form
            clear h h2 hp es hsb hk hq hfl ho ha e3 hB
            go_enter Tryz.func71, Tryz.ntmps71
            go_wp2_with (first | (go_at_call 76; ((with_reducible refine (c1 _).mono ?_); (rintro e w9 ⟨rfl, hw9⟩; have hw9 := hw9.symm; subst hw9))) | (go_at_call 77; ((with_reducible refine (c3).mono ?_); (rintro e w9 ⟨rfl, hw9⟩; have hw9 := hw9.symm; subst hw9))) | (go_at_call 78; ((with_reducible refine (c4).mono ?_); (rintro e w9 ⟨rfl, hw9⟩; have hw9 := hw9.symm; subst hw9))))
            go_ret3
            exact HE.out
        · rw [ha] at c3
          have HE : Hid (FrA f c2 m c n c2 n2 w w (.returned (.tuple #[.int .i64 0, .slice none 0 0, .int .i64 161]))) := fra_err (by unfold fle; rw [if_pos hp, es, if_pos ⟨rfl, rfl⟩, ha, if_pos rfl]) (by decide) (Below.refl _ _)
          obtain ⟨a, cap, rfl⟩ := h.form
          obtain ⟨a2, cap2, rfl⟩ := h2.form
          clear h h2 hp es hsb hk ha
          go_enter Tryz.func71, Tryz.ntmps71
          go_wp2_with (first | (go_at_call 76; ((with_reducible refine (c1 _).mono ?_); (rintro e w9 ⟨rfl, hw9⟩; have hw9 := hw9.symm; subst hw9))) | (go_at_call 77; ((with_reducible refine (c3).mono ?_); (rintro e w9 ⟨rfl, hw9⟩; have hw9 := hw9.symm; subst hw9))))
          go_ret3
          exact HE.out
end Go.Proofs.YtefolifecbhgoaaGreat
