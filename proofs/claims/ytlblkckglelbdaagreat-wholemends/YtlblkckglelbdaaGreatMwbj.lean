import Derived.Test.YtlblkckglelbdaaGreatMwbi
import Derived.OwnWalk
namespace Go.Proofs.YtlblkckglelbdaaGreat
open Go.RowKit Gf2
set_option linter.unusedVariables false

-- layer 16: Partial, of the program and of the document (laid by wip/genyhw.py)
/-- the numbers of the empty ones. -/
abbrev emp (n : Nat → Nat) (i : Nat) : Bool := n i == 0
/-- Partial's error. -/
def ple (f k m : Int) (c : Nat) (n : Nat → Nat) : Int := if prm f k m = 0 then (if (c : Int) = k + m then (if (ems (emp n) c).length = c then 161 else if ole f (scf (some 0) n c) = 0 then (if m < ((ems (emp n) c).length : Int) then 9 else 0) else ole f (scf (some 0) n c)) else 160) else prm f k m
/-- Partial's answer. -/
def plv16 (f k m : Int) (c : Nat) (n : Nat → Nat) : Int := if ple f k m c n = 0 then olv f (scf (some 0) n c) else 0
def pll (f k m : Int) (c : Nat) (n : Nat → Nat) : Nat := if ple f k m c n = 0 then (ems (emp n) c).length else 0
/-- a list of ints that is answered. -/
structure Ps16 (w w' : World) (u : Value) (L : Nat) (F : Nat → Int) : Prop where
  bel : Below w.heap.size w w'
  gi : Gi w w' u L F
theorem ps16_nil {w w' : World} (hb : Below w.heap.size w w') (F : Nat → Int) : Ps16 w w' (.slice none 0 0) 0 F := ⟨hb, hb, .inl ⟨rfl, rfl⟩⟩
theorem part_err {w w' : World} {f k m : Int} {c : Nat} {n : Nat → Nat} {z : Int} (h : ple f k m c n = z) (hz : z ≠ 0) (hb : Below w.heap.size w w') : ∃ u, Ending.returned (.tuple #[.int .i64 0, .slice none 0 0, .int .i64 z]) = .returned (.tuple #[.int .i64 (plv16 f k m c n), u, .int .i64 (ple f k m c n)]) ∧ Ps16 w w' u (pll f k m c n) (emz (emp n) c) := by
  unfold plv16 pll
  rw [h, if_neg hz, if_neg hz]
  exact ⟨_, rfl, ps16_nil hb _⟩
set_option maxHeartbeats 4000000 in
set_option maxRecDepth 100000 in
theorem partial16 (f k m : Int) (v : Value) (c : Nat) (n : Nat → Nat) (w : World) (hk : I64 k) (h : Ln w v c n) :
    Calls Tryz.prog 29 #[.int .i64 f, .int .i64 k, .int .i64 m, v] w fun e w' => ∃ u, e = .returned (.tuple #[.int .i64 (plv16 f k m c n), u, .int .i64 (ple f k m c n)]) ∧ Ps16 w w' u (pll f k m c n) (emz (emp n) c) := by
  have c1 := fun x => params16 f k m x hk
  by_cases hp : prm f k m = 0
  case neg =>
    have HE : Hid (∀ w', Below w.heap.size w w' → ∃ u, Ending.returned (.tuple #[.int .i64 0, .slice none 0 0, .int .i64 (prm f k m)]) = .returned (.tuple #[.int .i64 (plv16 f k m c n), u, .int .i64 (ple f k m c n)]) ∧ Ps16 w w' u (pll f k m c n) (emz (emp n) c)) := fun w' hb => part_err (by unfold ple; rw [if_neg hp]) hp hb
    obtain ⟨a, cap, rfl⟩ := h.form
    generalize prm f k m = z at *
    have D1 : (z != 0) = true := by simpa using hp
    have D2 : (z == 0) = false := by simpa using hp
    clear h hk
    go_enter Tryz.func29, Tryz.ntmps29
    go_wp2_with (go_at_call 48; ((with_reducible refine (c1 _).mono ?_); (rintro e w9 ⟨rfl, hw9⟩; have hw9 := hw9.symm; subst hw9)))
    go_ret3
    exact HE.out _ (Below.refl _ _)
  case pos =>
    rw [hp] at c1
    obtain ⟨k, m, rfl, rfl⟩ := prm_nat hp
    obtain ⟨s, HS, hsb, W1⟩ := sum_nat hp
    have es : ((k : Int) + (m : Int)) = (s : Int) := by have := HS.out; omega
    by_cases hc : c = s
    case neg =>
      have HE : Hid (∀ w', Below w.heap.size w w' → ∃ u, Ending.returned (.tuple #[.int .i64 0, .slice none 0 0, .int .i64 160]) = .returned (.tuple #[.int .i64 (plv16 f k m c n), u, .int .i64 (ple f k m c n)]) ∧ Ps16 w w' u (pll f k m c n) (emz (emp n) c)) := fun w' hb => part_err (by unfold ple; rw [if_pos hp, es, if_neg (by omega)]) (by decide) hb
      obtain ⟨a, cap, rfl⟩ := h.form
      have hc' : ¬ s = c := fun e => hc e.symm
      clear h hp es hsb hk
      go_enter Tryz.func29, Tryz.ntmps29
      go_wp2_with (go_at_call 48; ((with_reducible refine (c1 _).mono ?_); (rintro e w9 ⟨rfl, hw9⟩; have hw9 := hw9.symm; subst hw9)))
      go_ret3
      exact HE.out _ (Below.refl _ _)
    case pos =>
      subst hc
      have c2 := numbers16e v c n w h (Nat.le_trans hsb (by decide))
      obtain ⟨L, hL⟩ : ∃ L, L = (ems (emp n) c).length := ⟨_, rfl⟩
      have c2 : Calls Tryz.prog 49 #[v, .func (.func 50) #[] #[]] w fun e w' => ∃ u, e = .returned u ∧ Gi w w' u L (emz (emp n) c) := by rw [hL]; exact c2
      by_cases hf : L = c
      · have HE : Hid (∀ w', Below w.heap.size w w' → ∃ u, Ending.returned (.tuple #[.int .i64 0, .slice none 0 0, .int .i64 161]) = .returned (.tuple #[.int .i64 (plv16 f k m c n), u, .int .i64 (ple f k m c n)]) ∧ Ps16 w w' u (pll f k m c n) (emz (emp n) c)) := fun w' hb => part_err (by unfold ple; rw [if_pos hp, es, if_pos rfl, if_pos (hL.symm.trans hf)]) (by decide) hb
        have hf' : c = L := hf.symm
        subst hf'
        obtain ⟨a, cap, rfl⟩ := h.form
        clear h hp es hsb hL hf hk
        go_enter Tryz.func29, Tryz.ntmps29
        go_wp2_with (first | (go_at_call 48; ((with_reducible refine (c1 _).mono ?_); (rintro e w9 ⟨rfl, hw9⟩; have hw9 := hw9.symm; subst hw9))) | (go_at_call 49; ((with_reducible refine (c2).mono ?_); (rintro e w2 ⟨u, rfl, hG⟩; obtain ⟨ua, uC, rfl⟩ := hG.form; have HG : Hid (Gi w w2 (.slice ua c uC) c (emz (emp n) c)) := hG; clear hG c2))))
        go_ret3
        exact HE.out _ HG.out.1
      · have hf' : ¬ c = L := fun e => hf e.symm
        obtain ⟨q, hq⟩ : ∃ q, q = scf (some 0) n c := ⟨_, rfl⟩
        by_cases ho : ole f q = 0
        · obtain ⟨l, rfl⟩ : ∃ l, q = some l := by
            cases q with
            | none => cases ho
            | some l => exact ⟨l, rfl⟩
          have hodd : ¬ (f = 2 ∧ l % 2 = 1) := fun e => by rw [ole_odd e] at ho; cases ho
          have hov : olv f (some l) = (l : Int) := olv_even hodd
          have c3 : ∀ x, Below w.heap.size w x → Calls Tryz.prog 51 #[.int .i64 f, .slice (some ⟨x.heap.size, 0, none⟩) 1 1] (x.alloc (.cells #[v] 22)) fun e w' => e = .returned (.tuple #[.int .i64 (l : Nat), .int .i64 0]) ∧ w' = x.alloc (.cells #[v] 22) := fun x hx => by
            have := oneLength16 f x.heap.size 1 (fun _ => v) (fun _ => c) (fun _ => n) _ (by decide) (lone16 x v c n (h.below hx) 22)
            rw [show sco (fun _ => c) (fun _ => n) 1 = scf (some 0) n c from rfl, ← hq, hov, ho] at this
            exact this
          have hple : ple f k m c n = if (m : Int) < (L : Int) then 9 else 0 := by unfold ple; rw [if_pos hp, es, if_pos rfl, if_neg (fun e => hf (hL.trans e)), ← hq, if_pos ho, hL]
          have hlc : L ≤ c := by rw [hL]; exact ems_le _ _
          have DM1 : m < L → m < L := fun h => h
          have DM2 : ¬ m < L → ¬ m < L := fun h => h
          by_cases hm : m < L
          · rw [if_pos (by omega)] at hple
            have HE : Hid (∀ w', Below w.heap.size w w' → ∃ u, Ending.returned (.tuple #[.int .i64 0, .slice none 0 0, .int .i64 9]) = .returned (.tuple #[.int .i64 (plv16 f k m c n), u, .int .i64 (ple f k m c n)]) ∧ Ps16 w w' u (pll f k m c n) (emz (emp n) c)) := fun w' hb => part_err hple (by decide) hb
            have Dm := DM1 hm
            obtain ⟨a, cap, rfl⟩ := h.form
            clear h hp es hsb hL hq ho hov hple hlc DM1 DM2 hk
            clear hodd
            go_enter Tryz.func29, Tryz.ntmps29
            go_wp2_with (first | (go_at_call 48; ((with_reducible refine (c1 _).mono ?_); (rintro e w9 ⟨rfl, hw9⟩; have hw9 := hw9.symm; subst hw9))) | (go_at_call 49; ((with_reducible refine (c2).mono ?_); (rintro e w2 ⟨u, rfl, hG⟩; obtain ⟨ua, uC, rfl⟩ := hG.form; have HG : Hid (Gi w w2 (.slice ua L uC) L (emz (emp n) c)) := hG; have d3 := c3 w2 hG.1; clear c3; clear hG c2))) | (go_at_call 51; ((with_reducible refine (d3).mono ?_); (rintro e w9 ⟨rfl, hw9⟩; have hw9 := hw9.symm; subst hw9))))
            go_ret3
            exact HE.out _ (bthen16 HG.out.1 (balloc16 _ _))
          · rw [if_neg (by omega)] at hple
            have HE : Hid (∀ w' u, Gi w w' u L (emz (emp n) c) → ∃ u', Ending.returned (.tuple #[.int .i64 (l : Nat), u, .int .i64 0]) = .returned (.tuple #[.int .i64 (plv16 f k m c n), u', .int .i64 (ple f k m c n)]) ∧ Ps16 w w' u' (pll f k m c n) (emz (emp n) c)) := fun w' u hG => by
              unfold plv16 pll
              rw [hple, if_pos rfl, if_pos rfl, ← hq, hov, ← hL]
              exact ⟨u, rfl, hG.1, hG⟩
            have Dm := DM2 hm
            obtain ⟨a, cap, rfl⟩ := h.form
            clear h hp es hsb hL hq ho hov hple hlc DM1 DM2 hk
            clear hodd
            go_enter Tryz.func29, Tryz.ntmps29
            go_wp2_with (first | (go_at_call 48; ((with_reducible refine (c1 _).mono ?_); (rintro e w9 ⟨rfl, hw9⟩; have hw9 := hw9.symm; subst hw9))) | (go_at_call 49; ((with_reducible refine (c2).mono ?_); (rintro e w2 ⟨u, rfl, hG⟩; obtain ⟨ua, uC, rfl⟩ := hG.form; have HG : Hid (Gi w w2 (.slice ua L uC) L (emz (emp n) c)) := hG; have d3 := c3 w2 hG.1; clear c3; clear hG c2))) | (go_at_call 51; ((with_reducible refine (d3).mono ?_); (rintro e w9 ⟨rfl, hw9⟩; have hw9 := hw9.symm; subst hw9))))
            go_ret3
            exact HE.out _ _ (HG.out.below (balloc16 _ _))
        · have HE : Hid (∀ w', Below w.heap.size w w' → ∃ u, Ending.returned (.tuple #[.int .i64 0, .slice none 0 0, .int .i64 (ole f q)]) = .returned (.tuple #[.int .i64 (plv16 f k m c n), u, .int .i64 (ple f k m c n)]) ∧ Ps16 w w' u (pll f k m c n) (emz (emp n) c)) := fun w' hb => part_err (by unfold ple; rw [if_pos hp, es, if_pos rfl, if_neg (fun e => hf (hL.trans e)), ← hq, if_neg ho]) ho hb
          have c3 : ∀ x, Below w.heap.size w x → Calls Tryz.prog 51 #[.int .i64 f, .slice (some ⟨x.heap.size, 0, none⟩) 1 1] (x.alloc (.cells #[v] 22)) fun e w' => e = .returned (.tuple #[.int .i64 (olv f q), .int .i64 (ole f q)]) ∧ w' = x.alloc (.cells #[v] 22) := fun x hx => by
            have := oneLength16 f x.heap.size 1 (fun _ => v) (fun _ => c) (fun _ => n) _ (by decide) (lone16 x v c n (h.below hx) 22)
            rw [show sco (fun _ => c) (fun _ => n) 1 = scf (some 0) n c from rfl, ← hq] at this
            exact this
          generalize ole f q = z at *
          generalize olv f q = zv at *
          have D1 : (z != 0) = true := by simpa using ho
          have D2 : (z == 0) = false := by simpa using ho
          obtain ⟨a, cap, rfl⟩ := h.form
          clear h hp es hsb hL hq ho hk
          go_enter Tryz.func29, Tryz.ntmps29
          go_wp2_with (first | (go_at_call 48; ((with_reducible refine (c1 _).mono ?_); (rintro e w9 ⟨rfl, hw9⟩; have hw9 := hw9.symm; subst hw9))) | (go_at_call 49; ((with_reducible refine (c2).mono ?_); (rintro e w2 ⟨u, rfl, hG⟩; obtain ⟨ua, uC, rfl⟩ := hG.form; have HG : Hid (Gi w w2 (.slice ua L uC) L (emz (emp n) c)) := hG; have d3 := c3 w2 hG.1; clear c3; clear hG c2))) | (go_at_call 51; ((with_reducible refine (d3).mono ?_); (rintro e w9 ⟨rfl, hw9⟩; have hw9 := hw9.symm; subst hw9))))
          go_ret3
          exact HE.out _ (bthen16 HG.out.1 (balloc16 _ _))
end Go.Proofs.YtlblkckglelbdaaGreat
