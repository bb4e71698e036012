import Derived.Test.YtefolifecbhgoaaGreatMbbg
import Derived.Test.YtefolifecbhgoaaGreatMbaj
import Derived.Test.YtefolifecbhgoaaGreatMbaf
import Derived.BigQuiet
namespace Go.Proofs.YtefolifecbhgoaaGreat
open Go.RowKit Go.Maps
set_option linter.unusedVariables false

set_option maxHeartbeats 2000000 in
set_option maxRecDepth 100000 in
theorem newNode12 (w : World) : Calls Tryz.prog 53 #[] w fun e w' => e = .returned (.pointer (some ⟨w.heap.size + 1, 0, none⟩)) ∧ w' = (w.alloc (.map #[] 0)).alloc (.cells #[.map (some w.heap.size), .pointer none] 170) := by
  have hmm := @run_makeMap Tryz.prog
  go_enter Tryz.func53, Tryz.ntmps53
  go_wp2
  go_ret
  exact ⟨by simp, rfl⟩
set_option maxHeartbeats 2000000 in
set_option maxRecDepth 100000 in
theorem new12_ok (l : Int) (w : World) (h1 : 1 ≤ l) (h2 : l ≤ 1024) : Calls Tryz.prog 31 #[.int .i64 l] w fun e w' => e = .returned (.tuple #[.pointer (some ⟨w.heap.size + 1 + 1, 0, none⟩), .int .i64 0]) ∧
    w' = ((w.alloc (.map #[] 0)).alloc (.cells #[.map (some w.heap.size), .pointer none] 170)).alloc (.cells #[.int .i64 l, .pointer (some ⟨w.heap.size + 1, 0, none⟩), .int .i64 0, .slice none 0 0] 115) := by
  have d1 : decide (l < 1) = false := by simp; omega
  have d2 : decide (1024 < l) = false := by simp; omega
  have c1 := newNode12 w
  clear h1 h2
  go_enter Tryz.func31, Tryz.ntmps31
  go_wp2_with (go_at_call 53; (with_reducible refine c1.mono ?_); rintro e w1 ⟨rfl, hw1⟩; subst hw1; clear c1)
  go_ret2
  exact ⟨by simp, rfl⟩
end Go.Proofs.YtefolifecbhgoaaGreat
namespace Go.Proofs.YtefolifecbhgoaaGreat
open Go.RowKit Go.Maps
set_option linter.unusedVariables false

def isKf (F : Nat → Int) : Int → Nat → Nat → Bool
  | _, _, 0 => true
  | least, c, k + 1 => if F c < least ∨ 256 ≤ F c then false else isKf F (F c + 1) (c + 1) k
theorem isKf_bad {F : Nat → Int} {least : Int} {c k : Nat} (h : F c < least ∨ 256 ≤ F c) : isKf F least c (k + 1) = false := if_pos h
theorem isKf_good {F : Nat → Int} {least : Int} {c k : Nat} (h : ¬ (F c < least ∨ 256 ≤ F c)) : isKf F least c (k + 1) = isKf F (F c + 1) (c + 1) k := if_neg h
theorem isKf_iff {F : Nat → Int} : ∀ (k c : Nat) (least : Int), isKf F least c k = true ↔ (∀ i, i < k → least ≤ F (c + i) ∧ F (c + i) < 256) ∧ ∀ i j, i < j → j < k → F (c + i) < F (c + j)
  | 0, c, least => ⟨fun _ => ⟨fun i hi => absurd hi (Nat.not_lt_zero _), fun i j _ hj => absurd hj (Nat.not_lt_zero _)⟩, fun _ => rfl⟩
  | k + 1, c, least => by
    by_cases h : F c < least ∨ 256 ≤ F c
    · rw [isKf_bad h]
      refine ⟨fun e => (Bool.noConfusion e), fun ⟨h1, _⟩ => ?_⟩
      have := h1 0 (by omega)
      rw [Nat.add_zero] at this
      omega
    · rw [isKf_good h, isKf_iff k (c + 1) (F c + 1)]
      refine ⟨fun ⟨h1, h2⟩ => ⟨fun i hi => ?_, fun i j hij hj => ?_⟩, fun ⟨h1, h2⟩ => ⟨fun i hi => ?_, fun i j hij hj => ?_⟩⟩
      · cases i with
        | zero => rw [Nat.add_zero]; omega
        | succ i => have := h1 i (by omega); rw [show c + (i + 1) = c + 1 + i by omega]; omega
      · cases j with
        | zero => omega
        | succ j =>
          rw [show c + (j + 1) = c + 1 + j by omega]
          cases i with
          | zero => have := h1 j (by omega); rw [Nat.add_zero]; omega
          | succ i => rw [show c + (i + 1) = c + 1 + i by omega]; exact h2 i j (by omega) (by omega)
      · have a := h1 (i + 1) (by omega)
        have b := h2 0 (i + 1) (by omega) (by omega)
        rw [show c + (i + 1) = c + 1 + i by omega] at a b
        rw [Nat.add_zero] at b
        omega
      · have b := h2 (i + 1) (j + 1) (by omega) (by omega)
        rw [show c + (i + 1) = c + 1 + i by omega, show c + (j + 1) = c + 1 + j by omega] at b
        exact b
set_option maxHeartbeats 2000000 in
set_option maxRecDepth 100000 in
theorem isKey12 (v : Value) (n : Nat) (F : Nat → Int) (w : World) (h : Qi w v n F) :
    Calls Tryz.prog 140 #[v] w fun e w' => e = .returned (.bool (isKf F 0 0 n)) ∧ w' = w := by
  obtain ⟨hnb, -, a, cap, rfl, -, -, h4⟩ := h
  have H4 : Hid (0 < n → _) := h4
  clear h4
  go_enter Tryz.func140, Tryz.ntmps140
  go_wp2
  go_loopw [3, 8] (fun l i wr => ∃ (x : Int) (c : Nat), c ≤ n ∧ 0 ≤ x ∧ x ≤ 256 ∧ l = .int .i64 x ∧ i = .int .i64 c ∧ Hid (isKf F 0 0 n = isKf F x c (n - c)) ∧ wr = w) (fun _ i _ => n - (intOf i).toNat)
  case atStart => exact ⟨0, 0, Nat.zero_le _, by decide, by decide, rfl, rfl, rfl, rfl⟩
  case round =>
    obtain ⟨x, c, hc, x0, x1, rfl, rfl, hI, hw⟩ := hrel
    have hw := hw.symm
    subst hw
    by_cases hct : c < n
    · obtain ⟨b, o, rfl, -, z1⟩ := H4.out (by omega)
      have q1 := z1 c hct
      have ib : ((c : Nat) : Int) < (n : Int) := Int.ofNat_lt.2 hct
      have W1 := wrap_succ8 (j := c) (by unfold big at hnb ⊢; omega)
      have e1 : n - c = (n - (c + 1)) + 1 := by omega
      by_cases h1 : F c < x
      · have d1 : decide (F c < x) = true := by simp; omega
        have HR : Hid (isKf F 0 0 n = false) := by show _ = _; rw [hI.out, e1]; exact isKf_bad (.inl h1)
        generalize F c = y at q1 d1
        clear hI z1 hct hc h1 e1 H4
        go_wp2
        go_ret
        exact ⟨by rw [HR.out]; try rfl, by first | trivial | rfl⟩
      · have d1 : decide (F c < x) = false := by simp; omega
        by_cases h2 : 256 ≤ F c
        · have d2 : decide (256 ≤ F c) = true := by simp; omega
          have HR : Hid (isKf F 0 0 n = false) := by show _ = _; rw [hI.out, e1]; exact isKf_bad (.inr h2)
          generalize F c = y at q1 d1 d2
          clear hI z1 hct hc h1 h2 e1 H4
          go_wp2
          go_ret
          exact ⟨by rw [HR.out]; try rfl, by first | trivial | rfl⟩
        · have d2 : decide (256 ≤ F c) = false := by simp; omega
          have W2 : wrap64 (F c + 1) = F c + 1 := by unfold wrap64; omega
          have HR : Hid (c + 1 ≤ n ∧ 0 ≤ F c + 1 ∧ F c + 1 ≤ 256 ∧ isKf F 0 0 n = isKf F (F c + 1) (c + 1) (n - (c + 1))) := ⟨hct, by omega, by omega, by rw [hI.out, e1]; exact isKf_good (by omega)⟩
          generalize F c = y at q1 d1 d2 W2 HR
          clear hI z1 hct hc h1 h2 e1 H4
          go_wp2
          go_roundw
          case rel => exact ⟨y + 1, c + 1, HR.out.1, HR.out.2.1, HR.out.2.2.1, by first | rfl | rw [W2], by first | rfl | (rw [W1]; rfl), HR.out.2.2.2, by first | trivial | rfl⟩
          case measure => first | exact meas_lt8 HR.out.1 | (rw [W1]; exact meas_lt8 HR.out.1)
    · have hcn : c = n := by omega
      have HR : Hid (isKf F 0 0 n = true) := by show _ = _; rw [hI.out, hcn, Nat.sub_self]; exact (rfl : isKf F x n 0 = true)
      subst hcn
      clear H4 hI hct hc
      go_wp2
      go_ret
      exact ⟨by rw [HR.out]; try rfl, by first | trivial | rfl⟩
end Go.Proofs.YtefolifecbhgoaaGreat
namespace Go.Proofs.YtefolifecbhgoaaGreat
open Go.RowKit Go.Maps
set_option linter.unusedVariables false

theorem info_ints12 : (Tryz.prog.info? 3).map (·.size) = some 1 := by kernel_rfl
theorem make_ints12 (n : Nat) (hn : 8 * n ≤ 140737488355328) (w : World) : (Instr.makeSlice 40 (.int .i64 (n : Int)) (.int .i64 (n : Int))).run Tryz.prog w = .ok (.slice (some ⟨w.heap.size, 0, none⟩) n n) (w.alloc (.cells (madeCells #[.int .i64 0] n) 3)) :=
  run_make_row' (P := Tryz.prog) 40 3 (.int .i64 0) 8 Tryz.underlying40 info_int rfl .i64 .i64 n (by omega) (by omega) w
theorem copy12 (w : World) {g n : Nat} {F : Nat → Int} (hr : Ri w g n F) {a : Option Addr} {cap' : Nat} {S : Nat → Int}
    (h4 : 0 < n → ∃ b p, a = some ⟨b, p, none⟩ ∧ ∀ i, i < n → w.cell? ⟨b, p + i, none⟩ = some (.int .i64 (S i))) :
    ∃ w', (Builtin.copy_ #[40, 40] 3 #[.slice (some ⟨g, 0, none⟩) n n, .slice a n cap']).run Tryz.prog w = .ok (goInt n) w' ∧ Ri w' g n S ∧ Only g w w' := by
  obtain ⟨h1, -, c, hc, hs, hv⟩ := hr
  by_cases h0 : n = 0
  · subst h0
    exact ⟨w, run_copy_none (P := Tryz.prog) _ 40 40 3 3 _ a 0 0 0 cap' Tryz.underlying40 info_ints12 rfl, ⟨h1, trivial, c, hc, hs, fun i hi => absurd hi (Nat.not_lt_zero _)⟩, Only.refl _ _⟩
  · obtain ⟨b, p, rfl, hcell⟩ := h4 (by omega)
    obtain ⟨cs, hcs⟩ : ∃ cs : List Value, cs = (List.range n).map (fun i => Value.int .i64 (S i)) := ⟨_, rfl⟩
    have hlen : cs.length = n := by rw [hcs]; simp
    have hget : ∀ j, j < n → cs[j]? = some (Value.int .i64 (S j)) := fun j hj => by rw [hcs]; simp [hj]
    have hr := run_copy_row (P := Tryz.prog) w 40 40 3 3 g 0 n n ⟨b, p, none⟩ n cap' c 3 cs Tryz.underlying40 info_ints12 hc (by rw [hlen]; exact (Nat.min_self n).symm)
      (fun j u hu => by
        have hj : j < n := by
          rcases Nat.lt_or_ge j n with h9 | h9
          · exact h9
          · rw [List.getElem?_eq_none (by omega)] at hu; cases hu
        rw [hget j hj] at hu
        cases hu
        have ea : (⟨b, p, none⟩ : Addr).add j = ⟨b, p + j, none⟩ := by unfold Addr.add; split <;> simp_all
        rw [ea]
        exact hcell j hj) (by rw [hlen, hs]; omega) (fun u hu => by
        rw [hcs] at hu
        obtain ⟨x, _, rfl⟩ := List.mem_map.1 hu
        rfl)
    rw [hlen] at hr
    refine ⟨_, hr, ⟨h1, trivial, _, setRow_heap _ _ _ _ _ _ hc, ?_, fun i hi => ?_⟩, (Only.refl _ _).setRow _⟩
    · simp [hlen, hs]
    · rw [List.getElem?_toArray]
      simp only [List.take_zero, List.nil_append]
      rw [List.getElem?_append_left (by rw [hlen]; exact hi)]
      exact hget i hi
set_option maxHeartbeats 2000000 in
set_option maxRecDepth 100000 in
theorem copied12 (v : Value) (n : Nat) (F : Nat → Int) (w : World) (h : Qi w v n F) (hn : 8 * n ≤ 140737488355328) :
    Calls Tryz.prog 153 #[v] w fun e w' => e = .returned (.slice (some ⟨w.heap.size, 0, none⟩) n n) ∧ Ri w' w.heap.size n F ∧ Below w.heap.size w w' := by
  have hmk := make_ints12 n hn
  have r0 : Ri (w.alloc (.cells (madeCells #[.int .i64 0] n) 3)) w.heap.size n (fun _ => 0) := ⟨by unfold big; omega, trivial, World.rowIs_made w (.int .i64 0) n 3⟩
  have b0 : Below w.heap.size w (w.alloc (.cells (madeCells #[.int .i64 0] n) 3)) := (Below.refl _ _).alloc (Nat.le_refl _) _
  obtain ⟨-, -, a, cap, rfl, -, -, h4⟩ := h
  obtain ⟨w1, hrun, hR, ho⟩ := copy12 _ r0 (a := a) (cap' := cap) (S := F) (fun h0 => by
    obtain ⟨b, o, e, hl, hc⟩ := h4 h0
    exact ⟨b, o, e, fun i hi => (b0.cell (p := ⟨b, o + i, none⟩) hl).trans (hc i hi)⟩)
  have HR : Hid (Ri w1 w.heap.size n F ∧ Below w.heap.size w w1) := ⟨hR, b0.trans (ho.below (Nat.le_refl _))⟩
  clear h4 hR ho r0 b0 hn
  go_enter Tryz.func153, Tryz.ntmps153
  go_wp2
  go_ret
  exact ⟨rfl, HR.out⟩
end Go.Proofs.YtefolifecbhgoaaGreat
namespace Go.Proofs.YtefolifecbhgoaaGreat
open Go.RowKit Gf2
set_option linter.unusedVariables false

set_option maxHeartbeats 2000000 in
set_option maxRecDepth 100000 in
theorem copiedb12 (v : Value) (n : Nat) (F : Nat → Nat) (w : World) (h : Rb w v n F) (hn : n ≤ 140737488355328) :
    Calls Tryz.prog 145 #[v] w fun e w' => e = .returned (.slice (some ⟨w.heap.size, 0, none⟩) n n) ∧ Rw w' w.heap.size n F ∧ Below w.heap.size w w' := by
  have hmk := make_u8 n hn
  have r0 := made_rw n hn w
  have b0 : Below w.heap.size w (w.alloc (.cells (madeCells #[.int .u8 0] n) 5)) := (Below.refl _ _).alloc (Nat.le_refl _) _
  obtain ⟨-, hF, a, cap, rfl, -, -, h4⟩ := h
  obtain ⟨w1, hrun, hR, ho⟩ := copy8_run _ r0 (o := 0) (dl := n) (cap := n) (a := a) (n := n) (cap' := cap) (S := F) hF (fun h0 => by
    obtain ⟨b, o, e, hl, hc⟩ := h4 h0
    exact ⟨b, o, e, fun i hi => (b0.cell (p := ⟨b, o + i, none⟩) hl).trans (hc i hi)⟩) (by omega) (Nat.le_refl _)
  have HR : Hid (Rw w1 w.heap.size n F ∧ Below w.heap.size w w1) := ⟨hR.congr (fun i hi => by
    unfold pl
    rw [if_pos (by omega), Nat.sub_zero]), b0.trans (ho.below (Nat.le_refl _))⟩
  clear h4 hR ho r0 b0 hn hF
  go_enter Tryz.func145, Tryz.ntmps145
  go_wp2
  go_ret
  exact ⟨rfl, HR.out⟩
end Go.Proofs.YtefolifecbhgoaaGreat
namespace Go.Proofs.YtefolifecbhgoaaGreat
open Go.RowKit Gf2
set_option linter.unusedVariables false

def tk12 (F : Nat → Int) (c : Nat) : List Int := (List.range c).map F
theorem tk12_succ (F : Nat → Int) (c : Nat) : tk12 F (c + 1) = tk12 F c ++ [F c] := by
  unfold tk12
  rw [List.range_succ, List.map_append]
  rfl
structure Tr (w : World) (r N : Nat) (B : List Int → Option Nat) (MB : Nat → Nat) (K : List Int → Option Nat) : Prop where
  root : B [] = some r
  node : ∀ p g, B p = some g → w.heap[g]? = some (.cells #[.map (some (MB g)), pv12 (K p)] 170)
  kids : ∀ p g, B p = some g → ∃ n s, n ≤ N ∧ Mp w (MB g) n s (fun x => B (p ++ [x]))
  off : ∀ p x, B p = none → B (p ++ [x]) = none
theorem Tr.gone {w : World} {r N : Nat} {B : List Int → Option Nat} {MB : Nat → Nat} {K : List Int → Option Nat} (h : Tr w r N B MB K) {F : Nat → Int} {c : Nat} (hc : B (tk12 F c) = none) : ∀ n, c ≤ n → B (tk12 F n) = none
  | 0, hn => by obtain rfl : c = 0 := by omega
                exact hc
  | n + 1, hn => by
    by_cases e : c = n + 1
    · rw [← e]; exact hc
    · rw [tk12_succ]; exact h.off _ _ (h.gone hc n (by omega))
theorem Tr.cell0 {w : World} {r N : Nat} {B : List Int → Option Nat} {MB : Nat → Nat} {K : List Int → Option Nat} (h : Tr w r N B MB K) {p : List Int} {g : Nat} (hp : B p = some g) : w.cell? ⟨g, 0, none⟩ = some (.map (some (MB g))) := by
  rw [cell_of_row _ _ 0 _ _ _ (h.node p g hp)]; rfl
theorem Tr.cell1 {w : World} {r N : Nat} {B : List Int → Option Nat} {MB : Nat → Nat} {K : List Int → Option Nat} (h : Tr w r N B MB K) {p : List Int} {g : Nat} (hp : B p = some g) : w.cell? ⟨g, 1, none⟩ = some (pv12 (K p)) := by
  rw [cell_of_row _ _ 1 _ _ _ (h.node p g hp)]; rfl
def Tb (w : World) (t : Nat) (l : Int) (r : Nat) (m : Int) (ov : Value) : Prop := w.heap[t]? = some (.cells #[.int .i64 l, .pointer (some ⟨r, 0, none⟩), .int .i64 m, ov] 115)
theorem Tb.c1 {w : World} {t r : Nat} {l m : Int} {ov : Value} (h : Tb w t l r m ov) : w.cell? ⟨t, 1, none⟩ = some (.pointer (some ⟨r, 0, none⟩)) := by
  rw [cell_of_row _ _ 1 _ _ _ h]; rfl
set_option maxHeartbeats 2000000 in
set_option maxRecDepth 100000 in
theorem at12 (t r n N : Nat) (l m : Int) (ov v : Value) (B : List Int → Option Nat) (MB : Nat → Nat) (K : List Int → Option Nat) (F : Nat → Int) (w : World) (hT : Tb w t l r m ov) (h : Tr w r N B MB K) (hv : Qi w v n F) (hw : ∀ i, i < n → (Lit.int .i64 (F i)).wf = true) :
    Calls Tryz.prog 143 #[.pointer (some ⟨t, 0, none⟩), v] w fun e w' => e = .returned (pv12 (B (tk12 F n))) ∧ w' = w := by
  have z0 := hT.c1
  have H : Hid (Tr w r N B MB K) := h
  have HW : Hid (∀ i, i < n → (Lit.int .i64 (F i)).wf = true) := hw
  have HR : Hid (pv12 (B (tk12 F 0)) = .pointer (some ⟨r, 0, none⟩)) := by
    show pv12 (B []) = _
    rw [h.root]; rfl
  obtain ⟨hnb, -, a, cap, rfl, -, -, h4⟩ := hv
  have H4 : Hid (0 < n → _) := h4
  clear h4 hT h hw
  go_enter Tryz.func143, Tryz.ntmps143
  go_wp2
  clear z0
  go_loopw [5, 16] (fun nv iv wr => ∃ c : Nat, c ≤ n ∧ iv = .int .i64 c ∧ nv = pv12 (B (tk12 F c)) ∧ wr = w) (fun _ i _ => n - (intOf i).toNat)
  case atStart => exact ⟨0, Nat.zero_le _, rfl, HR.out.symm, rfl⟩
  case round =>
    obtain ⟨c, hc, rfl, rfl, hw⟩ := hrel
    have hw := hw.symm
    subst hw
    by_cases hct : c < n
    · obtain ⟨b, o, rfl, -, z1⟩ := H4.out (by omega)
      have q1 := z1 c hct
      have ib : ((c : Nat) : Int) < (n : Int) := Int.ofNat_lt.2 hct
      have W1 := wrap_succ8 (j := c) (by unfold big at hnb ⊢; omega)
      cases hB : B (tk12 F c) with
      | none =>
        have HN : Hid (B (tk12 F n) = none) := H.out.gone hB n hc
        clear H HW HR H4 hB z1 hct hc
        generalize F c = y at q1
        rw [show pv12 none = Value.pointer none from rfl]
        go_wp2
        go_ret
        exact ⟨by rw [HN.out]; rfl, by first | trivial | rfl⟩
      | some g =>
        have q2 := H.out.cell0 hB
        obtain ⟨n1, s1, -, hM⟩ := H.out.kids _ _ hB
        have hl := hM.look (HW.out c hct)
        have HE : Hid (c < n ∧ B (tk12 F c ++ [F c]) = B (tk12 F (c + 1))) := ⟨hct, by rw [tk12_succ]⟩
        generalize B (tk12 F c ++ [F c]) = u at hl HE
        generalize F c = y at q1 hl
        clear H HW HR H4 hB z1 hct hc hM
        rw [show pv12 (some g) = Value.pointer (some ⟨g, 0, none⟩) from rfl]
        go_wp2
        go_roundw
        case rel => exact ⟨c + 1, HE.out.1, by first | rfl | (rw [W1]; rfl), by rw [HE.out.2], by first | trivial | rfl⟩
        case measure => first | exact meas_lt8 HE.out.1 | (rw [W1]; exact meas_lt8 HE.out.1)
    · obtain rfl : c = n := by omega
      clear H HW HR H4 hct hc
      go_wp2
      go_ret
      exact ⟨rfl, by first | trivial | rfl⟩
end Go.Proofs.YtefolifecbhgoaaGreat
namespace Go.Proofs.YtefolifecbhgoaaGreat
open Go.RowKit Gf2
set_option linter.unusedVariables false

structure Tq (w : World) (r N : Nat) (B : List Int → Option Nat) (MB : Nat → Nat) (K : List Int → Option Nat) : Prop extends Tr w r N B MB K where
  kept : ∀ p, B p = none → K p = none
  inj : ∀ p q g, B p = some g → B q = some g → p = q
  minj : ∀ p q g g', B p = some g → B q = some g' → MB g = MB g' → p = q
set_option maxHeartbeats 2000000 in
set_option maxRecDepth 100000 in
theorem find12 (t r n N : Nat) (l m : Int) (ov v : Value) (B : List Int → Option Nat) (MB : Nat → Nat) (K : List Int → Option Nat) (F : Nat → Int) (w : World) (hT : Tb w t l r m ov) (h : Tq w r N B MB K) (hv : Qi w v n F) (hw : ∀ i, i < n → (Lit.int .i64 (F i)).wf = true) :
    Calls Tryz.prog 133 #[.pointer (some ⟨t, 0, none⟩), v] w fun e w' => e = .returned (pv12 (K (tk12 F n))) ∧ w' = w := by
  have c1 := at12 t r n N l m ov v B MB K F w hT h.toTr hv hw
  obtain ⟨-, -, a, cap, rfl, -⟩ := id hv
  clear hv hw hT
  generalize tk12 F n = p at c1
  cases hB : B p with
  | none =>
    rw [hB] at c1
    have HK : Hid (K p = none) := h.kept p hB
    clear h hB
    rw [show pv12 none = Value.pointer none from rfl] at c1
    go_enter Tryz.func133, Tryz.ntmps133
    go_wp2_with (go_at_call 143; (with_reducible refine c1.mono ?_); rintro e w9 ⟨rfl, hw9⟩; have hw9 := hw9.symm; subst hw9)
    go_ret
    exact ⟨by rw [HK.out]; rfl, rfl⟩
  | some g =>
    rw [hB] at c1
    have q1 := h.toTr.cell1 hB
    clear h hB
    rw [show pv12 (some g) = Value.pointer (some ⟨g, 0, none⟩) from rfl] at c1
    go_enter Tryz.func133, Tryz.ntmps133
    go_wp2_with (go_at_call 143; (with_reducible refine c1.mono ?_); rintro e w9 ⟨rfl, hw9⟩; have hw9 := hw9.symm; subst hw9)
    go_ret
    exact ⟨rfl, rfl⟩
def updP (B : List Int → Option Nat) (p : List Int) (o : Option Nat) : List Int → Option Nat := fun q => if q = p then o else B q
theorem snoc_inj {p q : List Int} {x y : Int} (h : p ++ [x] = q ++ [y]) : p = q ∧ x = y := by
  have := List.append_inj' h rfl
  exact ⟨this.1, by simpa using this.2⟩
theorem snoc_ne {p : List Int} {x : Int} : p ++ [x] ≠ p := fun h => by
  have := congrArg List.length h
  simp at this
theorem Tq.grow {w w2 : World} {r N : Nat} {B : List Int → Option Nat} {MB : Nat → Nat} {K : List Int → Option Nat} (h : Tq w r N B MB K) {p : List Int} {g : Nat} {x : Int} (hp : B p = some g) (hx : B (p ++ [x]) = none)
    {n s : Nat} (hnN : n ≤ N + 1) (hM : Mp w2 (MB g) n s (upd12 (fun y => B (p ++ [y])) x (some (w.heap.size + 1))))
    (ht : ((w.alloc (.map #[] 0)).alloc (.cells #[.map (some w.heap.size), .pointer none] 170)).mapTurned w2 (MB g)) :
    Tq w2 r (N + 1) (updP B (p ++ [x]) (some (w.heap.size + 1))) (fun k => if k = w.heap.size + 1 then w.heap.size else MB k) (updP K (p ++ [x]) none) := by
  have g0 : g < w.heap.size := (Array.getElem?_eq_some_iff.1 (h.node p g hp)).1
  have lt : ∀ q k, B q = some k → k < w.heap.size := fun q k hq => (Array.getElem?_eq_some_iff.1 (h.node q k hq)).1
  have mlt : ∀ q k, B q = some k → MB k < w.heap.size := fun q k hq => by obtain ⟨n, s, -, hm⟩ := h.kids q k hq; exact hm.lt
  have gr := ht.grown
  have old : ∀ k, k < w.heap.size → k ≠ MB g → w2.heap[k]? = w.heap[k]? := fun k hk hne => by
    rw [gr.block k (by simp; omega) (fun e => hne (by cases e; rfl))]
    rw [(World.grownBy_alloc (w.alloc (.map #[] 0)) _ none).block k (by simp; omega) (by simp), (World.grownBy_alloc w _ none).block k hk (by simp)]
  have hpr : ∀ q, q ≠ p ++ [x] → updP B (p ++ [x]) (some (w.heap.size + 1)) q = B q := fun q hq => if_neg hq
  have hnew : updP B (p ++ [x]) (some (w.heap.size + 1)) (p ++ [x]) = some (w.heap.size + 1) := if_pos rfl
  have kpr : ∀ q, q ≠ p ++ [x] → updP K (p ++ [x]) none q = K q := fun q hq => if_neg hq
  have knew : updP K (p ++ [x]) none (p ++ [x]) = none := if_pos rfl
  have mold : ∀ k, k < w.heap.size → (if k = w.heap.size + 1 then w.heap.size else MB k) = MB k := fun k hk => if_neg (by omega)
  have mg := mlt p g hp
  have n1 : w2.heap[w.heap.size + 1]? = some (.cells #[.map (some w.heap.size), .pointer none] 170) := by
    rw [gr.block _ (by simp) (fun e => by have := Option.some.inj e; omega)]
    have := heap_alloc_new (w.alloc (.map #[] 0)) (.cells #[.map (some w.heap.size), .pointer none] 170)
    have e1 : (w.alloc (.map #[] 0)).heap.size = w.heap.size + 1 := by simp
    rw [e1] at this
    exact this
  have n2 : w2.heap[w.heap.size]? = (w.alloc (.map #[] 0)).heap[w.heap.size]? := by
    rw [gr.block _ (by simp; omega) (fun e => by have := Option.some.inj e; omega)]
    exact (World.grownBy_alloc (w.alloc (.map #[] 0)) _ none).block _ (by simp) (by simp)
  have notmap : ∀ q k, B q = some k → k ≠ MB g := fun q k hq e => by
    obtain ⟨n, s, -, D, ⟨es, clock, hb, -⟩, -⟩ := h.kids p g hp
    have := h.node q k hq
    rw [e, hb] at this
    cases this
  refine ⟨⟨?_, fun q k hq => ?_, fun q k hq => ?_, fun q y hq => ?_⟩, fun q hq => ?_, fun q q' k hq hq' => ?_, fun q q' k k' hq hq' hm => ?_⟩
  · rw [hpr [] (by simp)]; exact h.root
  · by_cases e : q = p ++ [x]
    · subst e
      rw [hnew] at hq
      cases hq
      rw [knew]
      show w2.heap[w.heap.size + 1]? = some (.cells #[.map (some (if w.heap.size + 1 = w.heap.size + 1 then w.heap.size else _)), pv12 none] _)
      rw [if_pos rfl]
      exact n1
    · rw [hpr q e] at hq
      rw [kpr q e]
      show w2.heap[k]? = some (.cells #[.map (some (if k = w.heap.size + 1 then w.heap.size else MB k)), pv12 (K q)] _)
      rw [mold k (lt q k hq), old k (lt q k hq) (notmap q k hq)]
      exact h.node q k hq
  · by_cases e : q = p ++ [x]
    · subst e
      rw [hnew] at hq
      cases hq
      refine ⟨0, 0, Nat.zero_le _, ?_⟩
      show Mp w2 (if w.heap.size + 1 = w.heap.size + 1 then w.heap.size else _) 0 0 _
      rw [if_pos rfl]
      have e2 : (fun y => updP B (p ++ [x]) (some (w.heap.size + 1)) (p ++ [x] ++ [y])) = fun _ => none := by
        funext y
        rw [hpr _ snoc_ne]
        exact h.off _ _ hx
      rw [e2]
      exact (mp_made w).of_block n2
    · rw [hpr q e] at hq
      show ∃ n s, n ≤ N + 1 ∧ Mp w2 (if k = w.heap.size + 1 then w.heap.size else MB k) n s _
      rw [mold k (lt q k hq)]
      by_cases e2 : q = p
      · subst e2
        rw [hp] at hq
        cases hq
        refine ⟨n, s, hnN, ?_⟩
        have e3 : (fun y => updP B (q ++ [x]) (some (w.heap.size + 1)) (q ++ [y])) = upd12 (fun y => B (q ++ [y])) x (some (w.heap.size + 1)) := by
          funext y
          unfold updP upd12
          by_cases e4 : y = x
          · rw [if_pos e4, if_pos (by rw [e4])]
          · rw [if_neg e4, if_neg (fun e5 => e4 (snoc_inj e5).2)]
        rw [e3]
        exact hM
      · obtain ⟨n', s', hn', hm⟩ := h.kids q k hq
        refine ⟨n', s', by omega, ?_⟩
        have e3 : (fun y => updP B (p ++ [x]) (some (w.heap.size + 1)) (q ++ [y])) = fun y => B (q ++ [y]) := by
          funext y
          exact hpr _ (fun e5 => e2 (snoc_inj e5).1)
        rw [e3]
        exact hm.of_block (old _ (mlt q k hq) (fun e4 => e2 (h.minj q p k g hq hp e4)))
  · by_cases e : q = p ++ [x]
    · subst e
      rw [hnew] at hq
      cases hq
    · rw [hpr q e] at hq
      by_cases e2 : q ++ [y] = p ++ [x]
      · have := (snoc_inj e2).1
        rw [this, hp] at hq
        cases hq
      · rw [hpr _ e2]; exact h.off q y hq
  · by_cases e : q = p ++ [x]
    · subst e
      rw [hnew] at hq
      cases hq
    · rw [hpr q e] at hq
      rw [kpr q e]; exact h.kept q hq
  · by_cases e : q = p ++ [x]
    · by_cases e' : q' = p ++ [x]
      · rw [e, e']
      · rw [e, hnew] at hq
        rw [hpr q' e'] at hq'
        cases hq
        have := lt q' _ hq'
        omega
    · rw [hpr q e] at hq
      by_cases e' : q' = p ++ [x]
      · rw [e', hnew] at hq'
        cases hq'
        have := lt q _ hq
        omega
      · rw [hpr q' e'] at hq'
        exact h.inj q q' k hq hq'
  · by_cases e : q = p ++ [x]
    · by_cases e' : q' = p ++ [x]
      · rw [e, e']
      · rw [e, hnew] at hq
        rw [hpr q' e'] at hq'
        cases hq
        have l1 := lt q' _ hq'
        have l2 := mlt q' _ hq'
        simp only at hm
        rw [if_pos trivial, if_neg (by omega)] at hm
        omega
    · rw [hpr q e] at hq
      have l1 := lt q _ hq
      have l2 := mlt q _ hq
      by_cases e' : q' = p ++ [x]
      · rw [e', hnew] at hq'
        cases hq'
        simp only at hm
        rw [if_pos trivial, if_neg (by omega)] at hm
        omega
      · rw [hpr q' e'] at hq'
        have l3 := lt q' _ hq'
        rw [mold k l1, mold k' l3] at hm
        exact h.minj q q' k k' hq hq' hm
end Go.Proofs.YtefolifecbhgoaaGreat
namespace Go.Proofs.YtefolifecbhgoaaGreat
open Go.RowKit Gf2
set_option linter.unusedVariables false

theorem tk12_len (F : Nat → Int) (c : Nat) : (tk12 F c).length = c := by unfold tk12; simp
theorem tk12_inj {F : Nat → Int} {c d : Nat} (h : tk12 F c = tk12 F d) : c = d := by rw [← tk12_len F c, h, tk12_len]
def cnt12 (B : List Int → Option Nat) (F : Nat → Int) : Nat → Nat
  | 0 => 0
  | c + 1 => cnt12 B F c + (if B (tk12 F (c + 1)) = none then 1 else 0)
theorem cnt12_le (B : List Int → Option Nat) (F : Nat → Int) : ∀ c, cnt12 B F c ≤ c
  | 0 => Nat.le_refl _
  | c + 1 => by have := cnt12_le B F c; unfold cnt12; split <;> omega
structure Ad (w W : World) (r N : Nat) (F : Nat → Int) (c : Nat) (B : List Int → Option Nat) (MB : Nat → Nat) (K : List Int → Option Nat) (B' : List Int → Option Nat) (MB' : Nat → Nat) : Prop where
  tq : Tq W r (N + c) B' MB' K
  ext : ∀ q g, B q = some g → B' q = some g ∧ MB' g = MB g
  new : ∀ q, B q = none → B' q ≠ none → ∃ i, i ≤ c ∧ q = tk12 F i
  low : ∀ q g, B' q = some g → B q = none → w.heap.size ≤ g ∧ w.heap.size ≤ MB' g
  ke : Ke (fun k => ∃ q g, B q = some g ∧ k = MB g) w W
theorem Ad.next {w W : World} {r N c : Nat} {F : Nat → Int} {B B' : List Int → Option Nat} {MB MB' : Nat → Nat} {K : List Int → Option Nat} (h : Ad w W r N F c B MB K B' MB') : Ad w W r N F (c + 1) B MB K B' MB' :=
  ⟨⟨⟨h.tq.root, h.tq.node, fun p g hp => by obtain ⟨n, s, hn, hm⟩ := h.tq.kids p g hp; exact ⟨n, s, by omega, hm⟩, h.tq.off⟩, h.tq.kept, h.tq.inj, h.tq.minj⟩, h.ext, fun q h1 h2 => by obtain ⟨i, hi, e⟩ := h.new q h1 h2; exact ⟨i, by omega, e⟩, h.low, h.ke⟩
theorem Ad.grow {w W W2 : World} {r N c g : Nat} {F : Nat → Int} {B B' : List Int → Option Nat} {MB MB' : Nat → Nat} {K : List Int → Option Nat} (h : Ad w W r N F c B MB K B' MB') (hp : B' (tk12 F c) = some g) (hx : B' (tk12 F c ++ [F c]) = none)
    {n s : Nat} (hn : n ≤ N + c + 1) (hM : Mp W2 (MB' g) n s (upd12 (fun y => B' (tk12 F c ++ [y])) (F c) (some (W.heap.size + 1))))
    (ht : ((W.alloc (.map #[] 0)).alloc (.cells #[.map (some W.heap.size), .pointer none] 170)).mapTurned W2 (MB' g)) :
    Ad w W2 r N F (c + 1) B MB K (updP B' (tk12 F (c + 1)) (some (W.heap.size + 1))) (fun k => if k = W.heap.size + 1 then W.heap.size else MB' k) := by
  have hk : updP K (tk12 F c ++ [F c]) none = K := by
    funext q
    unfold updP
    split
    · rename_i e; rw [e]; exact (h.tq.kept _ hx).symm
    · rfl
  have t := h.tq.grow hp hx hn hM ht
  rw [hk, ← tk12_succ] at t
  rw [← tk12_succ] at hx
  have lt : ∀ q k, B' q = some k → k < W.heap.size := fun q k hq => (Array.getElem?_eq_some_iff.1 (h.tq.node q k hq)).1
  have gr := ht.grown
  have hb0 : Below W.heap.size W ((W.alloc (.map #[] 0)).alloc (.cells #[.map (some W.heap.size), .pointer none] 170)) := ((Below.refl _ _).alloc (Nat.le_refl _) _).alloc (by simp) _
  refine ⟨t, fun q k hq => ?_, fun q h1 h2 => ?_, fun q k hq hn => ?_, h.ke.1.trans ((hb0.mono (Nat.zero_le _)).trans ⟨gr.os, gr.tape, gr.output, gr.size, fun x hx => absurd hx (Nat.not_lt_zero _)⟩), fun k hk hE => ?_⟩
  · obtain ⟨a1, a2⟩ := h.ext q k hq
    have ne : q ≠ tk12 F (c + 1) := fun e => by rw [e, hx] at a1; cases a1
    have := lt q k a1
    exact ⟨(if_neg ne).trans a1, (if_neg (by omega)).trans a2⟩
  · by_cases e : q = tk12 F (c + 1)
    · exact ⟨c + 1, Nat.le_refl _, e⟩
    · obtain ⟨i, hi, e2⟩ := h.new q h1 (fun e3 => h2 ((if_neg e).trans e3))
      exact ⟨i, by omega, e2⟩
  · have z := h.ke.size
    by_cases e : q = tk12 F (c + 1)
    · have : updP B' (tk12 F (c + 1)) (some (W.heap.size + 1)) q = some (W.heap.size + 1) := if_pos e
      rw [this] at hq
      cases hq
      refine ⟨by omega, ?_⟩
      show w.heap.size ≤ if W.heap.size + 1 = W.heap.size + 1 then W.heap.size else _
      rw [if_pos rfl]; exact z
    · have e2 : updP B' (tk12 F (c + 1)) (some (W.heap.size + 1)) q = B' q := if_neg e
      rw [e2] at hq
      have := lt q k hq
      obtain ⟨l1, l2⟩ := h.low q k hq hn
      refine ⟨l1, ?_⟩
      show w.heap.size ≤ if k = W.heap.size + 1 then W.heap.size else MB' k
      rw [if_neg (by omega)]; exact l2
  · have z := h.ke.size
    have ne : k ≠ MB' g := fun e => by
      cases hB : B (tk12 F c) with
      | none => have := (h.low _ _ hp hB).2; omega
      | some g2 =>
        obtain ⟨a1, a2⟩ := h.ext _ _ hB
        rw [hp] at a1
        cases a1
        exact hE ⟨_, _, hB, by rw [e, a2]⟩
    rw [gr.block k (by simp; omega) (fun e => ne (by have := Option.some.inj e; omega)), hb0.block k (by omega)]
    exact h.ke.2 k hk hE
end Go.Proofs.YtefolifecbhgoaaGreat
namespace Go.Proofs.YtefolifecbhgoaaGreat
open Go.RowKit Gf2
set_option linter.unusedVariables false

theorem cell_blk12 {w w' : World} {g : Nat} (q : Nat) (h : w'.heap[g]? = w.heap[g]?) : w'.cell? ⟨g, q, none⟩ = w.cell? ⟨g, q, none⟩ := by
  unfold World.cell?
  simp only [h]
theorem map_nocell {w : World} {b q : Nat} {es : Array MapEntry} {c : Nat} (h : w.heap[b]? = some (.map es c)) : w.cell? ⟨b, q, none⟩ = none := by
  unfold World.cell?
  simp [h]
theorem Tr.row {w : World} {r N : Nat} {B : List Int → Option Nat} {MB : Nat → Nat} {K : List Int → Option Nat} (h : Tr w r N B MB K) {p : List Int} {g : Nat} (hp : B p = some g) : w.rowIs g 170 2 (fun i => if i = 0 then .map (some (MB g)) else pv12 (K p)) :=
  ⟨_, h.node p g hp, rfl, fun i hi => by
    match i, hi with
    | 0, _ => rfl
    | 1, _ => rfl⟩
set_option maxHeartbeats 4000000 in
set_option maxRecDepth 100000 in
theorem add12 (r eb n N cap : Nat) (a : Option Addr) (vv : Value) (B : List Int → Option Nat) (MB : Nat → Nat) (K : List Int → Option Nat) (F : Nat → Int) (w : World) (h : Tq w r N B MB K)
    (hE : w.heap[eb]? = some (.cells #[.slice a n cap, vv] 205)) (hv : Qi w (.slice a n cap) n F) (hw : ∀ i, i < n → (Lit.int .i64 (F i)).wf = true) (hN : N + n < maxLen) :
    Calls Tryz.prog 154 #[.pointer (some ⟨r, 0, none⟩), .pointer (some ⟨eb, 0, none⟩)] w fun e w' => e = .returned (.int .i64 (cnt12 B F n : Nat)) ∧
      ∃ W B' MB' g, Ad w W r N F n B MB K B' MB' ∧ B' (tk12 F n) = some g ∧ w' = W.setCell ⟨g, 1, none⟩ (.pointer (some ⟨eb, 0, none⟩)) := by
  have z0 : w.cell? ⟨eb, 0, none⟩ = some (.slice a n cap) := by rw [cell_of_row _ _ 0 _ _ _ hE]; rfl
  obtain ⟨hnb, -, a', cap', e, -, -, h4⟩ := hv
  cases e
  have H4 : Hid (∀ W, Ke (fun k => ∃ q g, B q = some g ∧ k = MB g) w W → ∀ c, c < n → ∃ b o, a = some ⟨b, o, none⟩ ∧ W.cell? ⟨b, o + c, none⟩ = some (.int .i64 (F c))) := fun W hk c hc => by
    obtain ⟨b, o, e, hl, hcell⟩ := h4 (by omega)
    refine ⟨b, o, e, ?_⟩
    have hb : ¬ ∃ q g, B q = some g ∧ b = MB g := fun ⟨q, g, hq, e2⟩ => by
      obtain ⟨n1, s1, -, D, ⟨es, clock, hm, -⟩, -⟩ := h.kids q g hq
      have := hcell c hc
      rw [e2, map_nocell hm] at this
      cases this
    exact (cell_blk12 _ (hk.2 b hl hb)).trans (hcell c hc)
  have HW : Hid (∀ i, i < n → (Lit.int .i64 (F i)).wf = true) := hw
  have HN : Hid (N + n < maxLen ∧ n ≤ big) := ⟨hN, hnb⟩
  have H0 : Hid (Ad w w r N F 0 B MB K B MB) := ⟨h, fun q g hq => ⟨hq, rfl⟩, fun q h1 h2 => absurd h1 h2, fun q g h1 h2 => (by rw [h1] at h2; cases h2), Ke.refl _ _⟩
  have HR : Hid (B (tk12 F 0) = some r) := h.root
  clear h4 hw hN h hE hnb
  go_enter Tryz.func154, Tryz.ntmps154
  go_wp2
  clear z0
  go_loopw [0, 5, 14] (fun nv mv iv wr => ∃ (c g : Nat) (B' : List Int → Option Nat) (MB' : Nat → Nat), c ≤ n ∧ iv = .int .i64 c ∧ nv = .pointer (some ⟨g, 0, none⟩) ∧ mv = .int .i64 (cnt12 B F c : Nat) ∧ Hid (Ad w wr r N F c B MB K B' MB' ∧ B' (tk12 F c) = some g)) (fun _ _ i _ => n - (intOf i).toNat)
  case atStart => exact ⟨0, r, B, MB, Nat.zero_le _, rfl, rfl, rfl, H0.out, HR.out⟩
  case round =>
    obtain ⟨c, g, B', MB', hc, rfl, rfl, rfl, hA⟩ := hrel
    by_cases hct : c < n
    · obtain ⟨b, o, rfl, q1⟩ := H4.out wr hA.out.1.ke c hct
      have ib : ((c : Nat) : Int) < (n : Int) := Int.ofNat_lt.2 hct
      have W1 := wrap_succ8 (j := c) (by have := HN.out.2; omega)
      have q2 := hA.out.1.tq.toTr.cell0 hA.out.2
      obtain ⟨n1, s1, hn1, hM⟩ := hA.out.1.tq.kids _ _ hA.out.2
      have hwf := HW.out c hct
      have hl := hM.look hwf
      cases hB : B' (tk12 F c ++ [F c]) with
      | some g2 =>
        rw [hB] at hl
        have hl : (Instr.lookup 167 (.map (some (MB' g))) (.int .i64 (F c)) false).run Tryz.prog wr = .ok (.pointer (some ⟨g2, 0, none⟩)) wr := hl
        have hcnt : cnt12 B F (c + 1) = cnt12 B F c := by
          have hne : B (tk12 F (c + 1)) ≠ none := fun hn => by
            have h2 : B' (tk12 F (c + 1)) ≠ none := by rw [tk12_succ, hB]; simp
            obtain ⟨i, hi, e⟩ := hA.out.1.new _ hn h2
            have := tk12_inj e
            omega
          show cnt12 B F c + (if B (tk12 F (c + 1)) = none then 1 else 0) = _
          rw [if_neg hne]; rfl
        have HX : Hid (c < n ∧ cnt12 B F (c + 1) = cnt12 B F c ∧ Ad w wr r N F (c + 1) B MB K B' MB' ∧ B' (tk12 F (c + 1)) = some g2) := ⟨hct, hcnt, hA.out.1.next, by rw [tk12_succ]; exact hB⟩
        generalize cnt12 B F c = m at HX ⊢
        generalize F c = y at q1 hl
        clear hA hB hM hwf hn1 hct hc hcnt H0 HR HW H4 HN
        go_wp2
        go_roundw
        case rel => exact ⟨c + 1, g2, B', MB', HX.out.1, by first | rfl | (rw [W1]; rfl), rfl, by rw [HX.out.2.1], HX.out.2.2⟩
        case measure => first | exact meas_lt8 HX.out.1 | (rw [W1]; exact meas_lt8 HX.out.1)
      | none =>
        rw [hB] at hl
        have hl : (Instr.lookup 167 (.map (some (MB' g))) (.int .i64 (F c)) false).run Tryz.prog wr = .ok (.pointer none) wr := hl
        have c1 := newNode12 wr
        have hb0 : Below wr.heap.size wr ((wr.alloc (.map #[] 0)).alloc (.cells #[.map (some wr.heap.size), .pointer none] 170)) := ((Below.refl _ _).alloc (Nat.le_refl _) _).alloc (by simp) _
        have gl : g < wr.heap.size := (Array.getElem?_eq_some_iff.1 (hA.out.1.tq.node _ g hA.out.2)).1
        have q3 := (hb0.cell (p := ⟨g, 0, none⟩) gl).trans q2
        obtain ⟨w2, hup, hM2, hT2⟩ := (hM.of_block (hb0.block _ hM.lt)).put hwf (wr.heap.size + 1) (by have := HN.out.1; omega)
        have hA2 := hA.out.1.grow hA.out.2 hB (by omega) hM2 hT2
        have hcnt : cnt12 B F (c + 1) = cnt12 B F c + 1 := by
          have hno : B (tk12 F (c + 1)) = none := by
            cases hh : B (tk12 F (c + 1)) with
            | none => rfl
            | some k => have := (hA.out.1.ext _ _ hh).1; rw [tk12_succ, hB] at this; cases this
          show cnt12 B F c + (if B (tk12 F (c + 1)) = none then 1 else 0) = _
          rw [if_pos hno]
        have W2 := wrap_succ8 (j := cnt12 B F c) (by have := cnt12_le B F c; have := HN.out.2; omega)
        have HX : Hid (c < n ∧ cnt12 B F (c + 1) = cnt12 B F c + 1 ∧ Ad w w2 r N F (c + 1) B MB K _ _ ∧ updP B' (tk12 F (c + 1)) (some (wr.heap.size + 1)) (tk12 F (c + 1)) = some (wr.heap.size + 1)) := ⟨hct, hcnt, hA2, if_pos rfl⟩
        generalize cnt12 B F c = m at HX W2 ⊢
        generalize F c = y at q1 hl hup
        clear hA hA2 hB hM hM2 hT2 hwf hn1 hct hc hcnt H0 HR HW H4 HN hb0 gl
        go_wp2_with (go_at_call 53; (with_reducible refine c1.mono ?_); rintro e w9 ⟨rfl, hw9⟩; subst hw9; clear c1)
        go_roundw
        case rel => exact ⟨c + 1, _, _, _, HX.out.1, by first | rfl | (rw [W1]; rfl), rfl, by first | (rw [HX.out.2.1]; rfl) | (rw [HX.out.2.1, W2]; rfl), HX.out.2.2⟩
        case measure => first | exact meas_lt8 HX.out.1 | (rw [W1]; exact meas_lt8 HX.out.1)
    · obtain rfl : c = n := by omega
      have hr := hA.out.1.tq.toTr.row hA.out.2
      have q1 := hr.cell (i := 1) (by decide)
      have q2 := hr.frozen 1
      have HX : Hid _ := hA.out
      clear hA hr H0 HR HW H4 HN hct hc
      go_wp2
      go_ret
      exact ⟨rfl, wr, B', MB', g, HX.out.1, HX.out.2, rfl⟩
end Go.Proofs.YtefolifecbhgoaaGreat
namespace Go.Proofs.YtefolifecbhgoaaGreat
open Go.RowKit Gf2
set_option linter.unusedVariables false

theorem two_arr {c : Array Value} {x y : Value} (h : c.size = 2) (h0 : c[0]? = some x) (h1 : c[1]? = some y) : c = #[x, y] := by
  obtain ⟨l⟩ := c
  match l, h with
  | [u, v], _ =>
    simp at h0 h1
    rw [h0, h1]
theorem Tq.keep {w : World} {r N : Nat} {B : List Int → Option Nat} {MB : Nat → Nat} {K : List Int → Option Nat} (h : Tq w r N B MB K) {p : List Int} {g : Nat} (hp : B p = some g) (o : Option Nat) :
    Tq (w.setCell ⟨g, 1, none⟩ (pv12 o)) r N B MB (updP K p o) ∧ Only g w (w.setCell ⟨g, 1, none⟩ (pv12 o)) := by
  have ho : Only g w (w.setCell ⟨g, 1, none⟩ (pv12 o)) := (Only.refl g w).setCell 1 _
  have blk : ∀ k, k < w.heap.size → k ≠ g → (w.setCell ⟨g, 1, none⟩ (pv12 o)).heap[k]? = w.heap[k]? := fun k hk hne => ho.kp.2 k hk hne
  have lt : ∀ q k, B q = some k → k < w.heap.size := fun q k hq => (Array.getElem?_eq_some_iff.1 (h.node q k hq)).1
  refine ⟨⟨⟨h.root, fun q k hq => ?_, fun q k hq => ?_, h.off⟩, fun q hq => ?_, h.inj, h.minj⟩, ho⟩
  · by_cases e : q = p
    · subst e
      rw [hp] at hq
      cases hq
      obtain ⟨c, h1, h2, h3⟩ := (h.toTr.row hp).set 1 (pv12 o)
      have a0 := h3 0 (by decide)
      have a1 := h3 1 (by decide)
      rw [h1, two_arr h2 a0 a1]
      have : updP K q o q = o := if_pos rfl
      rw [this]
      rfl
    · have : updP K p o q = K q := if_neg e
      rw [this, blk k (lt q k hq) (fun e2 => e (h.inj q p k hq (by rw [e2]; exact hp)))]
      exact h.node q k hq
  · obtain ⟨n, s, hn, hm⟩ := h.kids q k hq
    refine ⟨n, s, hn, hm.of_block (blk _ hm.lt (fun e => ?_))⟩
    obtain ⟨D, ⟨es, clock, hb, -⟩, -⟩ := hm
    have := h.node p g hp
    rw [← e, hb] at this
    cases this
  · have ne : q ≠ p := fun e => by rw [e, hp] at hq; cases hq
    have : updP K p o q = K q := if_neg ne
    rw [this]
    exact h.kept q hq
theorem Tq.fresh (w : World) : Tq ((w.alloc (.map #[] 0)).alloc (.cells #[.map (some w.heap.size), .pointer none] 170)) (w.heap.size + 1) 0 (fun p => if p = [] then some (w.heap.size + 1) else none) (fun _ => w.heap.size) (fun _ => none) := by
  have e1 : (w.alloc (.map #[] 0)).heap.size = w.heap.size + 1 := by simp
  have n1 := heap_alloc_new (w.alloc (.map #[] 0)) (.cells #[.map (some w.heap.size), .pointer none] 170)
  rw [e1] at n1
  have one : ∀ (q : List Int) k, (if q = [] then some (w.heap.size + 1) else none) = some k → q = [] ∧ k = w.heap.size + 1 := fun q k hq => by
    by_cases e : q = []
    · rw [if_pos e] at hq; cases hq; exact ⟨e, rfl⟩
    · rw [if_neg e] at hq; cases hq
  refine ⟨⟨if_pos rfl, fun q k hq => ?_, fun q k hq => ?_, fun q x hq => ?_⟩, fun _ _ => rfl, fun q q' k h1 h2 => by rw [(one q k h1).1, (one q' k h2).1], fun q q' k k' h1 h2 _ => by rw [(one q k h1).1, (one q' k' h2).1]⟩
  · rw [(one q k hq).2]; exact n1
  · rw [(one q k hq).1]
    refine ⟨0, 0, Nat.le_refl _, ?_⟩
    have e2 : (fun x => (fun p : List Int => if p = [] then some (w.heap.size + 1) else none) ([] ++ [x])) = fun (_ : Int) => (none : Option Nat) := by funext x; rfl
    rw [e2]
    exact (mp_made w).of_block ((World.grownBy_alloc (w.alloc (.map #[] 0)) _ none).block _ (by simp) (by simp))
  · show (if q ++ [x] = [] then some (w.heap.size + 1) else none) = none
    rw [if_neg (by simp)]
end Go.Proofs.YtefolifecbhgoaaGreat
