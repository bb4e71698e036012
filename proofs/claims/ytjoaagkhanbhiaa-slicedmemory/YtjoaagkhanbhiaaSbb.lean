import Derived.Test.YtjoaagkhanbhiaaSba
namespace Go.Proofs.Ytjoaagkhanbhiaa
open Go.RowKit Gf2
set_option linter.unusedVariables false

/-- what awake has made. -/
def Ax (w1 W : World) : Prop := ∃ N B G, Ow w1 2 N B G W ∧ B 0 = w1.heap.size ∧ N 0 = 3 ∧ ∀ i, i < 3 → G 0 i = [29, 2, 0].getD i 0
theorem aw_mul (w1 : World) (p : Addr) (lo hi : Nat) (hk : Sk w1 p lo hi) :
    Calls Try.prog 18 #[.pointer (some p), .int .u8 2, .slice (some ⟨w1.heap.size, 0, none⟩) 3 3, .slice (some ⟨w1.heap.size + 1, 0, none⟩) 3 3]
      ((w1.alloc (.cells #[.int .u8 7, .int .u8 7, .int .u8 7] 5)).alloc (.cells #[.int .u8 128, .int .u8 1, .int .u8 0] 5)) fun e w' => e = .returned (.int .i64 0) ∧ Ax w1 w' := by
  have o1 := (Ow.start w1 (fun _ => 0) (fun _ => 0) (fun _ _ => 0)).lit7 [7, 7, 7] (by decide) (by decide)
  have o2 := o1.lit7 [128, 1, 0] (by decide) (by decide)
  refine (sw_mul o2 hk 0 2 3 3 3 (by decide) (by decide) rfl (by decide) rfl (by decide) (o2.farRow 1 0 3 (by simp [upn]) (by decide) (by decide) (by decide) (Nat.le_refl _))).mono fun e w' ⟨h1, h2, _⟩ => ⟨h1, _, _, _, h2, rfl, rfl, fun i hi => ?_⟩
  match i, hi with
  | 0, _ => decide +kernel
  | 1, _ => decide +kernel
  | 2, _ => decide +kernel
  | i + 3, h => exact absurd h (by show ¬ i + 3 < 3; omega)
theorem aw_eq (w1 W : World) (h : Ax w1 W) :
    Calls Try.prog 8 #[.slice (some ⟨w1.heap.size, 0, none⟩) 3 3, .slice (some ⟨W.heap.size, 0, none⟩) 3 3] (W.alloc (.cells #[.int .u8 29, .int .u8 2, .int .u8 0] 5)) fun e w' => e = .returned (.bool true) ∧ Below w1.heap.size w1 w' := by
  obtain ⟨N, B, G, ho, hB, hN, hG⟩ := h
  have o2 := ho.lit7 [29, 2, 0] (by decide) (by decide)
  exact (sw_equal o2 3 (o2.own 0 3 3 (by rw [upn_other _ _ (by decide), hB]) (by decide) (by rw [upn_other _ _ (by decide), hN]) (by decide) (by decide)) (o2.own 2 3 3 (by rw [upn_same]) (by decide) rfl (by decide) (by decide)) (fun i hi => by rw [upn_other _ _ (by decide), upn_same]; exact hG i hi)).mono fun e w' ⟨h1, h2⟩ => ⟨h1, h2.1⟩
/-- what roomy lays: marks about the list. -/
def rmy (n : Nat) (S : Nat → Nat) (i : Nat) : Nat := if i < 3 then 201 + i else if i < 3 + n then S (i - 3) else 201 + (i - n)
/-- a list in the midst of marks, in a row of its own. -/
def Rmy (w w' : World) (g C n : Nat) (S : Nat → Nat) : Prop := n + 15 ≤ C ∧ w.heap.size ≤ g ∧ Below w.heap.size w w' ∧ ∃ F, Rw w' g C F ∧ ∀ i, i < n + 15 → F i = rmy n S i
theorem rmy_mid {n : Nat} {S : Nat → Nat} {j : Nat} (h : j < n) : rmy n S (3 + j) = S j := by
  unfold rmy
  rw [if_neg (by omega), if_pos (by omega), Nat.add_sub_cancel_left]
theorem Rmy.row {w w' : World} {g C n : Nat} {S : Nat → Nat} (h : Rmy w w' g C n S) : ∃ F, Rw w' g C F ∧ ∀ i, i < n + 15 → F i = rmy n S i := h.2.2.2
/-- the marks stand. -/
def Mrk (n : Nat) (F : Nat → Nat) : Prop := ∀ i, i < n + 15 → (i < 3 → F i = 201 + i) ∧ (3 + n ≤ i → F i = 201 + (i - n))
theorem Mrk.rmy {n : Nat} {S F : Nat → Nat} (h : ∀ i, i < n + 15 → F i = rmy n S i) : Mrk n F := by
  intro i hi
  rw [h i hi]
  unfold Go.Proofs.Ytjoaagkhanbhiaa.rmy
  refine ⟨fun h1 => if_pos h1, fun h1 => ?_⟩
  rw [if_neg (by omega), if_neg (by omega)]
end Go.Proofs.Ytjoaagkhanbhiaa
