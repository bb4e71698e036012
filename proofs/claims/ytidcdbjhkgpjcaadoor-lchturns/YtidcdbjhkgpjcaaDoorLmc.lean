import Derived.Test.YtidcdbjhkgpjcaaDoorLmb
import Derived.Test.YtidcdbjhkgpjcaaDoorLto
import Derived.Test.YtidcdbjhkgpjcaaDoorLra
import Derived.Test.YtidcdbjhkgpjcaaDoorTj4
namespace Go.Proofs.YtidcdbjhkgpjcaaDoor
open Go.RowKit Gf2
set_option linter.unusedVariables false

theorem mb_up {i j : Nat} (hj : j < 2 ^ i) : ∀ d, mb (i + d) j = mb i j := by
  intro d
  induction d with
  | zero => rfl
  | succ d ih =>
    show (if j < 2 ^ (i + d) then mb (i + d) j else _) = _
    rw [if_pos (Nat.lt_of_lt_of_le hj (Nat.pow_le_pow_right (by decide) (Nat.le_add_right _ _))), ih]
theorem mb_next {i j : Nat} (hi : i < 8) (hj : j < 2 ^ i) : mb 8 (2 ^ i + j) = pm 65581 (mb 8 j) (sp i) := by
  have h1 : 2 ^ i + j < 2 ^ (i + 1) := by rw [Nat.pow_succ]; omega
  have e1 := mb_up h1 (8 - (i + 1))
  rw [show i + 1 + (8 - (i + 1)) = 8 by omega] at e1
  have e2 := mb_up hj (8 - i)
  rw [show i + (8 - i) = 8 by omega] at e2
  rw [e1, e2]
  show (if 2 ^ i + j < 2 ^ i then mb i (2 ^ i + j) else pm 65581 (mb i (2 ^ i + j - 2 ^ i)) (sp i)) = _
  rw [if_neg (by omega), Nat.add_sub_cancel_left]
theorem mb_dg : ∀ i j, j < 2 ^ i → Dg (mb i j) (j + 1) := by
  intro i
  induction i with
  | zero => intro j hj; show Dg po (j + 1); intro y hy; unfold po; rw [if_neg (by omega)]
  | succ i ih =>
    intro j hj
    show Dg (if j < 2 ^ i then mb i j else pm 65581 (mb i (j - 2 ^ i)) (sp i)) (j + 1)
    rw [Nat.pow_succ] at hj
    by_cases h : j < 2 ^ i
    · rw [if_pos h]; exact ih j h
    · rw [if_neg h]
      have := fld16.dg_pm (ih (j - 2 ^ i) (by omega)) (sp_dg i)
      rw [show j - 2 ^ i + 1 + (2 ^ i + 1) - 1 = j + 1 by omega] at this
      exact this
theorem mb_0 : mb 8 0 = po := mb_up (i := 0) (j := 0) (by decide) 8
/-- L polynomials in a list of lists. -/
def Mm (w W : World) (lv : Value) (L : Nat) : Prop := ∃ gl C U, lv = .slice (some ⟨gl, 0, none⟩) L C ∧ L ≤ C ∧ C ≤ big ∧ W.rowIs gl 27 C U ∧ w.heap.size ≤ gl ∧ Below w.heap.size w W ∧ ∀ j, j < L → ∃ M, Fr W w.heap.size (U j) M ∧ co M = mb 8 j ∧ M.length ≤ j + 1
theorem Mm.below {w W W' : World} {lv : Value} {L : Nat} (h : Mm w W lv L) (hb : Below W.heap.size W W') : Mm w W' lv L := by
  obtain ⟨gl, C, U, e, h1, h2, h3, h4, h5, h6⟩ := h
  refine ⟨gl, C, U, e, h1, h2, h3.of_block (hb.block _ h3.lt), h4, bthen13 h5 hb, fun j hj => ?_⟩
  obtain ⟨M, m1, m2, m3⟩ := h6 j hj
  exact ⟨M, m1.below hb, m2, m3⟩
theorem Mm.form {w W : World} {lv : Value} {L : Nat} (h : Mm w W lv L) : ∃ gl C, lv = .slice (some ⟨gl, 0, none⟩) L C := by obtain ⟨gl, C, U, e, -⟩ := h; exact ⟨gl, C, e⟩
theorem Mm.size {w W : World} {lv : Value} {L : Nat} (h : Mm w W lv L) : Below w.heap.size w W := by obtain ⟨gl, C, U, -, -, -, -, -, hb, -⟩ := h; exact hb
theorem fr_ne {W : World} {B gl C : Nat} {U : Nat → Value} {v : Value} {M : List Nat} (h : Fr W B v M) (hr : W.rowIs gl 27 C U) : ∃ g, B ≤ g ∧ v = .slice (some ⟨g, 0, none⟩) M.length M.length ∧ W.rowIs g 26 M.length (fun i => .int .u16 (co M i : Nat)) ∧ g ≠ gl := by
  obtain ⟨-, -, g, hg, e, hrow⟩ := h
  refine ⟨g, hg, e, hrow, fun e2 => ?_⟩
  subst e2
  obtain ⟨c, hc, -, -⟩ := hrow
  obtain ⟨c', hc', -, -⟩ := hr
  rw [hc] at hc'
  simp at hc'
theorem Mm.push {w W : World} {lv : Value} {L : Nat} (h : Mm w W lv L) {v : Value} {M : List Nat} (hv : Fr W w.heap.size v M) (hM : co M = mb 8 L) (hl : M.length ≤ L + 1) (hn : L ≤ 300) :
    ∃ w' lv', (Builtin.append_ #[61, 61] 61 #[lv, .slice (some ⟨W.heap.size, 0, none⟩) 1 1]).run Tryd.prog (W.alloc (.cells #[v] 27)) = .ok lv' w' ∧ Mm w w' lv' (L + 1) ∧ ∀ (u : Value) (N : List Nat), Fr W w.heap.size u N → Fr w' w.heap.size u N := by
  obtain ⟨gl, C, U, rfl, h1, h2, h3, h4, h5, h6⟩ := h
  have hv1 : v.oneCell' = true := by obtain ⟨-, -, g, -, e, -⟩ := hv; rw [e]; rfl
  have hU : ∀ i, i < L → (U i).oneCell' = true := fun i hi => by
    obtain ⟨M, ⟨-, -, g, -, e, -⟩, -, -⟩ := h6 i hi
    rw [e]; rfl
  obtain ⟨w', g', C', U', hrun, k1, k2, k3, k4, k5, hcase⟩ := app_l6 W h3 h1 h2 hU v hv1 (by omega)
  have hal := below_alloc W (.cells #[v] 27)
  have keep : ∀ (u : Value) (N : List Nat), Fr W w.heap.size u N → Fr w' w.heap.size u N := fun u N hu => by
    have hu1 := hu.1
    have hu2 := hu.2.1
    obtain ⟨g, hg, e, hrow, hne⟩ := fr_ne hu h3
    refine ⟨hu1, hu2, g, hg, e, hrow.of_block ?_⟩
    rcases hcase with ⟨-, ho⟩ | ⟨-, hb⟩
    · rw [ho.2.2 g hne]; exact hal.block g hrow.lt
    · rw [hb.block g (Nat.lt_of_lt_of_le hrow.lt hal.size)]; exact hal.block g hrow.lt
  refine ⟨w', _, hrun, ⟨g', C', U', rfl, k1, k2, k3, ?_, ?_, fun j hj => ?_⟩, keep⟩
  · rcases hcase with ⟨rfl, -⟩ | ⟨hg, -⟩
    · exact h4
    · have := h5.size; omega
  · rcases hcase with ⟨rfl, ho⟩ | ⟨-, hb⟩
    · exact (bthen13 h5 hal).trans (ho.below h4)
    · exact bthen13 (bthen13 h5 hal) hb
  · by_cases e : j < L
    · obtain ⟨N, m1, m2, m3⟩ := h6 j e
      exact ⟨N, by rw [k4 j e]; exact keep _ _ m1, m2, m3⟩
    · obtain rfl : j = L := by omega
      exact ⟨M, by rw [k5]; exact keep _ _ hv, hM, hl⟩
end Go.Proofs.YtidcdbjhkgpjcaaDoor
