import Derived.Test.YtfbgcednodnioaaDoorPnad
import Derived.Deep.Upon
namespace Go.Proofs.YtfbgcednodnioaaDoor
open Go.RowKit Gf2
set_option linter.unusedVariables false

/-- S 0, .., S (n - 1) as cells. -/
def bs : Nat → (Nat → Nat) → List Value
  | 0, _ => []
  | n + 1, S => Value.int .u8 ((S 0 : Nat) : Int) :: bs n (fun i => S (i + 1))
theorem bs_len : ∀ (n : Nat) (S : Nat → Nat), (bs n S).length = n
  | 0, _ => rfl
  | n + 1, S => by rw [bs, List.length_cons, bs_len n]
theorem bs_get : ∀ (n : Nat) (S : Nat → Nat) (i : Nat), i < n → (bs n S)[i]? = some (Value.int .u8 ((S i : Nat) : Int))
  | 0, _, i, h => absurd h (Nat.not_lt_zero _)
  | n + 1, S, 0, _ => rfl
  | n + 1, S, i + 1, h => by rw [bs, List.getElem?_cons_succ]; exact bs_get n _ i (by omega)
theorem bs_one {n : Nat} {S : Nat → Nat} : ∀ u ∈ bs n S, u.oneCell' = true := by
  intro u hu
  obtain ⟨i, hi⟩ := List.getElem?_of_mem hu
  have hl : i < n := by
    rcases Nat.lt_or_ge i n with h | h
    · exact h
    · rw [List.getElem?_eq_none (by rw [bs_len]; exact h)] at hi; cases hi
  rw [bs_get n S i hl] at hi
  cases hi
  rfl
theorem setCells_rw {g N : Nat} : ∀ (n : Nat) (S : Nat → Nat) (o : Nat) (w : World) (F : Nat → Nat), Rw w g N F → o + n ≤ N → (∀ i, i < n → S i < 256) → Rw (w.setCells g o (bs n S)) g N (pl F o n S) ∧ Only g w (w.setCells g o (bs n S))
  | 0, S, o, w, F, h, _, _ => ⟨h.congr (fun i hi => (pl_out (by omega)).symm), Only.refl _ _⟩
  | n + 1, S, o, w, F, h, ho, hS => by
    have h1 : Rw (w.setCell ⟨g, o, none⟩ (.int .u8 ((S 0 : Nat) : Int))) g N (fun i => if i = o then S 0 else F i) := by
      refine ⟨h.1, fun i hi => ?_, (h.2.2.set o _).congr (fun i hi => ?_)⟩
      · dsimp only
        split
        · exact hS 0 (by omega)
        · exact h.2.1 i hi
      · dsimp only
        by_cases e : i = o
        · rw [if_pos e, if_pos e]
        · rw [if_neg e, if_neg e]
    have o1 : Only g w (w.setCell ⟨g, o, none⟩ (.int .u8 ((S 0 : Nat) : Int))) := (Only.refl g w).setCell o _
    obtain ⟨h2, o2⟩ := setCells_rw n (fun i => S (i + 1)) (o + 1) _ _ h1 (by omega) (fun i hi => hS (i + 1) (by omega))
    refine ⟨h2.congr (fun i hi => ?_), o1.trans o2⟩
    unfold pl
    dsimp only
    by_cases e : i = o
    · rw [if_neg (by omega), if_pos e, if_pos (by omega), e, Nat.sub_self]
    · by_cases e2 : o + 1 ≤ i ∧ i < o + 1 + n
      · rw [if_pos e2, if_pos (by omega)]
        show S (i - (o + 1) + 1) = S (i - o)
        rw [show i - (o + 1) + 1 = i - o by omega]
      · rw [if_neg e2, if_neg e, if_neg (by omega)]

theorem info_u8a : ∃ i, Tryd.prog.info? 5 = some i ∧ i.zero = some (Value.int .u8 0) ∧ i.size = 1 ∧ i.bytes = 1 := by
  have h := info_u8m
  cases hi : Tryd.prog.info? 5 with
  | none => rw [hi] at h; cases h
  | some i =>
    rw [hi] at h
    simp at h
    exact ⟨i, rfl, h.1, h.2.1, h.2.2⟩

end Go.Proofs.YtfbgcednodnioaaDoor
