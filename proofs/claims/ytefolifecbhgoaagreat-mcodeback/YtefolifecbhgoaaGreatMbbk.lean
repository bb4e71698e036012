import Derived.Test.YtefolifecbhgoaaGreatMbbj
import Derived.Test.YtefolifecbhgoaaGreatMbal
namespace Go.Proofs.YtefolifecbhgoaaGreat
open Go.RowKit Gf2
set_option linter.unusedVariables false


theorem new12_tt (w : World) (l : Nat) (h1 : 1 ≤ l) (h2 : l ≤ 1024) :
    Tt (((w.alloc (.map #[] 0)).alloc (.cells #[.map (some w.heap.size), .pointer none] 170)).alloc (.cells #[.int .i64 (l : Int), .pointer (some ⟨w.heap.size + 1, 0, none⟩), .int .i64 0, .slice none 0 0] 115))
      (fun q => w.heap.size ≤ q ∧ q < w.heap.size + 3) (w.heap.size + 2) l (w.heap.size + 1) 0 (fun p => if p = [] then some (w.heap.size + 1) else none) (fun _ => w.heap.size) (fun _ => none) 0 (.slice none 0 0) [] := by
  have hs : ((w.alloc (.map #[] 0)).alloc (.cells #[.map (some w.heap.size), .pointer none] 170)).heap.size = w.heap.size + 2 := by simp
  have hb : Below ((w.alloc (.map #[] 0)).alloc (.cells #[.map (some w.heap.size), .pointer none] 170)).heap.size ((w.alloc (.map #[] 0)).alloc (.cells #[.map (some w.heap.size), .pointer none] 170)) (((w.alloc (.map #[] 0)).alloc (.cells #[.map (some w.heap.size), .pointer none] 170)).alloc (.cells #[.int .i64 (l : Int), .pointer (some ⟨w.heap.size + 1, 0, none⟩), .int .i64 0, .slice none 0 0] 115)) := (Below.refl _ _).alloc (Nat.le_refl _) _
  have hq := Tq.fresh w
  refine ⟨⟨?_, hq.of (fun p g hp => ?_), fun p eb => ⟨fun h => (by cases h), fun ⟨x, h, _⟩ => (by cases h)⟩, fun p g hp => ?_, ⟨by omega, by omega⟩, fun b x h => (by cases h), by simp, h1, h2, ⟨[], by simp, fun p => ?_, rfl⟩, Nat.le_refl _, fun p hp => ?_, fun q hq => ?_⟩, .inl ⟨rfl, rfl⟩, by simp⟩
  · have := heap_alloc_new ((w.alloc (.map #[] 0)).alloc (.cells #[.map (some w.heap.size), .pointer none] 170)) (.cells #[.int .i64 (l : Int), .pointer (some ⟨w.heap.size + 1, 0, none⟩), .int .i64 0, .slice none 0 0] 115)
    rw [hs] at this
    exact this
  · have hg : g = w.heap.size + 1 := by
      by_cases e : p = []
      · rw [if_pos e] at hp; injection hp with hp; exact hp.symm
      · rw [if_neg e] at hp; cases hp
    exact ⟨hb.block _ (by rw [hs]; omega), hb.block _ (by rw [hs]; omega)⟩
  · have hg : g = w.heap.size + 1 := by
      by_cases e : p = []
      · rw [if_pos e] at hp; injection hp with hp; exact hp.symm
      · rw [if_neg e] at hp; cases hp
    exact ⟨⟨by omega, by omega⟩, ⟨Nat.le_refl _, by omega⟩⟩
  · constructor
    · intro h; cases h
    · rintro ⟨a1, a2⟩
      rw [if_neg a1] at a2
      exact absurd rfl a2
  · by_cases e : p = []
    · exact .inl e
    · rw [if_neg e] at hp
      exact absurd rfl hp
  · have e : (((w.alloc (.map #[] 0)).alloc (.cells #[.map (some w.heap.size), .pointer none] 170)).alloc (.cells #[.int .i64 (l : Int), .pointer (some ⟨w.heap.size + 1, 0, none⟩), .int .i64 0, .slice none 0 0] 115)).heap.size = w.heap.size + 3 := by simp
    rw [e]
    exact hq.2
section
variable {w : World} {Fp : Nat → Prop} {t l r N : Nat} {B : List Int → Option Nat} {MB : Nat → Nat} {K : List Int → Option Nat} {mm : Nat} {ov : Value} {L : List (Nat × Ent)}
end
end Go.Proofs.YtefolifecbhgoaaGreat
