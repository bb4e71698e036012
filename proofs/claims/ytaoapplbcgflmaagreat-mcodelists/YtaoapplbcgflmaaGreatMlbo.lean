import Derived.Test.YtaoapplbcgflmaaGreatMlbn
import Derived.Test.YtaoapplbcgflmaaGreatMlao
namespace Go.Proofs.YtaoapplbcgflmaaGreat
open Go.RowKit Gf2
set_option linter.unusedVariables false

-- layer 12: a new trie; Put of no key; Nodes; CopyValue
theorem new12_tt (w : World) (l : Nat) (h1 : 1 ≤ l) (h2 : l ≤ 1024) :
    Tt (((w.alloc (.map #[] 0)).alloc (.cells #[.map (some w.heap.size), .pointer none] 192)).alloc (.cells #[.int .i64 (l : Int), .pointer (some ⟨w.heap.size + 1, 0, none⟩), .int .i64 0, .slice none 0 0] 140))
      (fun q => w.heap.size ≤ q ∧ q < w.heap.size + 3) (w.heap.size + 2) l (w.heap.size + 1) 0 (fun p => if p = [] then some (w.heap.size + 1) else none) (fun _ => w.heap.size) (fun _ => none) 0 (.slice none 0 0) [] := by
  have hs : ((w.alloc (.map #[] 0)).alloc (.cells #[.map (some w.heap.size), .pointer none] 192)).heap.size = w.heap.size + 2 := by simp
  have hb : Below ((w.alloc (.map #[] 0)).alloc (.cells #[.map (some w.heap.size), .pointer none] 192)).heap.size ((w.alloc (.map #[] 0)).alloc (.cells #[.map (some w.heap.size), .pointer none] 192)) (((w.alloc (.map #[] 0)).alloc (.cells #[.map (some w.heap.size), .pointer none] 192)).alloc (.cells #[.int .i64 (l : Int), .pointer (some ⟨w.heap.size + 1, 0, none⟩), .int .i64 0, .slice none 0 0] 140)) := (Below.refl _ _).alloc (Nat.le_refl _) _
  have hq := Tq.fresh w
  refine ⟨⟨?_, hq.of (fun p g hp => ?_), fun p eb => ⟨fun h => (by cases h), fun ⟨x, h, _⟩ => (by cases h)⟩, fun p g hp => ?_, ⟨by omega, by omega⟩, fun b x h => (by cases h), by simp, h1, h2, ⟨[], by simp, fun p => ?_, rfl⟩, Nat.le_refl _, fun p hp => ?_, fun q hq => ?_⟩, .inl ⟨rfl, rfl⟩, by simp⟩
  · have := heap_alloc_new ((w.alloc (.map #[] 0)).alloc (.cells #[.map (some w.heap.size), .pointer none] 192)) (.cells #[.int .i64 (l : Int), .pointer (some ⟨w.heap.size + 1, 0, none⟩), .int .i64 0, .slice none 0 0] 140)
    rw [hs] at this
    exact this
  · have hg : g = w.heap.size + 1 := by
      by_cases e : p = []
      · rw [if_pos e] at hp; injection hp with hp; exact hp.symm
      · rw [if_neg e] at hp; cases hp
    exact ⟨hb.block _ (by rw [hs]; omega), hb.block _ (by rw [hs]; omega)⟩
  · have hg : g = w.heap.size + 1 := by
      by_cases e : p = []
      · rw [if_pos e] at hp; injection hp with hp; exact hp.symm
      · rw [if_neg e] at hp; cases hp
    exact ⟨⟨by omega, by omega⟩, ⟨Nat.le_refl _, by omega⟩⟩
  · constructor
    · intro h; cases h
    · rintro ⟨a1, a2⟩
      rw [if_neg a1] at a2
      exact absurd rfl a2
  · by_cases e : p = []
    · exact .inl e
    · rw [if_neg e] at hp
      exact absurd rfl hp
  · have e : (((w.alloc (.map #[] 0)).alloc (.cells #[.map (some w.heap.size), .pointer none] 192)).alloc (.cells #[.int .i64 (l : Int), .pointer (some ⟨w.heap.size + 1, 0, none⟩), .int .i64 0, .slice none 0 0] 140)).heap.size = w.heap.size + 3 := by simp
    rw [e]
    exact hq.2
section
variable {w : World} {Fp : Nat → Prop} {t l r N : Nat} {B : List Int → Option Nat} {MB : Nat → Nat} {K : List Int → Option Nat} {mm : Nat} {ov : Value} {L : List (Nat × Ent)}
end
end Go.Proofs.YtaoapplbcgflmaaGreat
namespace Go.Proofs.YtaoapplbcgflmaaGreat
open Go.RowKit Gf2
set_option linter.unusedVariables false

-- layer 12: a value's bytes are turned (filled)
theorem ke_drew12 {E : Nat → Prop} {a b : World} (h : Ke E a b) : Ke E a b.drew := ⟨h.1.drew, h.2⟩
section
variable {lo hi m : Nat} {w W : World} {v : Value} {n C B : Nat → Nat} {S : Nat → Nat → Nat} {x i j : Nat}
theorem cs_set12 (h : Cs lo hi w v m n C B S) {r j x : Nat} (hr : r < m) (hx : x < 256) :
    Cs lo hi (w.setCell ⟨B r, j, none⟩ (.int .u8 (x : Nat))) v m n C B (fun i y => if i = r ∧ y = j then x else S i y) := by
  have hk : Ke (fun z => ∃ r, r < m ∧ z = B r) w (w.setCell ⟨B r, j, none⟩ (.int .u8 (x : Nat))) := ((Only.refl (B r) w).setCell j _).kp.ke.mono (fun z _ e => ⟨r, hr, e⟩)
  refine h.turn hk (fun i hi => ?_)
  by_cases e : i = r
  · subst e
    refine ((h.row i hi).2.2.2.set j x hx).congr (fun y _ => ?_)
    by_cases e2 : y = j
    · rw [if_pos e2, if_pos ⟨rfl, e2⟩]
    · rw [if_neg e2, if_neg (fun h => e2 h.2)]
  · refine (((Only.refl (B r) w).setCell j (.int .u8 (x : Nat))).kp.rw_ (h.row i hi).2.2.2 (fun eb => e (h.inj i r hi hr eb))).congr (fun y _ => ?_)
    rw [if_neg (fun h => e h.1)]
/-- what filled writes: rows below i, and row i below j. -/
def fl12 (x : Nat) (n : Nat → Nat) (S : Nat → Nat → Nat) (i j r y : Nat) : Nat := if (r < i ∨ r = i ∧ y < j) ∧ y < n r then (x + r) % 256 else S r y
theorem fl12_zero (x : Nat) (n : Nat → Nat) (S : Nat → Nat → Nat) (r y : Nat) : fl12 x n S 0 0 r y = S r y := by unfold fl12; rw [if_neg (by omega)]
theorem fl12_step (x : Nat) (n : Nat → Nat) (S : Nat → Nat → Nat) (i j : Nat) (h : j < n i) (r y : Nat) : (if r = i ∧ y = j then (x + i) % 256 else fl12 x n S i j r y) = fl12 x n S i (j + 1) r y := by
  unfold fl12
  by_cases e : r = i ∧ y = j
  · obtain ⟨rfl, rfl⟩ := e
    rw [if_pos ⟨rfl, rfl⟩, if_pos ⟨.inr ⟨rfl, by omega⟩, h⟩]
  · rw [if_neg e]
    by_cases c : (r < i ∨ r = i ∧ y < j) ∧ y < n r
    · rw [if_pos c, if_pos (by omega)]
    · rw [if_neg c, if_neg (by omega)]
theorem fl12_next (x : Nat) (n : Nat → Nat) (S : Nat → Nat → Nat) (i r y : Nat) : fl12 x n S i (n i) r y = fl12 x n S (i + 1) 0 r y := by
  unfold fl12
  by_cases e : r = i
  · subst e
    by_cases c : y < n r
    · rw [if_pos ⟨.inr ⟨rfl, c⟩, c⟩, if_pos ⟨.inl (by omega), c⟩]
    · rw [if_neg (fun h => c h.2), if_neg (fun h => c h.2)]
  · by_cases c : (r < i ∨ r = i ∧ y < n i) ∧ y < n r
    · rw [if_pos c, if_pos (by omega)]
    · rw [if_neg c, if_neg (by omega)]
/-- the value while it is filled. -/
structure Fi (w W : World) (lo hi : Nat) (v : Value) (m : Nat) (n C B : Nat → Nat) (S : Nat → Nat → Nat) (x i j : Nat) : Prop where
  cs : Cs lo hi W v m n C B (fl12 x n S i j)
  ke : Ke (fun q => ∃ r, r < m ∧ q = B r) w W
theorem Fi.start (h : Cs lo hi w v m n C B S) (x : Nat) : Fi w w lo hi v m n C B S x 0 0 := ⟨h.congr (fun i _ j _ => (fl12_zero x n S i j).symm), Ke.refl _ _⟩
theorem Fi.next (h : Fi w W lo hi v m n C B S x i (n i)) : Fi w W lo hi v m n C B S x (i + 1) 0 := ⟨h.cs.congr (fun r _ y _ => fl12_next x n S i r y), h.ke⟩
theorem Fi.step (h : Fi w W lo hi v m n C B S x i j) (hi' : i < m) (hj : j < n i) {k : Nat} (hk : k = (x + i) % 256) : Fi w (W.setCell ⟨B i, j, none⟩ (.int .u8 (k : Nat))) lo hi v m n C B S x i (j + 1) := by
  subst hk
  exact ⟨(cs_set12 h.cs hi' (by omega)).congr (fun r _ y _ => fl12_step x n S i j hj r y), h.ke.trans (((Only.refl (B i) W).setCell j _).kp.ke.mono (fun z _ e => ⟨i, hi', e⟩))⟩
theorem Fi.drew (h : Fi w W lo hi v m n C B S x i j) : Fi w W.drew lo hi v m n C B S x i j := ⟨h.cs.drewN 1, ke_drew12 h.ke⟩
theorem Fi.cells (h : Fi w W lo hi v m n C B S x i j) (hi' : i < m) (hj : j < n i) : (∃ z, W.cell? ⟨B i, j, none⟩ = some (.int .u8 z)) ∧ W.frozen? ⟨B i, j, none⟩ = false := by
  obtain ⟨-, -, r3, r4⟩ := h.cs.row i hi'
  exact ⟨⟨_, r4.2.2.cell (i := j) (by omega)⟩, r4.2.2.frozen j⟩
theorem Fi.at {g c : Nat} (h : Fi w W lo hi (.slice (some ⟨g, 0, none⟩) m c) m n C B S x i j) (hi' : i < m) : W.cell? ⟨g, i, none⟩ = some (.slice (some ⟨B i, 0, none⟩) (n i) (C i)) := by
  obtain ⟨a, c', e, -, -, hf⟩ := h.cs.form
  injection e with e1 e2 e3
  obtain ⟨g', e4, -, -, -, e5⟩ := hf (by omega)
  rw [e4] at e1
  injection e1 with e1
  injection e1 with e1
  rw [e1]
  exact e5 i hi'
end
end Go.Proofs.YtaoapplbcgflmaaGreat
