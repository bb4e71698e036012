import Derived.Test.YtdeophhcbkahgaaKj5
namespace Go.Proofs.Ytdeophhcbkahgaa
open Go.ChangeShapes Go.WideShapes Go.ChangeAt Go.RowKit Go.Deep
set_option linter.unusedVariables false

/-- sums' six cells. -/
def sv9 (vR vS vD : Value) (fr to cut : Int) : Array Value := #[vR, vS, vD, .int .i64 fr, .int .i64 to, .int .i64 cut]
/-- an array in a block. -/
structure Box9 (w : World) (g : Nat) (A : Array Value) (ty : TypeId) : Prop where
  blk : w.heap[g]? = some (.cells A ty (0, 0))
theorem Box9.cell {w : World} {g : Nat} {A : Array Value} {ty : TypeId} (h : Box9 w g A ty) {i : Nat} {v : Value} (hv : A[i]? = some v) : w.cell? ⟨g, i, none⟩ = some v := by
  unfold World.cell?
  rw [h.blk]
  simpa using hv
theorem Box9.lt {w : World} {g : Nat} {A : Array Value} {ty : TypeId} (h : Box9 w g A ty) : g < w.heap.size := (Array.getElem?_eq_some_iff.1 h.blk).1
theorem Box9.below {w w' : World} {g : Nat} {A : Array Value} {ty : TypeId} (h : Box9 w g A ty) (hb : Below w.heap.size w w') : Box9 w' g A ty := ⟨by rw [hb.block g h.lt]; exact h.blk⟩
theorem Box9.new (w : World) (A : Array Value) (ty : TypeId) : Box9 (w.alloc (.cells A ty)) w.heap.size A ty := ⟨heap_alloc_new _ _⟩
/-- three lists of lists that came in. -/
structure Ip9 (W : World) (vR vS vD : Value) (mR : Nat) (nR : Nat → Nat) (RR : Nat → Nat → Nat) (mS : Nat) (nS : Nat → Nat) (SS : Nat → Nat → Nat) (mD : Nat) (nD : Nat → Nat) (DD : Nat → Nat → Nat) : Prop where
  rows : Lb W vR mR nR RR
  rowsl : 24 * mR ≤ 140737488351232
  rowsn : ∀ i, i < mR → nR i ≤ 140737488351232
  srcs : Lb W vS mS nS SS
  srcsl : 24 * mS ≤ 140737488351232
  srcsn : ∀ i, i < mS → nS i ≤ 140737488351232
  dsts : Lb W vD mD nD DD
  dstsl : 24 * mD ≤ 140737488351232
  dstsn : ∀ i, i < mD → nD i ≤ 140737488351232
theorem Ip9.below {W W' : World} {vR vS vD : Value} {mR : Nat} {nR : Nat → Nat} {RR : Nat → Nat → Nat} {mS : Nat} {nS : Nat → Nat} {SS : Nat → Nat → Nat} {mD : Nat} {nD : Nat → Nat} {DD : Nat → Nat → Nat} (h : Ip9 W vR vS vD mR nR RR mS nS SS mD nD DD) (hb : Below W.heap.size W W') : Ip9 W' vR vS vD mR nR RR mS nS SS mD nD DD :=
  ⟨Lb.below h.rows hb, h.rowsl, h.rowsn, Lb.below h.srcs hb, h.srcsl, h.srcsn, Lb.below h.dsts hb, h.dstsl, h.dstsn⟩
/-- sums that came in. -/
structure Im9 (W : World) (vR vS vD : Value) : Prop where
  rows : Lm9 W vR
  srcs : Lm9 W vS
  dsts : Lm9 W vD
theorem Im9.below {W W' : World} {vR vS vD : Value} (h : Im9 W vR vS vD) (hb : Below W.heap.size W W') : Im9 W' vR vS vD := ⟨h.rows.below hb, h.srcs.below hb, h.dsts.below hb⟩
theorem Im9.ip {W : World} {vR vS vD : Value} (h : Im9 W vR vS vD) : ∃ mR nR RR mS nS SS mD nD DD, Ip9 W vR vS vD mR nR RR mS nS SS mD nD DD := by
  obtain ⟨⟨mR, nR, RR, b1, b2, b3⟩, ⟨mS, nS, SS, c1, c2, c3⟩, ⟨mD, nD, DD, d1, d2, d3⟩⟩ := h
  exact ⟨mR, nR, RR, mS, nS, SS, mD, nD, DD, b1, b2, b3, c1, c2, c3, d1, d2, d3⟩
end Go.Proofs.Ytdeophhcbkahgaa
