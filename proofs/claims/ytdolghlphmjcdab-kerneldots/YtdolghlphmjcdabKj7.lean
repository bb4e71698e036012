import Derived.Test.YtdolghlphmjcdabKj5
import Derived.Test.YtdolghlphmjcdabEsj
namespace Go.Proofs.Ytdolghlphmjcdab
open Go.ChangeShapes Go.WideShapes Go.ChangeAt Go.RowKit Go.Deep
set_option linter.unusedVariables false

/-- sums' six cells. -/
def sv9 (vR vS vD : Value) (fr to cut : Int) : Array Value := #[vR, vS, vD, .int .i64 fr, .int .i64 to, .int .i64 cut]
/-- an array in a block. -/
structure Box9 (w : World) (g : Nat) (A : Array Value) (ty : TypeId) : Prop where
  blk : w.heap[g]? = some (.cells A ty (0, 0))
theorem Box9.cell {w : World} {g : Nat} {A : Array Value} {ty : TypeId} (h : Box9 w g A ty) {i : Nat} {v : Value} (hv : A[i]? = some v) : w.cell? ⟨g, i, none⟩ = some v := by
  unfold World.cell?
  rw [h.blk]
  simpa using hv
theorem Box9.lt {w : World} {g : Nat} {A : Array Value} {ty : TypeId} (h : Box9 w g A ty) : g < w.heap.size := (Array.getElem?_eq_some_iff.1 h.blk).1
theorem Box9.below {w w' : World} {g : Nat} {A : Array Value} {ty : TypeId} (h : Box9 w g A ty) (hb : Below w.heap.size w w') : Box9 w' g A ty := ⟨by rw [hb.block g h.lt]; exact h.blk⟩
theorem Box9.new (w : World) (A : Array Value) (ty : TypeId) : Box9 (w.alloc (.cells A ty)) w.heap.size A ty := ⟨heap_alloc_new _ _⟩
/-- three lists of lists that came in. -/
structure Ip9 (W : World) (vR vS vD : Value) (mR : Nat) (nR : Nat → Nat) (RR : Nat → Nat → Nat) (mS : Nat) (nS : Nat → Nat) (SS : Nat → Nat → Nat) (mD : Nat) (nD : Nat → Nat) (DD : Nat → Nat → Nat) : Prop where
  rows : Lb W vR mR nR RR
  rowsl : 24 * mR ≤ 140737488351232
  rowsn : ∀ i, i < mR → nR i ≤ 140737488351232
  srcs : Lb W vS mS nS SS
  srcsl : 24 * mS ≤ 140737488351232
  srcsn : ∀ i, i < mS → nS i ≤ 140737488351232
  dsts : Lb W vD mD nD DD
  dstsl : 24 * mD ≤ 140737488351232
  dstsn : ∀ i, i < mD → nD i ≤ 140737488351232
theorem Ip9.below {W W' : World} {vR vS vD : Value} {mR : Nat} {nR : Nat → Nat} {RR : Nat → Nat → Nat} {mS : Nat} {nS : Nat → Nat} {SS : Nat → Nat → Nat} {mD : Nat} {nD : Nat → Nat} {DD : Nat → Nat → Nat} (h : Ip9 W vR vS vD mR nR RR mS nS SS mD nD DD) (hb : Below W.heap.size W W') : Ip9 W' vR vS vD mR nR RR mS nS SS mD nD DD :=
  ⟨Lb.below h.rows hb, h.rowsl, h.rowsn, Lb.below h.srcs hb, h.srcsl, h.srcsn, Lb.below h.dsts hb, h.dstsl, h.dstsn⟩
/-- sums that came in. -/
structure Im9 (W : World) (vR vS vD : Value) : Prop where
  rows : Lm9 W vR
  srcs : Lm9 W vS
  dsts : Lm9 W vD
theorem Im9.below {W W' : World} {vR vS vD : Value} (h : Im9 W vR vS vD) (hb : Below W.heap.size W W') : Im9 W' vR vS vD := ⟨h.rows.below hb, h.srcs.below hb, h.dsts.below hb⟩
theorem Im9.ip {W : World} {vR vS vD : Value} (h : Im9 W vR vS vD) : ∃ mR nR RR mS nS SS mD nD DD, Ip9 W vR vS vD mR nR RR mS nS SS mD nD DD := by
  obtain ⟨⟨mR, nR, RR, b1, b2, b3⟩, ⟨mS, nS, SS, c1, c2, c3⟩, ⟨mD, nD, DD, d1, d2, d3⟩⟩ := h
  exact ⟨mR, nR, RR, mS, nS, SS, mD, nD, DD, b1, b2, b3, c1, c2, c3, d1, d2, d3⟩
set_option maxHeartbeats 2000000 in
set_option maxRecDepth 100000 in
theorem open_sums9 {H : Type} {enc : TypeId × Value → H} {W : World} {base : Nat} {held : Bool} {fuel : Nat} {cs : List Value} {x : DataW H × List MemPlace}
    (h : DataW.trod enc Try.prog W base (fun _ => true) held fuel 24 cs = some x) (hsz : ∀ n ∈ x.1.weights Try.prog 24, n ≤ reachBytes) :
    ∃ vR vS vD fr to cut, cs = (sv9 vR vS vD fr to cut).toList ∧ Im9 W vR vS vD := by
  have c6 : Try.prog.cellsOf 24 = 6 := by kernel_rfl
  have c3 : Try.prog.cellsOf 3 = 1 := by kernel_rfl
  have c23 : Try.prog.cellsOf 22 = 1 := by kernel_rfl
  obtain ⟨xs, k, hk, hxy, hlen, hxl, hf⟩ := DataW.trod_struct Try.underlying24 h
  rw [c6] at hlen
  have hD : x.1 = .agg (xs.map (·.1)) := congrArg Prod.fst hxy
  rw [hD] at hsz
  simp only [DataW.weights, Try.underlying24] at hsz
  obtain ⟨y0, y1, y2, y3, y4, y5, hxs⟩ : ∃ y0 y1 y2 y3 y4 y5, xs = [y0, y1, y2, y3, y4, y5] := by
    match xs, hxl with
    | [y0, y1, y2, y3, y4, y5], _ => exact ⟨_, _, _, _, _, _, rfl⟩
  obtain ⟨v0, v1, v2, v3, v4, v5, hcs'⟩ : ∃ v0 v1 v2 v3 v4 v5, cs = [v0, v1, v2, v3, v4, v5] := by
    match cs, hlen with
    | [v0, v1, v2, v3, v4, v5], _ => exact ⟨_, _, _, _, _, _, rfl⟩
  subst hxs hcs'
  have g0 := hf 0 _ rfl
  have g1 := hf 1 _ rfl
  have g2 := hf 2 _ rfl
  have g3 := hf 3 _ rfl
  have g4 := hf 4 _ rfl
  have g5 := hf 5 _ rfl
  simp [c3, c23] at g0 g1 g2 g3 g4 g5
  obtain ⟨k3, e3, -, w3⟩ := DataW.trod_int Try.underlying3 g3
  obtain ⟨k4, e4, -, w4⟩ := DataW.trod_int Try.underlying3 g4
  obtain ⟨k5, e5, -, w5⟩ := DataW.trod_int Try.underlying3 g5
  have b0 := open_lists9 g0 (fun n hn => hsz n (DataW.weights_mem_each (j := 0) rfl rfl n hn))
  have b1 := open_lists9 g1 (fun n hn => hsz n (DataW.weights_mem_each (j := 1) rfl rfl n hn))
  have b2 := open_lists9 g2 (fun n hn => hsz n (DataW.weights_mem_each (j := 2) rfl rfl n hn))
  simp at e3 e4 e5
  subst e3 e4 e5
  exact ⟨v0, v1, v2, k3, k4, k5, rfl, b0, b1, b2⟩
end Go.Proofs.Ytdolghlphmjcdab
namespace Go.Proofs.Ytdolghlphmjcdab
open Go.RowKit Gf2
set_option linter.unusedVariables false

/-- sums in their box, what came in, three sets. -/
structure Bp9 (x : World) (g : Nat) (vR vS vD : Value) (fr to cut : Int) (mR : Nat) (nR : Nat → Nat) (RR : Nat → Nat → Nat) (mS : Nat) (nS : Nat → Nat) (SS : Nat → Nat → Nat) (mD : Nat) (nD : Nat → Nat) (DD : Nat → Nat → Nat) (gl : Nat) (P : Nat → Addr) (lo hi : Nat → Nat) : Prop where
  bx : Box9 x g (sv9 vR vS vD fr to cut) 24
  iq : Ip9 x vR vS vD mR nR RR mS nS SS mD nD DD
  glt : gl < x.heap.size
  pt : ∀ i, i < 3 → x.cell? ⟨gl, i, none⟩ = some (.pointer (some (P i)))
  ks : ∀ i, i < 3 → Ks x (P i) i (lo i) (hi i)
section
variable {W W' : World} {g : Nat} {vR vS vD : Value} {fr to cut : Int} {mR : Nat} {nR : Nat → Nat} {RR : Nat → Nat → Nat} {mS : Nat} {nS : Nat → Nat} {SS : Nat → Nat → Nat} {mD : Nat} {nD : Nat → Nat} {DD : Nat → Nat → Nat} {gl : Nat} {P : Nat → Addr} {lo hi : Nat → Nat}
theorem Bp9.below (h : Bp9 W g vR vS vD fr to cut mR nR RR mS nS SS mD nD DD gl P lo hi) (hb : Below W.heap.size W W') : Bp9 W' g vR vS vD fr to cut mR nR RR mS nS SS mD nD DD gl P lo hi :=
  ⟨h.bx.below hb, h.iq.below hb, Nat.lt_of_lt_of_le h.glt hb.size, fun i hi => (hb.cell (p := ⟨gl, i, none⟩) h.glt).trans (h.pt i hi), fun i hi => (h.ks i hi).below hb⟩
theorem fit9_cut {m k d : Nat} {nr ns nd : Nat → Nat} {fr to cut : Int} (h : fit9 m k d nr ns nd fr to = 0) (h1 : fr ≤ cut) (h2 : cut ≤ to) : fit9 m k d nr ns nd cut to = 0 ∧ fit9 m k d nr ns nd fr cut = 0 := by
  obtain ⟨hL, r1, r2, r3⟩ := fit9_split h
  exact ⟨fit9_zero hL ⟨by omega, h2, r3⟩, fit9_zero hL ⟨r1, h1, by omega⟩⟩
theorem ap9_cut {m k d : Nat} {nr ns nd : Nat → Nat} {fr to cut : Int} {R S D : Nat → Nat → Nat} (h : fit9 m k d nr ns nd fr to = 0) (h1 : fr ≤ cut) (h2 : cut ≤ to) (i j : Nat) :
    ap9 m k d nr ns nd fr cut R S (ap9 m k d nr ns nd cut to R S D) i j = ap9 m k d nr ns nd fr to R S D i j := by
  obtain ⟨e1, e2⟩ := fit9_cut h h1 h2
  unfold ap9
  by_cases c : fr ≤ (j : Int) ∧ (j : Int) < to
  · rw [if_pos (show fit9 m k d nr ns nd fr to = 0 ∧ fr ≤ (j : Int) ∧ (j : Int) < to from ⟨h, c⟩)]
    by_cases c2 : (j : Int) < cut
    · rw [if_pos ⟨e2, c.1, c2⟩]
    · rw [if_neg (fun h => c2 h.2.2), if_pos ⟨e1, by omega, c.2⟩]
  · rw [if_neg (show ¬ (fit9 m k d nr ns nd fr to = 0 ∧ fr ≤ (j : Int) ∧ (j : Int) < to) from fun h => c h.2), if_neg (fun h => c ⟨h.2.1, by omega⟩), if_neg (fun h => c ⟨by omega, h.2.2⟩)]
theorem ap9_not {m k d : Nat} {nr ns nd : Nat → Nat} {fr to : Int} {R S D : Nat → Nat → Nat} (h : ¬ fit9 m k d nr ns nd fr to = 0) (i j : Nat) : ap9 m k d nr ns nd fr to R S D i j = D i j := by
  unfold ap9
  rw [if_neg (fun e => h e.1)]
theorem ap9_out {m k d : Nat} {nr ns nd : Nat → Nat} {fr to : Int} {R S D : Nat → Nat → Nat} {i j : Nat} (h : (j : Int) < fr ∨ to ≤ (j : Int)) : ap9 m k d nr ns nd fr to R S D i j = D i j := by
  unfold ap9
  rw [if_neg (fun e => by omega)]
end
end Go.Proofs.Ytdolghlphmjcdab
namespace Go.Proofs.Ytdolghlphmjcdab
open Go.ChangeShapes Go.WideShapes Go.ChangeAt Go.RowKit Go.Deep
set_option linter.unusedVariables false

/-- a turn's nine cells. -/
def tv9 (vR vS vD : Value) (fr to cut row place : Int) (by9 : Nat) : Array Value := #[vR, vS, vD, .int .i64 fr, .int .i64 to, .int .i64 cut, .int .i64 row, .int .i64 place, .int .u8 (by9 : Int)]
end Go.Proofs.Ytdolghlphmjcdab
