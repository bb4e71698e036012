import Derived.Test.YtldacjpkblffbabYhk
import Derived.Test.YtldacjpkblffbabKofa
namespace Go.Proofs.Ytldacjpkblffbab
open Go.ChangeShapes Go.WideShapes Go.ChangeAt Go.RowKit Go.Deep
set_option linter.unusedVariables false

-- layer 16: what came in, opened
theorem cells_code16 : Try.prog.cellsOf 23 = 3 := by kernel_rfl
theorem open_code16 {H : Type} {enc : TypeId × Value → H} {W W' : World} {base base' : Nat} {spare : Nat → Bool} {held : Bool} {v : Value} {d : DataW H} {p : List MemPlace}
    (ho : Value.okWide Try.prog W' .any base' 23 v) (h : DataW.Trod enc Try.prog W base spare held 23 v d p) :
    ∃ f k m : Int, v = .agg #[.int .i64 f, .int .i64 k, .int .i64 m] ∧ I64 f ∧ I64 k ∧ I64 m := by
  have c3 : Try.prog.cellsOf 3 = 1 := by kernel_rfl
  obtain ⟨cs, rfl, hsz⟩ := okWide_struct Try.underlying23 ho
  obtain ⟨c0, c1, c2, rfl⟩ : ∃ c0 c1 c2, cs = #[c0, c1, c2] := by
    have hl := hsz.trans cells_code16
    obtain ⟨l⟩ := cs
    match l, hl with
    | [c0, c1, c2], _ => exact ⟨c0, c1, c2, rfl⟩
  obtain ⟨fuel, hf⟩ := h
  obtain ⟨xs, n, -, hx, -, hlen, hf⟩ := DataW.trod_struct Try.underlying23 hf
  match xs, hlen with
  | [y0, y1, y2], _ =>
    have h0 := hf 0 _ rfl
    have h1 := hf 1 _ rfl
    have h2 := hf 2 _ rfl
    simp [Value.cells, c3] at h0 h1 h2
    obtain ⟨k0, e0, -, w0⟩ := DataW.trod_int Try.underlying3 h0
    obtain ⟨k1, e1, -, w1⟩ := DataW.trod_int Try.underlying3 h1
    obtain ⟨k2, e2, -, w2⟩ := DataW.trod_int Try.underlying3 h2
    simp at e0 e1 e2
    subst e0 e1 e2
    exact ⟨k0, k1, k2, rfl, bounds_i64 w0, bounds_i64 w1, bounds_i64 w2⟩
/-- a step's eight cells. -/
def cv16 (k f K m n : Int) (vS vF vD : Value) : Array Value := #[.int .i64 k, .int .i64 f, .int .i64 K, .int .i64 m, .int .i64 n, vS, vF, vD]
/-- what a step came in with. -/
structure In16 (W : World) (k f K m n : Int) (vS vF vD : Value) : Prop where
  hf : I64 f
  hK : I64 K
  hm : I64 m
  hn : I64 n
  s : Lm9 W vS
  f : Lm9 W vF
  d : Bm9 W vD
theorem In16.below {W W' : World} {k f K m n : Int} {vS vF vD : Value} (h : In16 W k f K m n vS vF vD) (hb : Below W.heap.size W W') : In16 W' k f K m n vS vF vD := ⟨h.hf, h.hK, h.hm, h.hn, h.s.below hb, h.f.below hb, h.d.below hb⟩
theorem lm16_form {W : World} {v : Value} (h : Lm9 W v) : ∃ a n c, v = .slice a n c := by
  obtain ⟨m, n, S, ⟨V, ⟨_, a, c, e, _⟩, _⟩, -⟩ := h
  exact ⟨a, m, c, e⟩
theorem bm16_form {W : World} {v : Value} (h : Bm9 W v) : ∃ a n c, v = .slice a n c := by
  obtain ⟨n, S, ⟨_, _, a, c, e, _⟩, _⟩ := h
  exact ⟨a, n, c, e⟩
theorem balloc16 (w : World) (o : Obj) : Below w.heap.size w (w.alloc o) := (Below.refl _ _).alloc (Nat.le_refl _) _
theorem bthen16 {w a b : World} (h : Below w.heap.size w a) (k : Below a.heap.size a b) : Below w.heap.size w b := h.trans (k.mono h.size)
/-- a step's box in block g. -/
structure Bo16 (W : World) (g : Nat) (k f K m n : Int) (vS vF vD : Value) : Prop where
  c0 : W.cell? ⟨g, 0, none⟩ = some (.int .i64 k)
  c1 : W.cell? ⟨g, 1, none⟩ = some (.int .i64 f)
  c2 : W.cell? ⟨g, 2, none⟩ = some (.int .i64 K)
  c3 : W.cell? ⟨g, 3, none⟩ = some (.int .i64 m)
  c4 : W.cell? ⟨g, 4, none⟩ = some (.int .i64 n)
  c5 : W.cell? ⟨g, 5, none⟩ = some vS
  c6 : W.cell? ⟨g, 6, none⟩ = some vF
  c7 : W.cell? ⟨g, 7, none⟩ = some vD
theorem bo16_new (w : World) (k f K m n : Int) (vS vF vD : Value) {W : World} (hb : Below (w.alloc (.cells #[.int .i64 k, .int .i64 f, .int .i64 K, .int .i64 m, .int .i64 n, vS, vF, vD] 29)).heap.size (w.alloc (.cells #[.int .i64 k, .int .i64 f, .int .i64 K, .int .i64 m, .int .i64 n, vS, vF, vD] 29)) W) : Bo16 W w.heap.size k f K m n vS vF vD := by
  have hh := heap_alloc_new w (.cells #[.int .i64 k, .int .i64 f, .int .i64 K, .int .i64 m, .int .i64 n, vS, vF, vD] 29)
  have lt : w.heap.size < (w.alloc (.cells #[.int .i64 k, .int .i64 f, .int .i64 K, .int .i64 m, .int .i64 n, vS, vF, vD] 29)).heap.size := by simp
  have c : ∀ q v, (#[.int .i64 k, .int .i64 f, .int .i64 K, .int .i64 m, .int .i64 n, vS, vF, vD] : Array Value)[q]? = some v → W.cell? ⟨w.heap.size, q, none⟩ = some v := fun q v hq => by
    rw [hb.cell (p := ⟨w.heap.size, q, none⟩) lt, cell_of_row _ _ _ _ _ _ hh]
    exact hq
  exact ⟨c 0 _ rfl, c 1 _ rfl, c 2 _ rfl, c 3 _ rfl, c 4 _ rfl, c 5 _ rfl, c 6 _ rfl, c 7 _ rfl⟩
set_option maxRecDepth 100000 in
theorem open_op16 {H : Type} {enc : TypeId × Value → H} {W : World} {base : Nat} {held : Bool} {fuel : Nat} {cs : List Value} {x : DataW H × List MemPlace}
    (h : DataW.trod enc Try.prog W base (fun _ => true) held fuel 29 cs = some x) (hsz : ∀ n ∈ x.1.weights Try.prog 29, n ≤ reachBytes) :
    ∃ k f K m n vS vF vD, cs = (cv16 k f K m n vS vF vD).toList ∧ In16 W k f K m n vS vF vD := by
  have c8 : Try.prog.cellsOf 29 = 8 := by kernel_rfl
  have c3 : Try.prog.cellsOf 3 = 1 := by kernel_rfl
  have c6 : Try.prog.cellsOf 27 = 1 := by kernel_rfl
  have c22 : Try.prog.cellsOf 24 = 1 := by kernel_rfl
  obtain ⟨xs, k, hk, hxy, hlen, hxl, hf⟩ := DataW.trod_struct Try.underlying29 h
  rw [c8] at hlen
  have hD : x.1 = .agg (xs.map (·.1)) := congrArg Prod.fst hxy
  rw [hD] at hsz
  simp only [DataW.weights, Try.underlying29] at hsz
  obtain ⟨y0, y1, y2, y3, y4, y5, y6, y7, hxs⟩ : ∃ y0 y1 y2 y3 y4 y5 y6 y7, xs = [y0, y1, y2, y3, y4, y5, y6, y7] := by
    match xs, hxl with
    | [y0, y1, y2, y3, y4, y5, y6, y7], _ => exact ⟨_, _, _, _, _, _, _, _, rfl⟩
  obtain ⟨v0, v1, v2, v3, v4, v5, v6, v7, hcs'⟩ : ∃ v0 v1 v2 v3 v4 v5 v6 v7, cs = [v0, v1, v2, v3, v4, v5, v6, v7] := by
    match cs, hlen with
    | [v0, v1, v2, v3, v4, v5, v6, v7], _ => exact ⟨_, _, _, _, _, _, _, _, rfl⟩
  subst hxs hcs'
  have g0 := hf 0 _ rfl
  have g1 := hf 1 _ rfl
  have g2 := hf 2 _ rfl
  have g3 := hf 3 _ rfl
  have g4 := hf 4 _ rfl
  have g5 := hf 5 _ rfl
  have g6 := hf 6 _ rfl
  have g7 := hf 7 _ rfl
  simp [c3, c6, c22] at g0 g1 g2 g3 g4 g5 g6 g7
  obtain ⟨k0, e0, -, w0⟩ := DataW.trod_int Try.underlying3 g0
  obtain ⟨k1, e1, -, w1⟩ := DataW.trod_int Try.underlying3 g1
  obtain ⟨k2, e2, -, w2⟩ := DataW.trod_int Try.underlying3 g2
  obtain ⟨k3, e3, -, w3⟩ := DataW.trod_int Try.underlying3 g3
  obtain ⟨k4, e4, -, w4⟩ := DataW.trod_int Try.underlying3 g4
  have b5 := open_lists9 g5 (fun n hn => hsz n (DataW.weights_mem_each (j := 5) rfl rfl n hn))
  have b6 := open_lists9 g6 (fun n hn => hsz n (DataW.weights_mem_each (j := 6) rfl rfl n hn))
  have b7 := open_bytes9 g7 (fun n hn => hsz n (DataW.weights_mem_each (j := 7) rfl rfl n hn))
  simp at e0 e1 e2 e3 e4
  subst e0 e1 e2 e3 e4
  exact ⟨k0, k1, k2, k3, k4, v5, v6, v7, rfl, bounds_i64 w1, bounds_i64 w2, bounds_i64 w3, bounds_i64 w4, b5, b6, b7⟩
set_option maxRecDepth 100000 in
theorem open_opA16 {H : Type} {enc : TypeId × Value → H} {W W' : World} {base base' : Nat} {held : Bool} {v : Value} {d : DataW H} {p : List MemPlace}
    (ho : Value.okWide Try.prog W' .any base' 29 v) (h : DataW.Trod enc Try.prog W base (fun _ => true) held 29 v d p) (hsz : ∀ n ∈ d.weights Try.prog 29, n ≤ reachBytes) :
    ∃ k f K m n vS vF vD, v = .agg (cv16 k f K m n vS vF vD) ∧ In16 W k f K m n vS vF vD := by
  obtain ⟨cs, rfl, -⟩ := okWide_struct Try.underlying29 ho
  obtain ⟨fuel, hf⟩ := h
  obtain ⟨k, f, K, m, n, vS, vF, vD, e, hI⟩ := open_op16 hf hsz
  refine ⟨k, f, K, m, n, vS, vF, vD, ?_, hI⟩
  congr 1
  apply Array.toList_inj.1
  simpa [Value.cells] using e
/-- a script that came in. -/
def IsOps16 (w : World) (a : Option Addr) (len cap : Nat) : Prop :=
  len ≤ maxLen ∧ (len = 0 ∨ ∃ b off, a = some ⟨b, off, none⟩ ∧ len ≤ cap ∧ cap ≤ maxLen ∧ b < w.heap.size ∧ ∀ t, t < len → ∃ k f K m n vS vF vD, (∀ z u, (cv16 k f K m n vS vF vD)[z]? = some u → w.cell? ⟨b, off + t * 8 + z, none⟩ = some u) ∧ In16 w k f K m n vS vF vD)
theorem IsOps16.below {w w' : World} {a : Option Addr} {len cap : Nat} (h : IsOps16 w a len cap) (hb : Below w.heap.size w w') : IsOps16 w' a len cap := by
  obtain ⟨h1, h2⟩ := h
  refine ⟨h1, ?_⟩
  rcases h2 with h2 | ⟨b, off, e, h3, h4, h5, h6⟩
  · exact .inl h2
  · refine .inr ⟨b, off, e, h3, h4, Nat.lt_of_lt_of_le h5 hb.size, fun t ht => ?_⟩
    obtain ⟨k, f, K, m, n, vS, vF, vD, z, hI⟩ := h6 t ht
    exact ⟨k, f, K, m, n, vS, vF, vD, fun y u hu => (hb.cell (p := ⟨b, off + t * 8 + y, none⟩) h5).trans (z y u hu), hI.below hb⟩
end Go.Proofs.Ytldacjpkblffbab
