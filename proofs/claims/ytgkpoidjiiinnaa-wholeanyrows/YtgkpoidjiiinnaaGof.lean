import Derived.Test.YtgkpoidjiiinnaaMof
namespace Go.Proofs.Ytgkpoidjiiinnaa
open Go.ChangeShapes Go.WideShapes Go.ChangeAt Go.RowKit Go.Deep
set_option linter.unusedVariables false

theorem cells_rows11 : Try.prog.cellsOf 24 = 4 := by kernel_rfl
set_option maxRecDepth 100000 in
theorem open_rows11 {H : Type} {enc : TypeId × Value → H} {W W' : World} {base base' : Nat} {held : Bool} {v : Value} {d : DataW H} {p : List MemPlace}
    (ho : Value.okWide Try.prog W' .any base' 24 v) (h : DataW.Trod enc Try.prog W base (fun _ => true) held 24 v d p) :
    ∃ (f K M : Int) (a : Option Addr) (n c : Nat), v = .agg #[.int .i64 f, .int .i64 K, .int .i64 M, .slice a n c] ∧ ∃ F, Qi W (.slice a n c) n F := by
  obtain ⟨cs, rfl, hsz⟩ := okWide_struct Try.underlying24 ho
  obtain ⟨c0, c1, c2, c3, rfl⟩ := four_of (hsz.trans cells_rows11)
  obtain ⟨fuel, hf⟩ := h
  obtain ⟨xs, n, -, hx, -, hlen, hf⟩ := DataW.trod_struct Try.underlying24 hf
  match xs, hlen with
  | [y0, y1, y2, y3], _ =>
    have h0 := hf 0 _ rfl
    have h1 := hf 1 _ rfl
    have h2 := hf 2 _ rfl
    have h3 := hf 3 _ rfl
    simp [Value.cells, cells_i10] at h0 h1 h2
    simp [Value.cells, cells_l10] at h3
    obtain ⟨k0, e0, -, w0⟩ := DataW.trod_int Try.underlying3 h0
    obtain ⟨k1, e1, -, w1⟩ := DataW.trod_int Try.underlying3 h1
    obtain ⟨k2, e2, -, w2⟩ := DataW.trod_int Try.underlying3 h2
    simp at e0 e1 e2
    subst e0 e1 e2
    obtain ⟨a, l, c, F, rfl, hF⟩ := open_ints10 h3
    exact ⟨k0, k1, k2, a, l, c, rfl, F, hF⟩
end Go.Proofs.Ytgkpoidjiiinnaa
