import Derived.Test.YtljfpgebekpjgaaRows
import Derived.Test.YtljfpgebekpjgaaWsah
import Derived.WalkKit
import Derived.ProofKit
import Derived.OpenShut
import Derived.ShutString
import Derived.ChangeOld
import Derived.Below
import Derived.Deep.Slices
import Derived.ChangeSame
import Derived.LaidMore
import Derived.SizedLaws
namespace Go.Proofs.Ytljfpgebekpjgaa
open Go.ChangeShapes Go.WideShapes Go.ChangeAt Go.RowKit Go.Deep
set_option linter.unusedVariables false

set_option maxRecDepth 100000 in
theorem open_i64 {H : Type} {enc : TypeId × Value → H} {W W' : World} {base base' : Nat} {spare : Nat → Bool} {held : Bool} {v : Value} {d : DataW H} {p : List MemPlace}
    (ho : Value.okWide Try.prog W' .any base' 3 v) (h : DataW.Trod enc Try.prog W base spare held 3 v d p) : ∃ k : Int, v = .int .i64 k ∧ (Lit.int .i64 k).wf = true := by
  obtain ⟨k, rfl⟩ := okWide_int Try.underlying3 ho
  obtain ⟨fuel, h⟩ := h
  obtain ⟨k0, e0, -, w0⟩ := DataW.trod_int Try.underlying3 h
  have e1 : k = k0 := by injection e0 with e0; injection e0
  subst e1
  exact ⟨k, rfl, w0⟩
theorem own5 : ownKnob Try.prog.godebug = none := by kernel_rfl
theorem laidOut5 : laidOutB Try.prog = true := by kernel_rfl
end Go.Proofs.Ytljfpgebekpjgaa
