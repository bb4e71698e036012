import Derived.Test.YtjoaagkhanbhiaaEbo
import Derived.Test.YtjoaagkhanbhiaaSbd
namespace Go.Proofs.Ytjoaagkhanbhiaa
open Go.ChangeShapes Go.WideShapes Go.ChangeAt Go.RowKit Go.Deep
set_option linter.unusedVariables false

/-- sixty-four bytes that came in by value. -/
theorem open_a64 {H : Type} {enc : TypeId × Value → H} {W W' : World} {base base' : Nat} {spare : Nat → Bool} {held : Bool} {v : Value} {d : DataW H} {p : List MemPlace}
    (ho : Value.okWide Try.prog W' .any base' 22 v) (h : DataW.Trod enc Try.prog W base spare held 22 v d p) : ∃ S : Nat → Nat, v = .agg (a64 S) ∧ ∀ i, i < 64 → S i < 256 := by
  simp only [Value.okWide, Try.underlying22] at ho
  obtain ⟨cs, rfl, hsz, -⟩ := ho
  obtain ⟨fuel, hf⟩ := h
  obtain ⟨xs, m, -, -, hl, hlen, hf⟩ := DataW.trod_array Try.underlying22 hf
  have c64 : Try.prog.cellsOf 22 = 64 := by kernel_rfl
  have c1 : Try.prog.cellsOf 5 = 1 := by kernel_rfl
  rw [c64] at hsz
  have each : ∀ i, i < 64 → ∃ k : Nat, k < 256 ∧ cs[i]? = some (.int .u8 (k : Int)) := by
    intro i hi
    have h1 := hf i hi
    rw [c1, Nat.mul_one] at h1
    have hx : xs[i]? = some (xs[i]'(by omega)) := List.getElem?_eq_getElem (by omega)
    rw [hx] at h1
    obtain ⟨k0, e0, -, w0⟩ := DataW.trod_int Try.underlying5 h1
    have b0 := bounds_u8 w0
    have t0 : ((k0.toNat : Nat) : Int) = k0 := by omega
    refine ⟨k0.toNat, by omega, ?_⟩
    rw [t0]
    have e1 : (((Value.agg cs).cells.toList.drop i).take 1)[0]? = some (.int .u8 k0) := by rw [e0]; rfl
    rw [List.getElem?_take_of_lt (by decide), List.getElem?_drop, Nat.add_zero] at e1
    simpa [Value.cells] using e1
  have got : ∀ i, i < 64 → (fun i => (intOf ((cs[i]?).getD undef)).toNat) i < 256 ∧ cs[i]? = some (.int .u8 (((fun i => (intOf ((cs[i]?).getD undef)).toNat) i : Nat) : Int)) := by
    intro i hi
    obtain ⟨k, hk, e⟩ := each i hi
    dsimp only
    rw [e]
    simp [intOf, hk]
  refine ⟨fun i => (intOf ((cs[i]?).getD undef)).toNat, ?_, fun i hi => (got i hi).1⟩
  congr 1
  apply Array.ext_getElem?
  intro i
  by_cases hi : i < 64
  · rw [a64_get _ hi]
    exact (got i hi).2
  · rw [Array.getElem?_eq_none (by omega), Array.getElem?_eq_none (by rw [a64_size]; omega)]
end Go.Proofs.Ytjoaagkhanbhiaa
