import Derived.Test.YtdolghlphmjcdaaKj6
import Derived.Test.YtdolghlphmjcdaaKlg
namespace Go.Proofs.Ytdolghlphmjcdaa
open Go.ChangeShapes Go.WideShapes Go.ChangeAt Go.RowKit Go.Deep
set_option linter.unusedVariables false

/-- a call's ten cells from o on in block b. -/
def CallAt (w : World) (b o : Nat) (kind : Int) (c : Nat) (vr vR vS vD vd vs : Value) (fr to : Int) : Prop := ∀ i v, (cv9 kind c vr vR vS vD vd vs fr to)[i]? = some v → w.cell? ⟨b, o + i, none⟩ = some v
/-- a script of calls that came in. -/
def IsOps9 (w : World) (a : Option Addr) (len cap : Nat) : Prop :=
  len ≤ maxLen ∧ (len = 0 ∨ ∃ b off, a = some ⟨b, off, none⟩ ∧ len ≤ cap ∧ cap ≤ maxLen ∧ b < w.heap.size ∧ ∀ i, i < len → ∃ kind c vr vR vS vD vd vs fr to, CallAt w b (off + i * 10) kind c vr vR vS vD vd vs fr to ∧ In9 w c vr vR vS vD vd vs)

set_option maxHeartbeats 2000000 in
set_option maxRecDepth 100000 in
theorem open_ops9 {H : Type} {enc : TypeId × Value → H} {W : World} {base : Nat} {held : Bool} {fuel : Nat} {a : Option Addr} {len cap : Nat} {x : DataW H × List MemPlace}
    (h : DataW.trod enc Try.prog W base (fun _ => true) held fuel 36 [.slice a len cap] = some x) (hsz : ∀ n ∈ x.1.weights Try.prog 36, n ≤ reachBytes) : IsOps9 W a len cap := by
  rcases open_slice Try.underlying36 h with ⟨hcs, _⟩ | ⟨a', len', cap', m, n, D, Pl, hcs, hb, hl, hm, hmm, hxe, hx⟩
  · simp at hcs
    obtain ⟨rfl, rfl, rfl⟩ := hcs
    exact ⟨by unfold maxLen; omega, .inl rfl⟩
  · simp at hcs
    obtain ⟨rfl, rfl, rfl⟩ := hcs
    refine ⟨by omega, ?_⟩
    have hlm : len ≤ m := by rw [hmm]; split <;> omega
    have c10 : Try.prog.cellsOf 25 = 10 := by kernel_rfl
    have each : ∀ i, i < len → ∃ kind c vr vR vS vD vd vs fr to, (∀ j v, (cv9 kind c vr vR vS vD vd vs fr to)[j]? = some v → W.cell? ((a'.add (i * 10)).add j) = some v) ∧ In9 W c vr vR vS vD vd vs := by
      intro i hi
      obtain ⟨cs', h1, h2⟩ := hx i (by omega)
      rw [c10] at h1
      obtain ⟨_, hlen, hcell⟩ := World.cells?_some h1
      have mD : D i ∈ (List.range len).map D := List.mem_map.2 ⟨i, List.mem_range.2 hi, rfl⟩
      have wts : ∀ n ∈ (D i).weights Try.prog 25, n ≤ reachBytes := fun n hn => hsz n (by
        rw [hxe]
        simp only [DataW.weights, Try.underlying36]
        exact List.mem_cons_of_mem _ (List.mem_append.2 (.inl (weightsAll_mem9 hn mD))))
      obtain ⟨kind, c, vr, vR, vS, vD, vd, vs, fr, to, e, hI⟩ := open_call9 h2 wts
      refine ⟨kind, c, vr, vR, vS, vD, vd, vs, fr, to, fun j v hv => ?_, hI⟩
      have hj : j < 10 := by
        have := (Array.getElem?_eq_some_iff.1 hv).1
        simpa [cv9] using this
      have z := hcell j (by omega)
      rw [z, e]
      simpa using hv
    by_cases h0 : len = 0
    · exact .inl h0
    · right
      obtain ⟨b, off, spot⟩ := a'
      have hspot : spot = none := by
        obtain ⟨kind, c, vr, vR, vS, vD, vd, vs, fr, to, z, -⟩ := each 0 (by omega)
        have z0 := z 0 _ rfl
        simpa [Addr.add] using World.cell?_spot z0
      subst hspot
      refine ⟨b, off, rfl, hl, hm, ?_, ?_⟩
      · obtain ⟨kind, c, vr, vR, vS, vD, vd, vs, fr, to, z, -⟩ := each 0 (by omega)
        have := cell_lt5 (z 0 _ rfl)
        simpa [Addr.add] using this
      · intro i hi
        obtain ⟨kind, c, vr, vR, vS, vD, vd, vs, fr, to, z, hI⟩ := each i hi
        refine ⟨kind, c, vr, vR, vS, vD, vd, vs, fr, to, fun j v hv => ?_, hI⟩
        have := z j v hv
        simpa only [add_plain] using this
end Go.Proofs.Ytdolghlphmjcdaa

