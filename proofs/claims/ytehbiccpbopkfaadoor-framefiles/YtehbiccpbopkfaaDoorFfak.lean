import Derived.Test.YtehbiccpbopkfaaDoorRows
import Derived.Test.YtehbiccpbopkfaaDoorFfae
import Derived.WalkKit
import Derived.ProofKit
import Derived.OpenShut
import Derived.ShutString
import Derived.ChangeOld
import Derived.Below
import Derived.Deep.Slices
import Derived.ChangeSame
import Derived.LaidMore
import Derived.SizedLaws
namespace Go.Proofs.YtehbiccpbopkfaaDoor
open Go.ChangeShapes Go.WideShapes Go.ChangeAt Go.RowKit Go.Deep
set_option linter.unusedVariables false

theorem cell_lt5 {w : World} {a : Addr} {v : Value} (h : w.cell? a = some v) : a.block < w.heap.size := by
  unfold World.cell? at h
  cases hh : w.heap[a.block]? with
  | none => rw [hh] at h; cases h
  | some o => exact (Array.getElem?_eq_some_iff.1 hh).1

/-- bytes that came in, no more than can be. -/
def Rbm (W : World) (a : Option Addr) (len cap : Nat) : Prop := len ≤ 140737488351232 ∧ ∃ F, Rb W (.slice a len cap) len F

theorem bytes_u8 : Tryd.prog.bytesOf 5 = 1 := by kernel_rfl
theorem open_bytes5 {H : Type} {enc : TypeId × Value → H} {W : World} {base : Nat} {held : Bool} {fuel : Nat} {a : Option Addr} {len cap : Nat} {x : DataW H × List MemPlace}
    (h : DataW.trod enc Tryd.prog W base (fun _ => true) held fuel 27 [.slice a len cap] = some x)
    (hsz : ∀ elems spare, x.1 = .slice elems spare → (elems.length + spare.length) * Tryd.prog.bytesOf 5 ≤ reachBytes) : Rbm W a len cap := by
  rcases open_slice Tryd.underlying27 h with ⟨hcs, _⟩ | ⟨a', len', cap', m, n, D, Pl, hcs, hb, hl, hm, hmm, hxe, hx⟩
  · simp at hcs
    obtain ⟨rfl, rfl, rfl⟩ := hcs
    exact ⟨by omega, fun _ => 0, by unfold big; omega, fun i hi => absurd hi (Nat.not_lt_zero _), _, _, rfl, by omega, by unfold big; omega, fun h => absurd h (Nat.lt_irrefl _)⟩
  · simp at hcs
    obtain ⟨rfl, rfl, rfl⟩ := hcs
    have hm' : cap ≤ 140737488351232 := by
      have := hsz _ _ (by rw [hxe])
      rw [bytes_u8] at this
      simp only [List.length_map, List.length_range, reachBytes] at this
      simp at hmm
      omega
    have hlm : len ≤ m := by rw [hmm]; split <;> omega
    have c5 : Tryd.prog.cellsOf 5 = 1 := by kernel_rfl
    have each : ∀ i, i < len → ∃ v : Nat, v < 256 ∧ W.cell? ((a'.add i).add 0) = some (.int .u8 (v : Nat)) := by
      intro i hi
      obtain ⟨cs', h1, h2⟩ := hx i (by omega)
      rw [c5] at h1
      obtain ⟨_, hlen, hcell⟩ := World.cells?_some h1
      match cs', hlen with
      | [v0], _ =>
        obtain ⟨k0, e0, -, w0⟩ := DataW.trod_int Tryd.underlying5 h2
        simp at e0
        subst e0
        have b0 := bounds_u8 w0
        have t0 : ((k0.toNat : Nat) : Int) = k0 := by omega
        have z0 := hcell 0 (by omega)
        exact ⟨k0.toNat, by omega, by rw [t0]; simpa using z0⟩
    by_cases h0 : len = 0
    · subst h0
      exact ⟨by omega, fun _ => 0, by unfold big; omega, fun i hi => absurd hi (Nat.not_lt_zero _), _, _, rfl, by omega, by unfold big; omega, fun h => absurd h (Nat.lt_irrefl _)⟩
    · obtain ⟨b, off, spot⟩ := a'
      have hspot : spot = none := by
        obtain ⟨v, -, z0⟩ := each 0 (by omega)
        simpa [Addr.add] using World.cell?_spot z0
      subst hspot
      have each' : ∀ i, i < len → ∃ v : Nat, v < 256 ∧ W.cell? ⟨b, off + i, none⟩ = some (.int .u8 (v : Nat)) := by
        intro i hi
        obtain ⟨v, hv, z⟩ := each i hi
        simp only [add_plain, Nat.add_zero] at z
        exact ⟨v, hv, z⟩
      refine ⟨by omega, fun i => if h : i < len then (each' i h).choose else 0, by unfold big; omega, fun i hi => ?_, _, _, rfl, hl, by unfold big; omega, fun _ => ⟨b, off, rfl, ?_, fun i hi => ?_⟩⟩
      · simp only [dif_pos hi]
        exact (each' i hi).choose_spec.1
      · obtain ⟨v, -, z0⟩ := each' 0 (by omega)
        exact cell_lt5 z0
      · simp only [dif_pos hi]
        exact (each' i hi).choose_spec.2
end Go.Proofs.YtehbiccpbopkfaaDoor
