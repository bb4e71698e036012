import Derived.Test.YtdnhidachdjgaaaMj6
import Derived.Test.YtdnhidachdjgaaaEbo
namespace Go.Proofs.Ytdnhidachdjgaaa
open Go.ChangeShapes Go.WideShapes Go.ChangeAt Go.RowKit Go.Deep
set_option linter.unusedVariables false

/-- integers that came in. -/
theorem open_ints10 {H : Type} {enc : TypeId × Value → H} {W : World} {base : Nat} {held : Bool} {fuel : Nat} {v : Value} {x : DataW H × List MemPlace}
    (h : DataW.trod enc Try.prog W base (fun _ => true) held fuel 27 [v] = some x) : ∃ a len cap F, v = .slice a len cap ∧ Qi W (.slice a len cap) len F := by
  rcases open_slice Try.underlying27 h with ⟨hcs, _⟩ | ⟨a', len, cap, m, n, D, Pl, hcs, hb, hl, hm, hmm, hxe, hx⟩
  · simp at hcs
    subst hcs
    exact ⟨none, 0, 0, fun _ => 0, rfl, by decide, trivial, none, 0, rfl, Nat.le_refl _, by decide, fun h => absurd h (Nat.lt_irrefl _)⟩
  · simp at hcs
    subst hcs
    have hlm : len ≤ m := by rw [hmm]; split <;> omega
    have c3 : Try.prog.cellsOf 3 = 1 := by kernel_rfl
    have each : ∀ i, i < len → ∃ k : Int, W.cell? ((a'.add i).add 0) = some (.int .i64 k) := by
      intro i hi
      obtain ⟨cs', h1, h2⟩ := hx i (by omega)
      rw [c3] at h1
      obtain ⟨_, hlen, hcell⟩ := World.cells?_some h1
      match cs', hlen with
      | [v0], _ =>
        obtain ⟨k0, e0, -, w0⟩ := DataW.trod_int Try.underlying3 h2
        simp at e0
        subst e0
        have z0 := hcell 0 (by omega)
        exact ⟨k0, by simpa using z0⟩
    have hcap : cap ≤ big := by unfold big; unfold maxLen at hm; omega
    have hbig : len ≤ big := by omega
    by_cases h0 : len = 0
    · subst h0
      exact ⟨_, _, _, fun _ => 0, rfl, hbig, trivial, _, _, rfl, hl, hcap, fun h => absurd h (Nat.lt_irrefl _)⟩
    · obtain ⟨b, off, spot⟩ := a'
      have hspot : spot = none := by
        obtain ⟨v, z0⟩ := each 0 (by omega)
        simpa [Addr.add] using World.cell?_spot z0
      subst hspot
      have each' : ∀ i, i < len → ∃ k : Int, W.cell? ⟨b, off + i, none⟩ = some (.int .i64 k) := by
        intro i hi
        obtain ⟨v, z⟩ := each i hi
        simp only [add_plain, Nat.add_zero] at z
        exact ⟨v, z⟩
      refine ⟨_, _, _, fun i => if h : i < len then (each' i h).choose else 0, rfl, hbig, trivial, _, _, rfl, hl, hcap, fun _ => ⟨b, off, rfl, ?_, fun i hi => ?_⟩⟩
      · obtain ⟨v, z0⟩ := each' 0 (by omega)
        exact cell_lt5 z0
      · simp only [dif_pos hi]
        exact (each' i hi).choose_spec
theorem four_of {cs : Array Value} (h : cs.size = 4) : ∃ c0 c1 c2 c3, cs = #[c0, c1, c2, c3] := by
  obtain ⟨l⟩ := cs
  match l, h with
  | [c0, c1, c2, c3], _ => exact ⟨_, _, _, _, rfl⟩
theorem cells_i10 : Try.prog.cellsOf 3 = 1 := by kernel_rfl
theorem cells_l10 : Try.prog.cellsOf 27 = 1 := by kernel_rfl
end Go.Proofs.Ytdnhidachdjgaaa
