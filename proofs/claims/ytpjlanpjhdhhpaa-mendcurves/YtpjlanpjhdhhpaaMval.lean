import Derived.Test.YtpjlanpjhdhhpaaMvak
import Derived.Test.YtpjlanpjhdhhpaaMvai
namespace Go.Proofs.Ytpjlanpjhdhhpaa
open Go.ChangeShapes Go.WideShapes Go.ChangeAt Go.RowKit Go.Deep
set_option linter.unusedVariables false

/-- integers that came in. -/
theorem open_ints10 {H : Type} {enc : TypeId × Value → H} {W : World} {base : Nat} {held : Bool} {fuel : Nat} {v : Value} {x : DataW H × List MemPlace}
    (h : DataW.trod enc Try.prog W base (fun _ => true) held fuel 25 [v] = some x) : ∃ a len cap F, v = .slice a len cap ∧ Qi W (.slice a len cap) len F := by
  rcases open_slice Try.underlying25 h with ⟨hcs, _⟩ | ⟨a', len, cap, m, n, D, Pl, hcs, hb, hl, hm, hmm, hxe, hx⟩
  · simp at hcs
    subst hcs
    exact ⟨none, 0, 0, fun _ => 0, rfl, by decide, trivial, none, 0, rfl, Nat.le_refl _, by decide, fun h => absurd h (Nat.lt_irrefl _)⟩
  · simp at hcs
    subst hcs
    have hlm : len ≤ m := by rw [hmm]; split <;> omega
    have c3 : Try.prog.cellsOf 3 = 1 := by kernel_rfl
    have each : ∀ i, i < len → ∃ k : Int, W.cell? ((a'.add i).add 0) = some (.int .i64 k) := by
      intro i hi
      obtain ⟨cs', h1, h2⟩ := hx i (by omega)
      rw [c3] at h1
      obtain ⟨_, hlen, hcell⟩ := World.cells?_some h1
      match cs', hlen with
      | [v0], _ =>
        obtain ⟨k0, e0, -, w0⟩ := DataW.trod_int Try.underlying3 h2
        simp at e0
        subst e0
        have z0 := hcell 0 (by omega)
        exact ⟨k0, by simpa using z0⟩
    have hcap : cap ≤ big := by unfold big; unfold maxLen at hm; omega
    have hbig : len ≤ big := by omega
    by_cases h0 : len = 0
    · subst h0
      exact ⟨_, _, _, fun _ => 0, rfl, hbig, trivial, _, _, rfl, hl, hcap, fun h => absurd h (Nat.lt_irrefl _)⟩
    · obtain ⟨b, off, spot⟩ := a'
      have hspot : spot = none := by
        obtain ⟨v, z0⟩ := each 0 (by omega)
        simpa [Addr.add] using World.cell?_spot z0
      subst hspot
      have each' : ∀ i, i < len → ∃ k : Int, W.cell? ⟨b, off + i, none⟩ = some (.int .i64 k) := by
        intro i hi
        obtain ⟨v, z⟩ := each i hi
        simp only [add_plain, Nat.add_zero] at z
        exact ⟨v, z⟩
      refine ⟨_, _, _, fun i => if h : i < len then (each' i h).choose else 0, rfl, hbig, trivial, _, _, rfl, hl, hcap, fun _ => ⟨b, off, rfl, ?_, fun i hi => ?_⟩⟩
      · obtain ⟨v, z0⟩ := each' 0 (by omega)
        exact cell_lt5 z0
      · simp only [dif_pos hi]
        exact (each' i hi).choose_spec
theorem cells_l10 : Try.prog.cellsOf 25 = 1 := by kernel_rfl
end Go.Proofs.Ytpjlanpjhdhhpaa
namespace Go.Proofs.Ytpjlanpjhdhhpaa
open Go.ChangeShapes Go.WideShapes Go.ChangeAt Go.RowKit Go.Deep
set_option linter.unusedVariables false

/-- bytes that came in, of any length. -/
theorem open_bytes19 {H : Type} {enc : TypeId × Value → H} {W : World} {base : Nat} {held : Bool} {fuel : Nat} {v : Value} {x : DataW H × List MemPlace}
    (h : DataW.trod enc Try.prog W base (fun _ => true) held fuel 29 [v] = some x) : ∃ a len cap F, v = .slice a len cap ∧ Rb W (.slice a len cap) len F := by
  rcases open_slice Try.underlying29 h with ⟨hcs, _⟩ | ⟨a', len, cap, m, n, D, Pl, hcs, hb, hl, hm, hmm, hxe, hx⟩
  · simp at hcs
    subst hcs
    exact ⟨none, 0, 0, fun _ => 0, rfl, by decide, fun i hi => absurd hi (Nat.not_lt_zero _), none, 0, rfl, Nat.le_refl _, by decide, fun h => absurd h (Nat.lt_irrefl _)⟩
  · simp at hcs
    subst hcs
    have hlm : len ≤ m := by rw [hmm]; split <;> omega
    have c3 : Try.prog.cellsOf 5 = 1 := by kernel_rfl
    have each : ∀ i, i < len → ∃ k : Nat, k < 256 ∧ W.cell? ((a'.add i).add 0) = some (.int .u8 (k : Nat)) := by
      intro i hi
      obtain ⟨cs', h1, h2⟩ := hx i (by omega)
      rw [c3] at h1
      obtain ⟨_, hlen, hcell⟩ := World.cells?_some h1
      match cs', hlen with
      | [v0], _ =>
        obtain ⟨k0, e0, -, w0⟩ := DataW.trod_int Try.underlying5 h2
        simp at e0
        subst e0
        have b0 := bounds_u8 w0
        have t0 : ((k0.toNat : Nat) : Int) = k0 := by omega
        have z0 := hcell 0 (by omega)
        exact ⟨k0.toNat, by omega, by rw [t0]; simpa using z0⟩
    have hcap : cap ≤ big := by unfold big; unfold maxLen at hm; omega
    have hbig : len ≤ big := by omega
    by_cases h0 : len = 0
    · subst h0
      exact ⟨_, _, _, fun _ => 0, rfl, hbig, fun i hi => absurd hi (Nat.not_lt_zero _), _, _, rfl, hl, hcap, fun h => absurd h (Nat.lt_irrefl _)⟩
    · obtain ⟨b, off, spot⟩ := a'
      have hspot : spot = none := by
        obtain ⟨v, -, z0⟩ := each 0 (by omega)
        simpa [Addr.add] using World.cell?_spot z0
      subst hspot
      have each' : ∀ i, i < len → ∃ k : Nat, k < 256 ∧ W.cell? ⟨b, off + i, none⟩ = some (.int .u8 (k : Nat)) := by
        intro i hi
        obtain ⟨v, hv, z⟩ := each i hi
        simp only [add_plain, Nat.add_zero] at z
        exact ⟨v, hv, z⟩
      refine ⟨_, _, _, fun i => if h : i < len then (each' i h).choose else 0, rfl, hbig, fun i hi => ?_, _, _, rfl, hl, hcap, fun _ => ⟨b, off, rfl, ?_, fun i hi => ?_⟩⟩
      · simp only [dif_pos hi]
        exact (each' i hi).choose_spec.1
      · obtain ⟨v, -, z0⟩ := each' 0 (by omega)
        exact cell_lt5 z0
      · simp only [dif_pos hi]
        exact (each' i hi).choose_spec.2
theorem three_of {cs : Array Value} (h : cs.size = 3) : ∃ c0 c1 c2, cs = #[c0, c1, c2] := by
  obtain ⟨l⟩ := cs
  match l, h with
  | [c0, c1, c2], _ => exact ⟨_, _, _, rfl⟩
theorem cells_curve19 : Try.prog.cellsOf 48 = 3 := by kernel_rfl
theorem cells_b19 : Try.prog.cellsOf 29 = 1 := by kernel_rfl
set_option maxRecDepth 100000 in
theorem open_curve19 {H : Type} {enc : TypeId × Value → H} {W W' : World} {base base' : Nat} {held : Bool} {v : Value} {d : DataW H} {p : List MemPlace}
    (ho : Value.okWide Try.prog W' .any base' 48 v) (h : DataW.Trod enc Try.prog W base (fun _ => true) held 48 v d p) :
    ∃ (ac ap am : Option Addr) (k cc n cp lm cm : Nat) (C : Nat → Nat) (P : Nat → Int) (M : Nat → Nat), v = .agg #[.slice ac k cc, .slice ap n cp, .slice am lm cm] ∧ Rb W (.slice ac k cc) k C ∧ Qi W (.slice ap n cp) n P ∧ Rb W (.slice am lm cm) lm M := by
  obtain ⟨cs, rfl, hsz⟩ := okWide_struct Try.underlying48 ho
  obtain ⟨c0, c1, c2, rfl⟩ := three_of (hsz.trans cells_curve19)
  obtain ⟨fuel, hf⟩ := h
  obtain ⟨xs, n, -, hx, -, hlen, hf⟩ := DataW.trod_struct Try.underlying48 hf
  match xs, hlen with
  | [y0, y1, y2], _ =>
    have h0 := hf 0 _ rfl
    have h1 := hf 1 _ rfl
    have h2 := hf 2 _ rfl
    simp [Value.cells, cells_b19, cells_l10] at h0 h1 h2
    obtain ⟨ac, k, cc, C, rfl, hC⟩ := open_bytes19 h0
    obtain ⟨ap, n, cp, P, rfl, hP⟩ := open_ints10 h1
    obtain ⟨am, lm, cm, M, rfl, hM⟩ := open_bytes19 h2
    exact ⟨ac, ap, am, k, cc, n, cp, lm, cm, C, P, M, rfl, hC, hP, hM⟩
end Go.Proofs.Ytpjlanpjhdhhpaa
