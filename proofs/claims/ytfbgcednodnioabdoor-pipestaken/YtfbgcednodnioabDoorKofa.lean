import Derived.Test.YtfbgcednodnioabDoorKaa
import Derived.Test.YtfbgcednodnioabDoorEbo
namespace Go.Proofs.YtfbgcednodnioabDoor
open Go.ChangeShapes Go.WideShapes Go.ChangeAt Go.RowKit Go.Deep
set_option linter.unusedVariables false

/-- bytes that came in. -/
def Bm9 (W : World) (v : Value) : Prop := ∃ n S, Rb W v n S ∧ n ≤ 140737488351232
/-- lists of bytes that came in. -/
def Lm9 (W : World) (v : Value) : Prop := ∃ m n S, Lb W v m n S ∧ 24 * m ≤ 140737488351232 ∧ ∀ i, i < m → n i ≤ 140737488351232
theorem Bm9.below {W W' : World} {v : Value} (h : Bm9 W v) (hb : Below W.heap.size W W') : Bm9 W' v := by
  obtain ⟨n, S, h1, h2⟩ := h
  exact ⟨n, S, h1.below hb, h2⟩
theorem Lm9.below {W W' : World} {v : Value} (h : Lm9 W v) (hb : Below W.heap.size W W') : Lm9 W' v := by
  obtain ⟨m, n, S, h1, h2⟩ := h
  exact ⟨m, n, S, Lb.below h1 hb, h2⟩

theorem weightsAll_mem9 {H : Type} {P : Program} {e : TypeId} {d : DataW H} {n : Nat} (hn : n ∈ d.weights P e) : ∀ {l : List (DataW H)}, d ∈ l → n ∈ DataW.weightsAll P e l
  | d0 :: l, h => by
    rw [DataW.weightsAll, List.mem_append]
    rcases List.mem_cons.1 h with rfl | h
    · exact .inl hn
    · exact .inr (weightsAll_mem9 hn h)
theorem open_bytes9 {H : Type} {enc : TypeId × Value → H} {W : World} {base : Nat} {held : Bool} {fuel : Nat} {v : Value} {x : DataW H × List MemPlace}
    (h : DataW.trod enc Tryd.prog W base (fun _ => true) held fuel 28 [v] = some x) (hsz : ∀ n ∈ x.1.weights Tryd.prog 28, n ≤ reachBytes) : Bm9 W v := by
  obtain ⟨a, len, cap, rfl⟩ : ∃ a len cap, v = .slice a len cap := by
    rcases open_slice Tryd.underlying28 h with ⟨hcs, _⟩ | ⟨a', len', cap', m, n, D, Pl, hcs, _⟩
    · simp at hcs; exact ⟨_, _, _, hcs⟩
    · simp at hcs; exact ⟨_, _, _, hcs⟩
  have := open_bytes5 h (fun el sp he => by
    refine hsz _ ?_
    rw [he]
    simp [DataW.weights, Tryd.underlying28])
  obtain ⟨h1, F, h2⟩ := this
  exact ⟨len, F, h2, h1⟩
theorem bytes_l9 : Tryd.prog.bytesOf 28 = 24 := by kernel_rfl
theorem open_lists9 {H : Type} {enc : TypeId × Value → H} {W : World} {base : Nat} {held : Bool} {fuel : Nat} {v : Value} {x : DataW H × List MemPlace}
    (h : DataW.trod enc Tryd.prog W base (fun _ => true) held fuel 22 [v] = some x) (hsz : ∀ n ∈ x.1.weights Tryd.prog 22, n ≤ reachBytes) : Lm9 W v := by
  have hsz2 : ∀ elems spare, x.1 = .slice elems spare → (elems.length + spare.length) * Tryd.prog.bytesOf 28 ≤ reachBytes := fun el sp he => by
    refine hsz _ ?_
    rw [he]
    simp [DataW.weights, Tryd.underlying22]
  rcases open_slice Tryd.underlying22 h with ⟨hcs, _⟩ | ⟨a', len, cap, m, n, D, Pl, hcs, hb, hl, hm, hmm, hxe, hx⟩
  · simp at hcs
    subst hcs
    exact ⟨0, fun _ => 0, fun _ _ => 0, ⟨fun _ => .slice none 0 0, ⟨by unfold big; omega, none, 0, rfl, by omega, by unfold big; omega, fun h => absurd h (Nat.lt_irrefl _)⟩, fun i hi => absurd hi (Nat.not_lt_zero _)⟩, by omega, fun i hi => absurd hi (Nat.not_lt_zero _)⟩
  · simp at hcs
    subst hcs
    have hm' : cap * 24 ≤ 140737488351232 := by
      have := hsz2 _ _ (by rw [hxe])
      rw [bytes_l9] at this
      simp only [List.length_map, List.length_range, reachBytes] at this
      simp at hmm
      omega
    have hlm : len ≤ m := by rw [hmm]; split <;> omega
    have c1 : Tryd.prog.cellsOf 28 = 1 := by kernel_rfl
    have each : ∀ i, i < len → ∃ u, W.cell? ((a'.add i).add 0) = some u ∧ Bm9 W u := by
      intro i hi
      obtain ⟨cs', h1, h2⟩ := hx i (by omega)
      rw [c1] at h1
      obtain ⟨_, hlen, hcell⟩ := World.cells?_some h1
      match cs', hlen with
      | [v0], _ =>
        have z0 := hcell 0 (by omega)
        refine ⟨v0, by simpa using z0, open_bytes9 h2 (fun n hn => hsz n ?_)⟩
        have mD : D i ∈ (List.range len).map D := List.mem_map.2 ⟨i, List.mem_range.2 hi, rfl⟩
        rw [hxe]
        simp only [DataW.weights, Tryd.underlying22]
        exact List.mem_cons_of_mem _ (List.mem_append.2 (.inl (weightsAll_mem9 hn mD)))
    by_cases h0 : len = 0
    · subst h0
      exact ⟨0, fun _ => 0, fun _ _ => 0, ⟨fun _ => .slice none 0 0, ⟨by unfold big; omega, _, _, rfl, by omega, by unfold big; omega, fun h => absurd h (Nat.lt_irrefl _)⟩, fun i hi => absurd hi (Nat.not_lt_zero _)⟩, by omega, fun i hi => absurd hi (Nat.not_lt_zero _)⟩
    · obtain ⟨b, off, spot⟩ := a'
      have hspot : spot = none := by
        obtain ⟨v, z0, -⟩ := each 0 (by omega)
        simpa [Addr.add] using World.cell?_spot z0
      subst hspot
      have each' : ∀ i : Nat, ∃ u n S, i < len → W.cell? ⟨b, off + i, none⟩ = some u ∧ Rb W u n S ∧ n ≤ 140737488351232 := by
        intro i
        by_cases hi : i < len
        · obtain ⟨u, z, n, S, h1, h2⟩ := each i hi
          simp only [add_plain, Nat.add_zero] at z
          exact ⟨u, n, S, fun _ => ⟨z, h1, h2⟩⟩
        · exact ⟨.slice none 0 0, 0, fun _ => 0, fun h => absurd h hi⟩
      obtain ⟨U, hU⟩ := Classical.skolem.1 each'
      obtain ⟨N, hN⟩ := Classical.skolem.1 hU
      obtain ⟨S, hS⟩ := Classical.skolem.1 hN
      refine ⟨len, N, S, ⟨U, ⟨by unfold big; omega, _, _, rfl, hl, by unfold big; omega, fun _ => ⟨b, off, rfl, ⟨?_, fun e => e⟩, fun i hi => (hS i hi).1⟩⟩, fun i hi => (hS i hi).2.1.re (fun _ _ e => e)⟩, by omega, fun i hi => (hS i hi).2.2⟩
      exact cell_lt5 (hS 0 (by omega)).1

end Go.Proofs.YtfbgcednodnioabDoor
