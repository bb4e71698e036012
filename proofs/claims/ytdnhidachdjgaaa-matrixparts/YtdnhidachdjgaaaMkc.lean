import Derived.Test.YtdnhidachdjgaaaMkb
namespace Go.Proofs.Ytdnhidachdjgaaa
open Go.ChangeShapes Go.WideShapes Go.ChangeAt Go.RowKit Go.Deep
set_option linter.unusedVariables false

-- layer 10: the script opened
theorem bytes_i10 : Try.prog.bytesOf 3 = 8 := by kernel_rfl
theorem open_intsB10 {H : Type} {enc : TypeId × Value → H} {W : World} {base : Nat} {held : Bool} {fuel : Nat} {v : Value} {x : DataW H × List MemPlace}
    (h : DataW.trod enc Try.prog W base (fun _ => true) held fuel 27 [v] = some x) (hsz : ∀ n ∈ x.1.weights Try.prog 27, n ≤ reachBytes) : ∃ a n c R, v = .slice a n c ∧ Qi W v n R ∧ 8 * n ≤ 140737488351232 := by
  obtain ⟨a, n, c, R, rfl, hq⟩ := open_ints10 h
  refine ⟨a, n, c, R, rfl, hq, ?_⟩
  have hsz2 : ∀ elems spare, x.1 = .slice elems spare → (elems.length + spare.length) * Try.prog.bytesOf 3 ≤ reachBytes := fun el sp he => by
    refine hsz _ ?_
    rw [he]
    simp [DataW.weights, Try.underlying27]
  rcases open_slice Try.underlying27 h with ⟨hcs, _⟩ | ⟨a', len, cap, m, n', D, Pl, hcs, hb, hl, hm, hmm, hxe, hx⟩
  · simp at hcs
    omega
  · simp at hcs
    obtain ⟨rfl, rfl, rfl⟩ := hcs
    have := hsz2 _ _ (by rw [hxe])
    rw [bytes_i10] at this
    simp only [List.length_map, List.length_range, reachBytes] at this
    simp at hmm
    omega
set_option maxRecDepth 100000 in
theorem open_op10 {H : Type} {enc : TypeId × Value → H} {W : World} {base : Nat} {held : Bool} {fuel : Nat} {cs : List Value} {x : DataW H × List MemPlace}
    (h : DataW.trod enc Try.prog W base (fun _ => true) held fuel 29 cs = some x) (hsz : ∀ n ∈ x.1.weights Try.prog 29, n ≤ reachBytes) :
    ∃ k vA vB i j l m vR, cs = (cv10 k vA vB i j l m vR).toList ∧ In10 W vA vB vR j := by
  have c8 : Try.prog.cellsOf 29 = 8 := by kernel_rfl
  have c3 : Try.prog.cellsOf 3 = 1 := by kernel_rfl
  have c6 : Try.prog.cellsOf 26 = 1 := by kernel_rfl
  have c22 : Try.prog.cellsOf 27 = 1 := by kernel_rfl
  obtain ⟨xs, k, hk, hxy, hlen, hxl, hf⟩ := DataW.trod_struct Try.underlying29 h
  rw [c8] at hlen
  have hD : x.1 = .agg (xs.map (·.1)) := congrArg Prod.fst hxy
  rw [hD] at hsz
  simp only [DataW.weights, Try.underlying29] at hsz
  obtain ⟨y0, y1, y2, y3, y4, y5, y6, y7, hxs⟩ : ∃ y0 y1 y2 y3 y4 y5 y6 y7, xs = [y0, y1, y2, y3, y4, y5, y6, y7] := by
    match xs, hxl with
    | [y0, y1, y2, y3, y4, y5, y6, y7], _ => exact ⟨_, _, _, _, _, _, _, _, rfl⟩
  obtain ⟨v0, v1, v2, v3, v4, v5, v6, v7, hcs'⟩ : ∃ v0 v1 v2 v3 v4 v5 v6 v7, cs = [v0, v1, v2, v3, v4, v5, v6, v7] := by
    match cs, hlen with
    | [v0, v1, v2, v3, v4, v5, v6, v7], _ => exact ⟨_, _, _, _, _, _, _, _, rfl⟩
  subst hxs hcs'
  have g0 := hf 0 _ rfl
  have g1 := hf 1 _ rfl
  have g2 := hf 2 _ rfl
  have g3 := hf 3 _ rfl
  have g4 := hf 4 _ rfl
  have g5 := hf 5 _ rfl
  have g6 := hf 6 _ rfl
  have g7 := hf 7 _ rfl
  simp [c3, c6, c22] at g0 g1 g2 g3 g4 g5 g6 g7
  obtain ⟨k0, e0, -, w0⟩ := DataW.trod_int Try.underlying3 g0
  have b1 := open_lists9 g1 (fun n hn => hsz n (DataW.weights_mem_each (j := 1) rfl rfl n hn))
  have b2 := open_lists9 g2 (fun n hn => hsz n (DataW.weights_mem_each (j := 2) rfl rfl n hn))
  obtain ⟨k3, e3, -, w3⟩ := DataW.trod_int Try.underlying3 g3
  obtain ⟨k4, e4, -, w4⟩ := DataW.trod_int Try.underlying3 g4
  obtain ⟨k5, e5, -, w5⟩ := DataW.trod_int Try.underlying3 g5
  obtain ⟨k6, e6, -, w6⟩ := DataW.trod_int Try.underlying3 g6
  have b7 := open_intsB10 g7 (fun n hn => hsz n (DataW.weights_mem_each (j := 7) rfl rfl n hn))
  simp at e0 e3 e4 e5 e6
  subst e0 e3 e4 e5 e6
  exact ⟨k0, v1, v2, k3, k4, k5, k6, v7, rfl, b1, b2, (bounds_i64 w4).2, b7⟩
/-- a script that came in. -/
def IsOps10 (w : World) (a : Option Addr) (len cap : Nat) : Prop :=
  len ≤ maxLen ∧ (len = 0 ∨ ∃ b off, a = some ⟨b, off, none⟩ ∧ len ≤ cap ∧ cap ≤ maxLen ∧ b < w.heap.size ∧ ∀ t, t < len → ∃ k vA vB i j l m vR, (∀ z u, (cv10 k vA vB i j l m vR)[z]? = some u → w.cell? ⟨b, off + t * 8 + z, none⟩ = some u) ∧ In10 w vA vB vR j)
theorem cell_lt10 {w : World} {a : Addr} {v : Value} (h : w.cell? a = some v) : a.block < w.heap.size := by
  unfold World.cell? at h
  cases hh : w.heap[a.block]? with
  | none => rw [hh] at h; cases h
  | some o => exact (Array.getElem?_eq_some_iff.1 hh).1
set_option maxHeartbeats 2000000 in
set_option maxRecDepth 100000 in
theorem open_ops10 {H : Type} {enc : TypeId × Value → H} {W : World} {base : Nat} {held : Bool} {fuel : Nat} {a : Option Addr} {len cap : Nat} {x : DataW H × List MemPlace}
    (h : DataW.trod enc Try.prog W base (fun _ => true) held fuel 22 [.slice a len cap] = some x) (hsz : ∀ n ∈ x.1.weights Try.prog 22, n ≤ reachBytes) : IsOps10 W a len cap := by
  rcases open_slice Try.underlying22 h with ⟨hcs, _⟩ | ⟨a', len', cap', m, n, D, Pl, hcs, hb, hl, hm, hmm, hxe, hx⟩
  · simp at hcs
    obtain ⟨rfl, rfl, rfl⟩ := hcs
    exact ⟨by unfold maxLen; omega, .inl rfl⟩
  · simp at hcs
    obtain ⟨rfl, rfl, rfl⟩ := hcs
    refine ⟨by omega, ?_⟩
    have hlm : len ≤ m := by rw [hmm]; split <;> omega
    have c8 : Try.prog.cellsOf 29 = 8 := by kernel_rfl
    have each : ∀ t, t < len → ∃ k vA vB i j l m vR, (∀ z u, (cv10 k vA vB i j l m vR)[z]? = some u → W.cell? ((a'.add (t * 8)).add z) = some u) ∧ In10 W vA vB vR j := by
      intro t ht
      obtain ⟨cs', h1, h2⟩ := hx t (by omega)
      rw [c8] at h1
      obtain ⟨_, hlen, hcell⟩ := World.cells?_some h1
      have mD : D t ∈ (List.range len).map D := List.mem_map.2 ⟨t, List.mem_range.2 ht, rfl⟩
      have wts : ∀ n ∈ (D t).weights Try.prog 29, n ≤ reachBytes := fun n hn => hsz n (by
        rw [hxe]
        simp only [DataW.weights, Try.underlying22]
        exact List.mem_cons_of_mem _ (List.mem_append.2 (.inl (weightsAll_mem9 hn mD))))
      obtain ⟨k, vA, vB, i, j, l, m, vR, e, hI⟩ := open_op10 h2 wts
      refine ⟨k, vA, vB, i, j, l, m, vR, fun z u hv => ?_, hI⟩
      have hz : z < 8 := by
        have := (Array.getElem?_eq_some_iff.1 hv).1
        simpa [cv10] using this
      have y := hcell z (by omega)
      rw [y, e]
      simpa using hv
    by_cases h0 : len = 0
    · exact .inl h0
    · right
      obtain ⟨b, off, spot⟩ := a'
      have hspot : spot = none := by
        obtain ⟨k, vA, vB, i, j, l, m, vR, z, -⟩ := each 0 (by omega)
        have z0 := z 0 _ rfl
        simpa [Addr.add] using World.cell?_spot z0
      subst hspot
      refine ⟨b, off, rfl, hl, hm, ?_, ?_⟩
      · obtain ⟨k, vA, vB, i, j, l, m, vR, z, -⟩ := each 0 (by omega)
        have := cell_lt10 (z 0 _ rfl)
        simpa [Addr.add] using this
      · intro t ht
        obtain ⟨k, vA, vB, i, j, l, m, vR, z, hI⟩ := each t ht
        refine ⟨k, vA, vB, i, j, l, m, vR, fun y u hu => ?_, hI⟩
        have := z y u hu
        simpa only [add_plain] using this
end Go.Proofs.Ytdnhidachdjgaaa
