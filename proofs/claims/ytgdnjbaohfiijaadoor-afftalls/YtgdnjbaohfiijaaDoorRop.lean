import Derived.Test.YtgdnjbaohfiijaaDoorRj4
import Derived.Test.YtgdnjbaohfiijaaDoorAof
namespace Go.Proofs.YtgdnjbaohfiijaaDoor
open Go.ChangeShapes Go.WideShapes Go.ChangeAt Go.RowKit Go.Deep
set_option linter.unusedVariables false

-- layer 14: the script opened
/-- words that came in, by their value. -/
def Bm14 (W : World) (v : Value) : Prop := ∃ a n c F, v = .slice a n c ∧ Q6 W v n F ∧ 2 * n ≤ 140737488351232
theorem Bm14.below {W W' : World} {v : Value} (h : Bm14 W v) (hb : Below W.heap.size W W') : Bm14 W' v := by
  obtain ⟨a, n, c, F, h0, h1, h2⟩ := h
  exact ⟨a, n, c, F, h0, h1.below hb, h2⟩
/-- rows that came in, by their value. -/
def Rm14 (W : World) (v : Value) : Prop := ∃ A nr cr gb ob X L Cx F, v = .slice A nr cr ∧ (0 < nr → A = some ⟨gb, ob, none⟩) ∧ Ri14 W gb ob nr X L Cx F ∧ 24 * nr ≤ 140737488351232
theorem Rm14.below {W W' : World} {v : Value} (h : Rm14 W v) (hb : Below W.heap.size W W') : Rm14 W' v := by
  obtain ⟨A, nr, cr, gb, ob, X, L, Cx, F, h0, h1, h2, h3⟩ := h
  exact ⟨A, nr, cr, gb, ob, X, L, Cx, F, h0, h1, h2.below hb, h3⟩
theorem weightsAll_mem14 {H : Type} {P : Program} {e : TypeId} {d : DataW H} {n : Nat} (hn : n ∈ d.weights P e) : ∀ {l : List (DataW H)}, d ∈ l → n ∈ DataW.weightsAll P e l
  | d0 :: l, h => by
    rw [DataW.weightsAll, List.mem_append]
    rcases List.mem_cons.1 h with rfl | h
    · exact .inl hn
    · exact .inr (weightsAll_mem14 hn h)
theorem open_list14 {H : Type} {enc : TypeId × Value → H} {W : World} {base : Nat} {held : Bool} {fuel : Nat} {v : Value} {x : DataW H × List MemPlace}
    (h : DataW.trod enc Tryd.prog W base (fun _ => true) held fuel 26 [v] = some x) (hsz : ∀ n ∈ x.1.weights Tryd.prog 26, n ≤ reachBytes) : Bm14 W v := by
  obtain ⟨a, len, cap, rfl⟩ : ∃ a len cap, v = .slice a len cap := by
    rcases open_slice Tryd.underlying26 h with ⟨hcs, _⟩ | ⟨a', len', cap', m, n, D, Pl, hcs, _⟩
    · simp at hcs; exact ⟨_, _, _, hcs⟩
    · simp at hcs; exact ⟨_, _, _, hcs⟩
  have := open_words8 h (fun el sp he => by
    refine hsz _ ?_
    rw [he]
    simp [DataW.weights, Tryd.underlying26])
  obtain ⟨h1, F, h2⟩ := this
  exact ⟨a, len, cap, F, rfl, h2, h1⟩
theorem bytes_l14 : Tryd.prog.bytesOf 26 = 24 := by kernel_rfl
theorem open_rows14 {H : Type} {enc : TypeId × Value → H} {W : World} {base : Nat} {held : Bool} {fuel : Nat} {v : Value} {x : DataW H × List MemPlace} (hW : 0 < W.heap.size)
    (h : DataW.trod enc Tryd.prog W base (fun _ => true) held fuel 27 [v] = some x) (hsz : ∀ n ∈ x.1.weights Tryd.prog 27, n ≤ reachBytes) : Rm14 W v := by
  have hsz2 : ∀ elems spare, x.1 = .slice elems spare → (elems.length + spare.length) * Tryd.prog.bytesOf 26 ≤ reachBytes := fun el sp he => by
    refine hsz _ ?_
    rw [he]
    simp [DataW.weights, Tryd.underlying27]
  have none0 : ∀ A cr, Rm14 W (.slice A 0 cr) := fun A cr => ⟨A, 0, cr, 0, 0, fun _ => none, fun _ => 0, fun _ => 0, fun _ _ => 0, rfl, fun h => absurd h (Nat.lt_irrefl _), ⟨hW, fun i hi => absurd hi (Nat.not_lt_zero _), fun i hi => absurd hi (Nat.not_lt_zero _), fun i hi => absurd hi (Nat.not_lt_zero _)⟩, by omega⟩
  rcases open_slice Tryd.underlying27 h with ⟨hcs, _⟩ | ⟨a', len, cap, m, n, D, Pl, hcs, hb, hl, hm, hmm, hxe, hx⟩
  · simp at hcs
    subst hcs
    exact none0 _ _
  · simp at hcs
    subst hcs
    have hm' : cap * 24 ≤ 140737488351232 := by
      have := hsz2 _ _ (by rw [hxe])
      rw [bytes_l14] at this
      simp only [List.length_map, List.length_range, reachBytes] at this
      simp at hmm
      omega
    have hlm : len ≤ m := by rw [hmm]; split <;> omega
    have c1 : Tryd.prog.cellsOf 26 = 1 := by kernel_rfl
    have each : ∀ i, i < len → ∃ u, W.cell? ((a'.add i).add 0) = some u ∧ Bm14 W u := by
      intro i hi
      obtain ⟨cs', h1, h2⟩ := hx i (by omega)
      rw [c1] at h1
      obtain ⟨_, hlen, hcell⟩ := World.cells?_some h1
      match cs', hlen with
      | [v0], _ =>
        have z0 := hcell 0 (by omega)
        refine ⟨v0, by simpa using z0, open_list14 h2 (fun n hn => hsz n ?_)⟩
        have mD : D i ∈ (List.range len).map D := List.mem_map.2 ⟨i, List.mem_range.2 hi, rfl⟩
        rw [hxe]
        simp only [DataW.weights, Tryd.underlying27]
        exact List.mem_cons_of_mem _ (List.mem_append.2 (.inl (weightsAll_mem14 hn mD)))
    by_cases h0 : len = 0
    · subst h0
      exact none0 _ _
    · obtain ⟨b, off, spot⟩ := a'
      have hspot : spot = none := by
        obtain ⟨v, z0, -⟩ := each 0 (by omega)
        simpa [Addr.add] using World.cell?_spot z0
      subst hspot
      have each' : ∀ i : Nat, ∃ a n c S, i < len → W.cell? ⟨b, off + i, none⟩ = some (.slice a n c) ∧ Q6 W (.slice a n c) n S ∧ 2 * n ≤ 140737488351232 := by
        intro i
        by_cases hi : i < len
        · obtain ⟨u, z, a, n, c, S, rfl, h1, h2⟩ := each i hi
          simp only [add_plain, Nat.add_zero] at z
          exact ⟨a, n, c, S, fun _ => ⟨z, h1, h2⟩⟩
        · exact ⟨none, 0, 0, fun _ => 0, fun h => absurd h hi⟩
      obtain ⟨X, hX⟩ := Classical.skolem.1 each'
      obtain ⟨N, hN⟩ := Classical.skolem.1 hX
      obtain ⟨C, hC⟩ := Classical.skolem.1 hN
      obtain ⟨S, hS⟩ := Classical.skolem.1 hC
      exact ⟨_, len, cap, b, off, X, N, C, S, rfl, fun _ => rfl, ⟨cell_lt5 (hS 0 (by omega)).1, fun i hi => (hS i hi).1, fun i hi => (hS i hi).2.1, fun i hi => (hS i hi).2.2⟩, by omega⟩
/-- a step's five cells. -/
def cv14 (k : Int) (v vr : Value) (s n : Int) : Array Value := #[.int .i64 k, v, vr, .int .i64 s, .int .i64 n]
set_option maxRecDepth 100000 in
theorem open_op14 {H : Type} {enc : TypeId × Value → H} {W : World} {base : Nat} {held : Bool} {fuel : Nat} {cs : List Value} {x : DataW H × List MemPlace} (hW : 0 < W.heap.size)
    (h : DataW.trod enc Tryd.prog W base (fun _ => true) held fuel 29 cs = some x) (hsz : ∀ n ∈ x.1.weights Tryd.prog 29, n ≤ reachBytes) :
    ∃ k v vr s n, cs = (cv14 k v vr s n).toList ∧ Bm14 W v ∧ Rm14 W vr ∧ (Lit.int .i64 s).wf = true ∧ (Lit.int .i64 n).wf = true := by
  have c5 : Tryd.prog.cellsOf 29 = 5 := by kernel_rfl
  have c3 : Tryd.prog.cellsOf 3 = 1 := by kernel_rfl
  have c6 : Tryd.prog.cellsOf 27 = 1 := by kernel_rfl
  have c22 : Tryd.prog.cellsOf 26 = 1 := by kernel_rfl
  obtain ⟨xs, k, hk, hxy, hlen, hxl, hf⟩ := DataW.trod_struct Tryd.underlying29 h
  rw [c5] at hlen
  have hD : x.1 = .agg (xs.map (·.1)) := congrArg Prod.fst hxy
  rw [hD] at hsz
  simp only [DataW.weights, Tryd.underlying29] at hsz
  obtain ⟨y0, y1, y2, y3, y4, hxs⟩ : ∃ y0 y1 y2 y3 y4, xs = [y0, y1, y2, y3, y4] := by
    match xs, hxl with
    | [y0, y1, y2, y3, y4], _ => exact ⟨_, _, _, _, _, rfl⟩
  obtain ⟨v0, v1, v2, v3, v4, hcs'⟩ : ∃ v0 v1 v2 v3 v4, cs = [v0, v1, v2, v3, v4] := by
    match cs, hlen with
    | [v0, v1, v2, v3, v4], _ => exact ⟨_, _, _, _, _, rfl⟩
  subst hxs hcs'
  have g0 := hf 0 _ rfl
  have g1 := hf 1 _ rfl
  have g2 := hf 2 _ rfl
  have g3 := hf 3 _ rfl
  have g4 := hf 4 _ rfl
  simp [c3, c6, c22] at g0 g1 g2 g3 g4
  obtain ⟨k0, e0, -, w0⟩ := DataW.trod_int Tryd.underlying3 g0
  have b1 := open_list14 g1 (fun n hn => hsz n (DataW.weights_mem_each (j := 1) rfl rfl n hn))
  have b2 := open_rows14 hW g2 (fun n hn => hsz n (DataW.weights_mem_each (j := 2) rfl rfl n hn))
  obtain ⟨k3, e3, -, w3⟩ := DataW.trod_int Tryd.underlying3 g3
  obtain ⟨k4, e4, -, w4⟩ := DataW.trod_int Tryd.underlying3 g4
  simp at e0 e3 e4
  subst e0 e3 e4
  exact ⟨k0, v1, v2, k3, k4, rfl, b1, b2, w3, w4⟩
/-- a step in memory. -/
def OpAt14 (w : World) (b o : Nat) (k : Int) (v vr : Value) (s n : Int) : Prop := ∀ t u, (cv14 k v vr s n)[t]? = some u → w.cell? ⟨b, o + t, none⟩ = some u
/-- a script that came in. -/
def IsOps14 (w : World) (a : Option Addr) (len cap : Nat) : Prop :=
  len ≤ maxLen ∧ (len = 0 ∨ ∃ b off, a = some ⟨b, off, none⟩ ∧ len ≤ cap ∧ cap ≤ maxLen ∧ b < w.heap.size ∧ ∀ t, t < len → ∃ k v vr s n, OpAt14 w b (off + t * 5) k v vr s n ∧ Bm14 w v ∧ Rm14 w vr ∧ (Lit.int .i64 s).wf = true ∧ (Lit.int .i64 n).wf = true)
set_option maxHeartbeats 2000000 in
set_option maxRecDepth 100000 in
theorem open_ops14 {H : Type} {enc : TypeId × Value → H} {W : World} {base : Nat} {held : Bool} {fuel : Nat} {a : Option Addr} {len cap : Nat} {x : DataW H × List MemPlace}
    (h : DataW.trod enc Tryd.prog W base (fun _ => true) held fuel 22 [.slice a len cap] = some x) (hsz : ∀ n ∈ x.1.weights Tryd.prog 22, n ≤ reachBytes) : IsOps14 W a len cap := by
  rcases open_slice Tryd.underlying22 h with ⟨hcs, _⟩ | ⟨a', len', cap', m, n, D, Pl, hcs, hb, hl, hm, hmm, hxe, hx⟩
  · simp at hcs
    obtain ⟨rfl, rfl, rfl⟩ := hcs
    exact ⟨by unfold maxLen; omega, .inl rfl⟩
  · simp at hcs
    obtain ⟨rfl, rfl, rfl⟩ := hcs
    refine ⟨by omega, ?_⟩
    have hlm : len ≤ m := by rw [hmm]; split <;> omega
    have c5 : Tryd.prog.cellsOf 29 = 5 := by kernel_rfl
    have each : ∀ t, t < len → ∃ k v vr s n, (∀ z u, (cv14 k v vr s n)[z]? = some u → W.cell? ((a'.add (t * 5)).add z) = some u) ∧ Bm14 W v ∧ Rm14 W vr ∧ (Lit.int .i64 s).wf = true ∧ (Lit.int .i64 n).wf = true := by
      intro t ht
      obtain ⟨cs', h1, h2⟩ := hx t (by omega)
      rw [c5] at h1
      obtain ⟨_, hlen, hcell⟩ := World.cells?_some h1
      have mD : D t ∈ (List.range len).map D := List.mem_map.2 ⟨t, List.mem_range.2 ht, rfl⟩
      have wts : ∀ n ∈ (D t).weights Tryd.prog 29, n ≤ reachBytes := fun n hn => hsz n (by
        rw [hxe]
        simp only [DataW.weights, Tryd.underlying22]
        exact List.mem_cons_of_mem _ (List.mem_append.2 (.inl (weightsAll_mem14 hn mD))))
      have hW : 0 < W.heap.size := by
        have y := hcell 0 (by omega)
        cases hv : cs'[0]? with
        | none => rw [hv] at y; exact absurd (List.getElem?_eq_none_iff.1 hv) (by omega)
        | some u => rw [hv] at y; exact Nat.lt_of_le_of_lt (Nat.zero_le _) (cell_lt5 y)
      obtain ⟨k, v, vr, s, n, e, hI⟩ := open_op14 hW h2 wts
      refine ⟨k, v, vr, s, n, fun z u hv => ?_, hI⟩
      have hz : z < 5 := by
        have := (Array.getElem?_eq_some_iff.1 hv).1
        simpa [cv14] using this
      have y := hcell z (by omega)
      rw [y, e]
      simpa using hv
    by_cases h0 : len = 0
    · exact .inl h0
    · right
      obtain ⟨b, off, spot⟩ := a'
      have hspot : spot = none := by
        obtain ⟨k, v, vr, s, n, z, -⟩ := each 0 (by omega)
        have z0 := z 0 _ rfl
        simpa [Addr.add] using World.cell?_spot z0
      subst hspot
      refine ⟨b, off, rfl, hl, hm, ?_, ?_⟩
      · obtain ⟨k, v, vr, s, n, z, -⟩ := each 0 (by omega)
        have := cell_lt5 (z 0 _ rfl)
        simpa [Addr.add] using this
      · intro t ht
        obtain ⟨k, v, vr, s, n, z, hI⟩ := each t ht
        refine ⟨k, v, vr, s, n, fun y u hu => ?_, hI⟩
        have := z y u hu
        simpa only [add_plain] using this
end Go.Proofs.YtgdnjbaohfiijaaDoor
