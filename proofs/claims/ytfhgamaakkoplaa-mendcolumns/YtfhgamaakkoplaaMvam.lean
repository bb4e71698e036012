import Derived.Test.YtfhgamaakkoplaaMval
import Derived.Test.YtfhgamaakkoplaaMvai
import Derived.BigQuiet
import Derived.Deep.OwnRows
namespace Go.Proofs.Ytfhgamaakkoplaa
open Go.ChangeShapes Go.WideShapes Go.ChangeAt Go.RowKit Go.Deep
set_option linter.unusedVariables false

/-- bytes that came in. -/
def Bm9 (W : World) (v : Value) : Prop := ∃ n S, Rb W v n S ∧ n ≤ 140737488351232
theorem Bm9.below {W W' : World} {v : Value} (h : Bm9 W v) (hb : Below W.heap.size W W') : Bm9 W' v := by
  obtain ⟨n, S, h1, h2⟩ := h
  exact ⟨n, S, h1.below hb, h2⟩
theorem weightsAll_mem9 {H : Type} {P : Program} {e : TypeId} {d : DataW H} {n : Nat} (hn : n ∈ d.weights P e) : ∀ {l : List (DataW H)}, d ∈ l → n ∈ DataW.weightsAll P e l
  | d0 :: l, h => by
    rw [DataW.weightsAll, List.mem_append]
    rcases List.mem_cons.1 h with rfl | h
    · exact .inl hn
    · exact .inr (weightsAll_mem9 hn h)
theorem open_bytes9 {H : Type} {enc : TypeId × Value → H} {W : World} {base : Nat} {held : Bool} {fuel : Nat} {v : Value} {x : DataW H × List MemPlace}
    (h : DataW.trod enc Try.prog W base (fun _ => true) held fuel 25 [v] = some x) (hsz : ∀ n ∈ x.1.weights Try.prog 25, n ≤ reachBytes) : Bm9 W v := by
  obtain ⟨a, len, cap, rfl⟩ : ∃ a len cap, v = .slice a len cap := by
    rcases open_slice Try.underlying25 h with ⟨hcs, _⟩ | ⟨a', len', cap', m, n, D, Pl, hcs, _⟩
    · simp at hcs; exact ⟨_, _, _, hcs⟩
    · simp at hcs; exact ⟨_, _, _, hcs⟩
  have := open_bytes5 h (fun el sp he => by
    refine hsz _ ?_
    rw [he]
    simp [DataW.weights, Try.underlying25])
  obtain ⟨h1, F, h2⟩ := this
  exact ⟨len, F, h2, h1⟩
end Go.Proofs.Ytfhgamaakkoplaa
namespace Go.Proofs.Ytfhgamaakkoplaa
open Go.ChangeShapes Go.WideShapes Go.ChangeAt Go.RowKit Go.Deep
set_option linter.unusedVariables false

/-- integers that came in. -/
theorem open_ints10 {H : Type} {enc : TypeId × Value → H} {W : World} {base : Nat} {held : Bool} {fuel : Nat} {v : Value} {x : DataW H × List MemPlace}
    (h : DataW.trod enc Try.prog W base (fun _ => true) held fuel 24 [v] = some x) : ∃ a len cap F, v = .slice a len cap ∧ Qi W (.slice a len cap) len F := by
  rcases open_slice Try.underlying24 h with ⟨hcs, _⟩ | ⟨a', len, cap, m, n, D, Pl, hcs, hb, hl, hm, hmm, hxe, hx⟩
  · simp at hcs
    subst hcs
    exact ⟨none, 0, 0, fun _ => 0, rfl, by decide, trivial, none, 0, rfl, Nat.le_refl _, by decide, fun h => absurd h (Nat.lt_irrefl _)⟩
  · simp at hcs
    subst hcs
    have hlm : len ≤ m := by rw [hmm]; split <;> omega
    have c3 : Try.prog.cellsOf 3 = 1 := by kernel_rfl
    have each : ∀ i, i < len → ∃ k : Int, W.cell? ((a'.add i).add 0) = some (.int .i64 k) := by
      intro i hi
      obtain ⟨cs', h1, h2⟩ := hx i (by omega)
      rw [c3] at h1
      obtain ⟨_, hlen, hcell⟩ := World.cells?_some h1
      match cs', hlen with
      | [v0], _ =>
        obtain ⟨k0, e0, -, w0⟩ := DataW.trod_int Try.underlying3 h2
        simp at e0
        subst e0
        have z0 := hcell 0 (by omega)
        exact ⟨k0, by simpa using z0⟩
    have hcap : cap ≤ big := by unfold big; unfold maxLen at hm; omega
    have hbig : len ≤ big := by omega
    by_cases h0 : len = 0
    · subst h0
      exact ⟨_, _, _, fun _ => 0, rfl, hbig, trivial, _, _, rfl, hl, hcap, fun h => absurd h (Nat.lt_irrefl _)⟩
    · obtain ⟨b, off, spot⟩ := a'
      have hspot : spot = none := by
        obtain ⟨v, z0⟩ := each 0 (by omega)
        simpa [Addr.add] using World.cell?_spot z0
      subst hspot
      have each' : ∀ i, i < len → ∃ k : Int, W.cell? ⟨b, off + i, none⟩ = some (.int .i64 k) := by
        intro i hi
        obtain ⟨v, z⟩ := each i hi
        simp only [add_plain, Nat.add_zero] at z
        exact ⟨v, z⟩
      refine ⟨_, _, _, fun i => if h : i < len then (each' i h).choose else 0, rfl, hbig, trivial, _, _, rfl, hl, hcap, fun _ => ⟨b, off, rfl, ?_, fun i hi => ?_⟩⟩
      · obtain ⟨v, z0⟩ := each' 0 (by omega)
        exact cell_lt5 z0
      · simp only [dif_pos hi]
        exact (each' i hi).choose_spec
end Go.Proofs.Ytfhgamaakkoplaa
namespace Go.Proofs.Ytfhgamaakkoplaa
open Go.ChangeShapes Go.WideShapes Go.ChangeAt Go.RowKit Go.Deep
set_option linter.unusedVariables false

-- MendColumns: the script, opened
theorem bytes_ic19 : Try.prog.bytesOf 3 = 8 := by kernel_rfl
theorem open_intsC19 {H : Type} {enc : TypeId × Value → H} {W : World} {base : Nat} {held : Bool} {fuel : Nat} {v : Value} {x : DataW H × List MemPlace}
    (h : DataW.trod enc Try.prog W base (fun _ => true) held fuel 24 [v] = some x) (hsz : ∀ n ∈ x.1.weights Try.prog 24, n ≤ reachBytes) : ∃ a n c R, v = .slice a n c ∧ Qi W v n R ∧ 8 * n ≤ 140737488351232 := by
  obtain ⟨a, n, c, R, rfl, hq⟩ := open_ints10 h
  refine ⟨a, n, c, R, rfl, hq, ?_⟩
  have hsz2 : ∀ elems spare, x.1 = .slice elems spare → (elems.length + spare.length) * Try.prog.bytesOf 3 ≤ reachBytes := fun el sp he => by
    refine hsz _ ?_
    rw [he]
    simp [DataW.weights, Try.underlying24]
  rcases open_slice Try.underlying24 h with ⟨hcs, _⟩ | ⟨a', len, cap, m, n', D, Pl, hcs, hb, hl, hm, hmm, hxe, hx⟩
  · simp at hcs
    omega
  · simp at hcs
    obtain ⟨rfl, rfl, rfl⟩ := hcs
    have := hsz2 _ _ (by rw [hxe])
    rw [bytes_ic19] at this
    simp only [List.length_map, List.length_range, reachBytes] at this
    simp at hmm
    omega
/-- a call's five cells. -/
def cvC19 (K k m : Int) (vP vV : Value) : Array Value := #[.int .i64 K, .int .i64 k, .int .i64 m, vP, vV]
/-- what a call came in with. -/
structure InC19 (W : World) (K k m : Int) (vP vV : Value) : Prop where
  p : ∃ a n c F, vP = .slice a n c ∧ Qi W vP n F ∧ 8 * n ≤ 140737488351232
  v : Bm9 W vV
theorem InC19.below {W W' : World} {K k m : Int} {vP vV : Value} (h : InC19 W K k m vP vV) (hb : Below W.heap.size W W') : InC19 W' K k m vP vV := by
  obtain ⟨a, n, c, F, e, hq, hl⟩ := h.p
  exact ⟨⟨a, n, c, F, e, hq.below hb, hl⟩, h.v.below hb⟩
set_option maxRecDepth 100000 in
theorem open_opC19 {H : Type} {enc : TypeId × Value → H} {W : World} {base : Nat} {held : Bool} {fuel : Nat} {cs : List Value} {x : DataW H × List MemPlace}
    (h : DataW.trod enc Try.prog W base (fun _ => true) held fuel 27 cs = some x) (hsz : ∀ n ∈ x.1.weights Try.prog 27, n ≤ reachBytes) :
    ∃ K k m vP vV, cs = (cvC19 K k m vP vV).toList ∧ InC19 W K k m vP vV := by
  have c8 : Try.prog.cellsOf 27 = 5 := by kernel_rfl
  have c3 : Try.prog.cellsOf 3 = 1 := by kernel_rfl
  have c6 : Try.prog.cellsOf 24 = 1 := by kernel_rfl
  have c22 : Try.prog.cellsOf 25 = 1 := by kernel_rfl
  obtain ⟨xs, k, hk, hxy, hlen, hxl, hf⟩ := DataW.trod_struct Try.underlying27 h
  rw [c8] at hlen
  have hD : x.1 = .agg (xs.map (·.1)) := congrArg Prod.fst hxy
  rw [hD] at hsz
  simp only [DataW.weights, Try.underlying27] at hsz
  obtain ⟨y0, y1, y2, y3, y4, hxs⟩ : ∃ y0 y1 y2 y3 y4, xs = [y0, y1, y2, y3, y4] := by
    match xs, hxl with
    | [y0, y1, y2, y3, y4], _ => exact ⟨_, _, _, _, _, rfl⟩
  obtain ⟨v0, v1, v2, v3, v4, hcs'⟩ : ∃ v0 v1 v2 v3 v4, cs = [v0, v1, v2, v3, v4] := by
    match cs, hlen with
    | [v0, v1, v2, v3, v4], _ => exact ⟨_, _, _, _, _, rfl⟩
  subst hxs hcs'
  have g0 := hf 0 _ rfl
  have g1 := hf 1 _ rfl
  have g2 := hf 2 _ rfl
  have g3 := hf 3 _ rfl
  have g4 := hf 4 _ rfl
  simp [c3, c6, c22] at g0 g1 g2 g3 g4
  obtain ⟨k0, e0, -, w0⟩ := DataW.trod_int Try.underlying3 g0
  obtain ⟨k1, e1, -, w1⟩ := DataW.trod_int Try.underlying3 g1
  obtain ⟨k2, e2, -, w2⟩ := DataW.trod_int Try.underlying3 g2
  have b3 := open_intsC19 g3 (fun n hn => hsz n (DataW.weights_mem_each (j := 3) rfl rfl n hn))
  have b4 := open_bytes9 g4 (fun n hn => hsz n (DataW.weights_mem_each (j := 4) rfl rfl n hn))
  simp at e0 e1 e2
  subst e0 e1 e2
  exact ⟨k0, k1, k2, v3, v4, rfl, b3, b4⟩
/-- a script that came in. -/
def IsOpsC19 (w : World) (a : Option Addr) (len cap : Nat) : Prop :=
  len ≤ maxLen ∧ (len = 0 ∨ ∃ b off, a = some ⟨b, off, none⟩ ∧ len ≤ cap ∧ cap ≤ maxLen ∧ b < w.heap.size ∧ ∀ t, t < len → ∃ K k m vP vV, (∀ z u, (cvC19 K k m vP vV)[z]? = some u → w.cell? ⟨b, off + t * 5 + z, none⟩ = some u) ∧ InC19 w K k m vP vV)
theorem IsOpsC19.below {w w' : World} {a : Option Addr} {len cap : Nat} (h : IsOpsC19 w a len cap) (hb : Below w.heap.size w w') : IsOpsC19 w' a len cap := by
  obtain ⟨h1, h2⟩ := h
  refine ⟨h1, ?_⟩
  rcases h2 with h2 | ⟨b, off, e, h3, h4, h5, h6⟩
  · exact .inl h2
  · refine .inr ⟨b, off, e, h3, h4, Nat.lt_of_lt_of_le h5 hb.size, fun t ht => ?_⟩
    obtain ⟨K, k, m, vP, vV, z, hI⟩ := h6 t ht
    exact ⟨K, k, m, vP, vV, fun y u hu => (hb.cell (p := ⟨b, off + t * 5 + y, none⟩) h5).trans (z y u hu), hI.below hb⟩
set_option maxHeartbeats 2000000 in
set_option maxRecDepth 100000 in
theorem open_opsC19 {H : Type} {enc : TypeId × Value → H} {W : World} {base : Nat} {held : Bool} {fuel : Nat} {a : Option Addr} {len cap : Nat} {x : DataW H × List MemPlace}
    (h : DataW.trod enc Try.prog W base (fun _ => true) held fuel 22 [.slice a len cap] = some x) (hsz : ∀ n ∈ x.1.weights Try.prog 22, n ≤ reachBytes) : IsOpsC19 W a len cap := by
  rcases open_slice Try.underlying22 h with ⟨hcs, _⟩ | ⟨a', len', cap', m, n, D, Pl, hcs, hb, hl, hm, hmm, hxe, hx⟩
  · simp at hcs
    obtain ⟨rfl, rfl, rfl⟩ := hcs
    exact ⟨by unfold maxLen; omega, .inl rfl⟩
  · simp at hcs
    obtain ⟨rfl, rfl, rfl⟩ := hcs
    refine ⟨by omega, ?_⟩
    have hlm : len ≤ m := by rw [hmm]; split <;> omega
    have c5 : Try.prog.cellsOf 27 = 5 := by kernel_rfl
    have each : ∀ t, t < len → ∃ K k m vP vV, (∀ z u, (cvC19 K k m vP vV)[z]? = some u → W.cell? ((a'.add (t * 5)).add z) = some u) ∧ InC19 W K k m vP vV := by
      intro t ht
      obtain ⟨cs', h1, h2⟩ := hx t (by omega)
      rw [c5] at h1
      obtain ⟨_, hlen, hcell⟩ := World.cells?_some h1
      have mD : D t ∈ (List.range len).map D := List.mem_map.2 ⟨t, List.mem_range.2 ht, rfl⟩
      have wts : ∀ n ∈ (D t).weights Try.prog 27, n ≤ reachBytes := fun n hn => hsz n (by
        rw [hxe]
        simp only [DataW.weights, Try.underlying22]
        exact List.mem_cons_of_mem _ (List.mem_append.2 (.inl (weightsAll_mem9 hn mD))))
      obtain ⟨K, k, m, vP, vV, e, hI⟩ := open_opC19 h2 wts
      refine ⟨K, k, m, vP, vV, fun z u hv => ?_, hI⟩
      have hz : z < 5 := by
        have := (Array.getElem?_eq_some_iff.1 hv).1
        simpa [cvC19] using this
      have y := hcell z (by omega)
      rw [y, e]
      simpa using hv
    by_cases h0 : len = 0
    · exact .inl h0
    · right
      obtain ⟨b, off, spot⟩ := a'
      have hspot : spot = none := by
        obtain ⟨K, k, m, vP, vV, z, -⟩ := each 0 (by omega)
        have z0 := z 0 _ rfl
        simpa [Addr.add] using World.cell?_spot z0
      subst hspot
      refine ⟨b, off, rfl, hl, hm, ?_, ?_⟩
      · obtain ⟨K, k, m, vP, vV, z, -⟩ := each 0 (by omega)
        have := cell_lt5 (z 0 _ rfl)
        simpa [Addr.add] using this
      · intro t ht
        obtain ⟨K, k, m, vP, vV, z, hI⟩ := each t ht
        refine ⟨K, k, m, vP, vV, fun y u hu => ?_, hI⟩
        have := z y u hu
        simpa only [add_plain] using this
end Go.Proofs.Ytfhgamaakkoplaa
namespace Go.Proofs.Ytfhgamaakkoplaa
open Go.RowKit Gf2
set_option linter.unusedVariables false

-- layer 16: the numbers
/-- the least power of two that is n or more (n 1 or more). -/
def p2 (n : Nat) : Nat := 2 ^ Nat.log2 (2 * n - 1)
end Go.Proofs.Ytfhgamaakkoplaa
namespace Go.Proofs.Ytfhgamaakkoplaa
open Go.RowKit Gf2
set_option linter.unusedVariables false

-- layer 16: a list of lists that is made and filled from the front; pieces of lists
/-- the list lies in block g and has m places, the first k are filled. -/
structure Fl (w wr : World) (g m k : Nat) (n C B : Nat → Nat) (S : Nat → Nat → Nat) : Prop where
  bel : Below w.heap.size w wr
  lo : w.heap.size ≤ g
  list : wr.rowIs g 25 m (fun i => if i < k then .slice (some ⟨B i, 0, none⟩) (n i) (C i) else .slice none 0 0)
  rows : ∀ i, i < k → w.heap.size ≤ B i ∧ B i ≠ g ∧ n i ≤ C i ∧ Rw wr (B i) (C i) (S i)
  inj : ∀ i j, i < k → j < k → B i = B j → i = j
section
variable {w wr w' : World} {g m k : Nat} {n C B : Nat → Nat} {S : Nat → Nat → Nat}
theorem Fl.start (w : World) (m : Nat) (n C B : Nat → Nat) (S : Nat → Nat → Nat) : Fl w (w.alloc (.cells (madeCells #[.slice none 0 0] m) 25)) w.heap.size m 0 n C B S :=
  ⟨(Below.refl _ _).alloc (Nat.le_refl _) _, Nat.le_refl _, (World.rowIs_made w (.slice none 0 0) m 25).congr (fun i _ => (if_neg (Nat.not_lt_zero _)).symm), fun i hi => absurd hi (Nat.not_lt_zero _), fun i j hi => absurd hi (Nat.not_lt_zero _)⟩
theorem Fl.below (h : Fl w wr g m k n C B S) (hb : Below wr.heap.size wr w') : Fl w w' g m k n C B S :=
  ⟨h.bel.trans (hb.mono h.bel.size), h.lo, h.list.of_block (hb.block g h.list.lt), fun i hi => ⟨(h.rows i hi).1, (h.rows i hi).2.1, (h.rows i hi).2.2.1, rw_below (h.rows i hi).2.2.2 hb⟩, h.inj⟩
theorem Fl.drewN (h : Fl w wr g m k n C B S) (q : Nat) : Fl w (wr.drewN q) g m k n C B S := h.below (below_drewN (Below.refl _ _) q)
theorem Fl.cell (h : Fl w wr g m k n C B S) {i : Nat} (hi : i < k) (hk : k ≤ m) : wr.cell? ⟨g, i, none⟩ = some (.slice (some ⟨B i, 0, none⟩) (n i) (C i)) := by
  rw [h.list.cell (by omega), if_pos hi]
theorem Fl.bare (h : Fl w wr g m k n C B S) (hk : k < m) : wr.cell? ⟨g, k, none⟩ = some (.slice none 0 0) := by
  rw [h.list.cell hk, if_neg (Nat.lt_irrefl _)]
theorem Fl.froz (h : Fl w wr g m k n C B S) (i : Nat) : wr.frozen? ⟨g, i, none⟩ = false := h.list.frozen i
theorem Fl.next {wx : World} {b c l : Nat} {F : Nat → Nat} (h : Fl w wr g m k n C B S) (hk : k < m) (hb : Below wr.heap.size wr wx) (hb1 : wr.heap.size ≤ b) (hr : Rw wx b c F) (hl : l ≤ c) :
    Fl w (wx.setCell ⟨g, k, none⟩ (.slice (some ⟨b, 0, none⟩) l c)) g m (k + 1) (upn n k l) (upn C k c) (upn B k b) (upn S k F) := by
  have hx := h.below hb
  have gl := h.list.lt
  have ho : Only g wx (wx.setCell ⟨g, k, none⟩ (.slice (some ⟨b, 0, none⟩) l c)) := (Only.refl _ _).setCell _ _
  refine ⟨hx.bel.setCell h.lo _, h.lo, (hx.list.set k _).congr (fun i hi => ?_), fun i hi => ?_, fun i j hi hj hij => ?_⟩
  · by_cases e : i = k
    · subst e; rw [if_pos rfl, if_pos (Nat.lt_succ_self _), upn_same, upn_same, upn_same]
    · rw [if_neg e, upn_other _ _ e, upn_other _ _ e, upn_other _ _ e]
      by_cases e2 : i < k
      · rw [if_pos e2, if_pos (by omega)]
      · rw [if_neg e2, if_neg (by omega)]
  · by_cases e : i = k
    · subst e
      rw [upn_same, upn_same, upn_same, upn_same]
      exact ⟨Nat.le_trans h.bel.size hb1, by omega, hl, ho.rw_ hr (by omega)⟩
    · rw [upn_other _ _ e, upn_other _ _ e, upn_other _ _ e, upn_other _ _ e]
      obtain ⟨r1, r2, r3, r4⟩ := hx.rows i (by omega)
      exact ⟨r1, r2, r3, ho.rw_ r4 r2⟩
  · by_cases e1 : i = k
    · subst e1
      rw [upn_same] at hij
      by_cases e2 : j = i
      · exact e2.symm
      · rw [upn_other _ _ e2] at hij
        have := (h.rows j (by omega)).2.2.2.lt
        omega
    · rw [upn_other _ _ e1] at hij
      by_cases e2 : j = k
      · subst e2
        rw [upn_same] at hij
        have := (h.rows i (by omega)).2.2.2.lt
        omega
      · rw [upn_other _ _ e2] at hij
        exact h.inj i j (by omega) (by omega) hij
theorem Fl.turn {i : Nat} {F : Nat → Nat} (h : Fl w wr g m k n C B S) (hi : i < k) (ho : Kp (B i) wr w') (hr : Rw w' (B i) (C i) F) : Fl w w' g m k n C B (upn S i F) := by
  obtain ⟨r1, r2, r3, r4⟩ := h.rows i hi
  refine ⟨h.bel.trans (ho.below r1 h.bel.size), h.lo, h.list.of_block (ho.2 g h.list.lt (fun e => r2 e.symm)), fun j hj => ?_, h.inj⟩
  obtain ⟨q1, q2, q3, q4⟩ := h.rows j hj
  by_cases e : j = i
  · subst e; rw [upn_same]; exact ⟨q1, q2, q3, hr⟩
  · rw [upn_other _ _ e]
    exact ⟨q1, q2, q3, ho.rw_ q4 (fun e2 => e (h.inj j i hj hi e2))⟩
theorem Fl.congr {n' C' B' : Nat → Nat} {T : Nat → Nat → Nat} (h : Fl w wr g m k n C B S) (hn : ∀ i, i < k → n i = n' i) (hC : ∀ i, i < k → C i = C' i) (hB : ∀ i, i < k → B i = B' i) (hS : ∀ i, i < k → ∀ j, j < C i → S i j = T i j) : Fl w wr g m k n' C' B' T := by
  refine ⟨h.bel, h.lo, h.list.congr (fun i hi => ?_), fun i hi => ?_, fun i j hi hj e => h.inj i j hi hj (by rw [hB i hi, hB j hj]; exact e)⟩
  · by_cases e : i < k
    · rw [if_pos e, if_pos e, hn i e, hC i e, hB i e]
    · rw [if_neg e, if_neg e]
  · obtain ⟨r1, r2, r3, r4⟩ := h.rows i hi
    rw [← hn i hi, ← hC i hi, ← hB i hi]
    exact ⟨r1, r2, r3, r4.congr (hS i hi)⟩
theorem Fl.cs (h : Fl w wr g m m n C B S) (hm : m ≤ big) : Cs w.heap.size wr.heap.size wr (.slice (some ⟨g, 0, none⟩) m m) m n C B S := by
  refine ⟨hm, Nat.le_refl _, ⟨_, _, rfl, Nat.le_refl _, hm, fun h0 => ⟨g, rfl, h.lo, h.list.lt, fun i hi => (h.rows i hi).2.1, fun i hi => h.cell hi (Nat.le_refl _)⟩⟩, fun i hi => ?_, h.inj⟩
  obtain ⟨r1, r2, r3, r4⟩ := h.rows i hi
  exact ⟨r1, r4.lt, r3, r4⟩
end
end Go.Proofs.Ytfhgamaakkoplaa
namespace Go.Proofs.Ytfhgamaakkoplaa
open Go.RowKit Gf2
set_option linter.unusedVariables false

-- layer 16: lengths of lists: plain mathematics, and lists read by their lengths
/-- a list of c lists, the i-th of the length n i. -/
def Ln (w : World) (v : Value) (c : Nat) (n : Nat → Nat) : Prop := c ≤ 281474976710656 ∧ (∀ i, i < c → n i ≤ big) ∧ ∃ a cap, v = .slice a c cap ∧ c ≤ cap ∧ cap ≤ big ∧ (0 < c → ∃ b o, a = some ⟨b, o, none⟩ ∧ b < w.heap.size ∧ ∀ i, i < c → ∃ x y, w.cell? ⟨b, o + i, none⟩ = some (.slice x (n i) y))
theorem Ln.below {w w' : World} {v : Value} {c : Nat} {n : Nat → Nat} (h : Ln w v c n) (hb : Below w.heap.size w w') : Ln w' v c n := by
  obtain ⟨h1, h2, a, cap, h3, h4, h5, h6⟩ := h
  refine ⟨h1, h2, a, cap, h3, h4, h5, fun h0 => ?_⟩
  obtain ⟨b, o, e, hl, hc⟩ := h6 h0
  refine ⟨b, o, e, Nat.lt_of_lt_of_le hl hb.size, fun i hi => ?_⟩
  obtain ⟨x, y, z⟩ := hc i hi
  exact ⟨x, y, (hb.cell (p := ⟨b, o + i, none⟩) hl).trans z⟩
theorem Ll.ln {E : Nat → Prop} {w : World} {v : Value} {c : Nat} {n : Nat → Nat} {S : Nat → Nat → Nat} (h : Ll E w v c n S) (hc : c ≤ 281474976710656) : Ln w v c n := by
  obtain ⟨V, ⟨h1, a, cap, h3, h5, h6, h4⟩, hV⟩ := h
  refine ⟨hc, fun i hi => (hV i hi).1, a, cap, h3, h5, h6, fun h0 => ?_⟩
  obtain ⟨b, o, e, hl, hc⟩ := h4 h0
  refine ⟨b, o, e, hl.1, fun i hi => ?_⟩
  obtain ⟨-, -, x, y, e2, -⟩ := hV i hi
  exact ⟨x, y, by rw [hc i hi, e2]⟩
theorem Ln.congr {w : World} {v : Value} {c : Nat} {n n' : Nat → Nat} (h : Ln w v c n) (e : ∀ i, i < c → n i = n' i) : Ln w v c n' := by
  obtain ⟨h1, h2, a, cap, h3, h4, h5, h6⟩ := h
  refine ⟨h1, fun i hi => by rw [← e i hi]; exact h2 i hi, a, cap, h3, h4, h5, fun h0 => ?_⟩
  obtain ⟨b, o, e1, hl, hc⟩ := h6 h0
  exact ⟨b, o, e1, hl, fun i hi => by rw [← e i hi]; exact hc i hi⟩
theorem Ln.form {w : World} {v : Value} {c : Nat} {n : Nat → Nat} (h : Ln w v c n) : ∃ a cap, v = .slice a c cap := by
  obtain ⟨h1, h2, a, cap, h3, h4, h5, h6⟩ := h
  exact ⟨a, cap, h3⟩
/-- the first k of them. -/
theorem Ln.head {w : World} {x : Option Addr} {c cx k : Nat} {n : Nat → Nat} (h : Ln w (.slice x c cx) c n) (hk : k ≤ c) : Ln w (.slice x k cx) k n := by
  obtain ⟨h1, h2, a, cap, h3, h4, h5, h6⟩ := h
  cases h3
  refine ⟨by omega, fun i hi => h2 i (by omega), x, cx, rfl, by omega, h5, fun h0 => ?_⟩
  obtain ⟨b, o, e1, hl, hc⟩ := h6 (by omega)
  exact ⟨b, o, e1, hl, fun i hi => hc i (by omega)⟩
end Go.Proofs.Ytfhgamaakkoplaa
