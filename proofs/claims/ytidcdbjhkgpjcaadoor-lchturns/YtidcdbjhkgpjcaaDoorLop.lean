import Derived.Test.YtidcdbjhkgpjcaaDoorRows
import Derived.Test.YtidcdbjhkgpjcaaDoorLca
import Derived.WalkKit
import Derived.ProofKit
import Derived.OpenShut
import Derived.ShutString
import Derived.ChangeOld
import Derived.Below
import Derived.Deep.Slices
import Derived.ChangeSame
import Derived.LaidMore
import Derived.SizedLaws
namespace Go.Proofs.YtidcdbjhkgpjcaaDoor
open Go.ChangeShapes Go.WideShapes Go.ChangeAt Go.RowKit Go.Deep
set_option linter.unusedVariables false

theorem cell_lt13 {w : World} {a : Addr} {v : Value} (h : w.cell? a = some v) : a.block < w.heap.size := by
  unfold World.cell? at h
  cases hh : w.heap[a.block]? with
  | none => rw [hh] at h; cases h
  | some o => exact (Array.getElem?_eq_some_iff.1 hh).1
/-- words that came in. -/
def Qbm (w : World) (a : Option Addr) (len cap : Nat) : Prop := 2 * len ≤ 140737488351232 ∧ ∃ F, Q6 w (.slice a len cap) len F
theorem bytes_w6 : Tryd.prog.bytesOf 26 = 2 := by kernel_rfl
theorem open_words13 {H : Type} {enc : TypeId × Value → H} {W : World} {base : Nat} {held : Bool} {fuel : Nat} {a : Option Addr} {len cap : Nat} {x : DataW H × List MemPlace}
    (h : DataW.trod enc Tryd.prog W base (fun _ => true) held fuel 27 [.slice a len cap] = some x)
    (hsz : ∀ elems spare, x.1 = .slice elems spare → (elems.length + spare.length) * Tryd.prog.bytesOf 26 ≤ reachBytes) : Qbm W a len cap := by
  rcases open_slice Tryd.underlying27 h with ⟨hcs, _⟩ | ⟨a', len', cap', m, n, D, Pl, hcs, hb, hl, hm, hmm, hxe, hx⟩
  · simp at hcs
    obtain ⟨rfl, rfl, rfl⟩ := hcs
    exact ⟨by omega, fun _ => 0, by unfold big; omega, fun i hi => absurd hi (Nat.not_lt_zero _), _, _, rfl, by omega, by unfold big; omega, fun h => absurd h (Nat.lt_irrefl _)⟩
  · simp at hcs
    obtain ⟨rfl, rfl, rfl⟩ := hcs
    have hm' : 2 * cap ≤ 140737488351232 := by
      have := hsz _ _ (by rw [hxe])
      rw [bytes_w6] at this
      simp only [List.length_map, List.length_range, reachBytes] at this
      simp at hmm
      omega
    have hlm : len ≤ m := by rw [hmm]; split <;> omega
    have c5 : Tryd.prog.cellsOf 26 = 1 := by kernel_rfl
    have each : ∀ i, i < len → ∃ v : Nat, v < 65536 ∧ W.cell? ((a'.add i).add 0) = some (.int .u16 (v : Nat)) := by
      intro i hi
      obtain ⟨cs', h1, h2⟩ := hx i (by omega)
      rw [c5] at h1
      obtain ⟨_, hlen, hcell⟩ := World.cells?_some h1
      match cs', hlen with
      | [v0], _ =>
        obtain ⟨k0, e0, -, w0⟩ := DataW.trod_int Tryd.underlying26 h2
        simp at e0
        subst e0
        have b0 := bounds_u16 w0
        have t0 : ((k0.toNat : Nat) : Int) = k0 := by omega
        have z0 := hcell 0 (by omega)
        exact ⟨k0.toNat, by omega, by rw [t0]; simpa using z0⟩
    by_cases h0 : len = 0
    · subst h0
      exact ⟨by omega, fun _ => 0, by unfold big; omega, fun i hi => absurd hi (Nat.not_lt_zero _), _, _, rfl, by omega, by unfold big; omega, fun h => absurd h (Nat.lt_irrefl _)⟩
    · obtain ⟨b, off, spot⟩ := a'
      have hspot : spot = none := by
        obtain ⟨v, -, z0⟩ := each 0 (by omega)
        simpa [Addr.add] using World.cell?_spot z0
      subst hspot
      have each' : ∀ i, i < len → ∃ v : Nat, v < 65536 ∧ W.cell? ⟨b, off + i, none⟩ = some (.int .u16 (v : Nat)) := by
        intro i hi
        obtain ⟨v, hv, z⟩ := each i hi
        simp only [add_plain, Nat.add_zero] at z
        exact ⟨v, hv, z⟩
      refine ⟨by omega, fun i => if h : i < len then (each' i h).choose else 0, by unfold big; omega, fun i hi => ?_, _, _, rfl, hl, by unfold big; omega, fun _ => ⟨b, off, rfl, ?_, fun i hi => ?_⟩⟩
      · simp only [dif_pos hi]
        exact (each' i hi).choose_spec.1
      · obtain ⟨v, -, z0⟩ := each' 0 (by omega)
        exact cell_lt13 z0
      · simp only [dif_pos hi]
        exact (each' i hi).choose_spec.2

/-- words that came in, by their value. -/
def Bm13 (W : World) (v : Value) : Prop := ∃ n S, Q6 W v n S ∧ 2 * n ≤ 140737488351232
theorem Bm13.below {W W' : World} {v : Value} (h : Bm13 W v) (hb : Below W.heap.size W W') : Bm13 W' v := by
  obtain ⟨n, S, h1, h2⟩ := h
  obtain ⟨b1, b2, a, cap, b3, b5, b6, b4⟩ := h1
  refine ⟨n, S, ⟨b1, b2, a, cap, b3, b5, b6, fun h0 => ?_⟩, h2⟩
  obtain ⟨b, o, e, hl, hc⟩ := b4 h0
  exact ⟨b, o, e, Nat.lt_of_lt_of_le hl hb.size, fun i hi => (hb.cell (p := ⟨b, o + i, none⟩) hl).trans (hc i hi)⟩
theorem Bm13.form {W : World} {v : Value} (h : Bm13 W v) : ∃ a n c, v = .slice a n c := by
  obtain ⟨n, S, ⟨_, _, a, cap, e, _⟩, _⟩ := h
  exact ⟨a, n, cap, e⟩
theorem weightsAll_mem13 {H : Type} {P : Program} {e : TypeId} {d : DataW H} {n : Nat} (hn : n ∈ d.weights P e) : ∀ {l : List (DataW H)}, d ∈ l → n ∈ DataW.weightsAll P e l
  | d0 :: l, h => by
    rw [DataW.weightsAll, List.mem_append]
    rcases List.mem_cons.1 h with rfl | h
    · exact .inl hn
    · exact .inr (weightsAll_mem13 hn h)
theorem open_list13 {H : Type} {enc : TypeId × Value → H} {W : World} {base : Nat} {held : Bool} {fuel : Nat} {v : Value} {x : DataW H × List MemPlace}
    (h : DataW.trod enc Tryd.prog W base (fun _ => true) held fuel 27 [v] = some x) (hsz : ∀ n ∈ x.1.weights Tryd.prog 27, n ≤ reachBytes) : Bm13 W v := by
  obtain ⟨a, len, cap, rfl⟩ : ∃ a len cap, v = .slice a len cap := by
    rcases open_slice Tryd.underlying27 h with ⟨hcs, _⟩ | ⟨a', len', cap', m, n, D, Pl, hcs, _⟩
    · simp at hcs; exact ⟨_, _, _, hcs⟩
    · simp at hcs; exact ⟨_, _, _, hcs⟩
  have := open_words13 h (fun el sp he => by
    refine hsz _ ?_
    rw [he]
    simp [DataW.weights, Tryd.underlying27])
  obtain ⟨h1, F, h2⟩ := this
  exact ⟨len, F, h2, h1⟩
/-- a step's five cells. -/
def cv13 (k i j : Int) (x : Nat) (v : Value) : Array Value := #[.int .i64 k, .int .i64 i, .int .i64 j, .int .u16 (x : Int), v]
set_option maxRecDepth 100000 in
theorem open_op13 {H : Type} {enc : TypeId × Value → H} {W : World} {base : Nat} {held : Bool} {fuel : Nat} {cs : List Value} {x : DataW H × List MemPlace}
    (h : DataW.trod enc Tryd.prog W base (fun _ => true) held fuel 29 cs = some x) (hsz : ∀ n ∈ x.1.weights Tryd.prog 29, n ≤ reachBytes) :
    ∃ k i j X v, cs = (cv13 k i j X v).toList ∧ X < 65536 ∧ Bm13 W v := by
  have c5 : Tryd.prog.cellsOf 29 = 5 := by kernel_rfl
  have c3 : Tryd.prog.cellsOf 3 = 1 := by kernel_rfl
  have c6 : Tryd.prog.cellsOf 26 = 1 := by kernel_rfl
  have c22 : Tryd.prog.cellsOf 27 = 1 := by kernel_rfl
  obtain ⟨xs, k, hk, hxy, hlen, hxl, hf⟩ := DataW.trod_struct Tryd.underlying29 h
  rw [c5] at hlen
  have hD : x.1 = .agg (xs.map (·.1)) := congrArg Prod.fst hxy
  rw [hD] at hsz
  simp only [DataW.weights, Tryd.underlying29] at hsz
  obtain ⟨y0, y1, y2, y3, y4, hxs⟩ : ∃ y0 y1 y2 y3 y4, xs = [y0, y1, y2, y3, y4] := by
    match xs, hxl with
    | [y0, y1, y2, y3, y4], _ => exact ⟨_, _, _, _, _, rfl⟩
  obtain ⟨v0, v1, v2, v3, v4, hcs'⟩ : ∃ v0 v1 v2 v3 v4, cs = [v0, v1, v2, v3, v4] := by
    match cs, hlen with
    | [v0, v1, v2, v3, v4], _ => exact ⟨_, _, _, _, _, rfl⟩
  subst hxs hcs'
  have g0 := hf 0 _ rfl
  have g1 := hf 1 _ rfl
  have g2 := hf 2 _ rfl
  have g3 := hf 3 _ rfl
  have g4 := hf 4 _ rfl
  simp [c3, c6, c22] at g0 g1 g2 g3 g4
  obtain ⟨k0, e0, -, w0⟩ := DataW.trod_int Tryd.underlying3 g0
  obtain ⟨k1, e1, -, w1⟩ := DataW.trod_int Tryd.underlying3 g1
  obtain ⟨k2, e2, -, w2⟩ := DataW.trod_int Tryd.underlying3 g2
  obtain ⟨k3, e3, -, w3⟩ := DataW.trod_int Tryd.underlying26 g3
  have b4 := open_list13 g4 (fun n hn => hsz n (DataW.weights_mem_each (j := 4) rfl rfl n hn))
  simp at e0 e1 e2 e3
  subst e0 e1 e2 e3
  have d3 := bounds_u16 w3
  have t3 : ((k3.toNat : Nat) : Int) = k3 := by omega
  refine ⟨k0, k1, k2, k3.toNat, v4, ?_, by omega, b4⟩
  unfold cv13
  rw [t3]
/-- a step in memory. -/
def OpAt13 (w : World) (b o : Nat) (k i j : Int) (x : Nat) (v : Value) : Prop := ∀ t u, (cv13 k i j x v)[t]? = some u → w.cell? ⟨b, o + t, none⟩ = some u
/-- a script that came in. -/
def IsOps13 (w : World) (a : Option Addr) (len cap : Nat) : Prop :=
  len ≤ maxLen ∧ (len = 0 ∨ ∃ b off, a = some ⟨b, off, none⟩ ∧ len ≤ cap ∧ cap ≤ maxLen ∧ b < w.heap.size ∧ ∀ t, t < len → ∃ k i j x v, OpAt13 w b (off + t * 5) k i j x v ∧ x < 65536 ∧ Bm13 w v)
set_option maxHeartbeats 2000000 in
set_option maxRecDepth 100000 in
theorem open_ops13 {H : Type} {enc : TypeId × Value → H} {W : World} {base : Nat} {held : Bool} {fuel : Nat} {a : Option Addr} {len cap : Nat} {x : DataW H × List MemPlace}
    (h : DataW.trod enc Tryd.prog W base (fun _ => true) held fuel 22 [.slice a len cap] = some x) (hsz : ∀ n ∈ x.1.weights Tryd.prog 22, n ≤ reachBytes) : IsOps13 W a len cap := by
  rcases open_slice Tryd.underlying22 h with ⟨hcs, _⟩ | ⟨a', len', cap', m, n, D, Pl, hcs, hb, hl, hm, hmm, hxe, hx⟩
  · simp at hcs
    obtain ⟨rfl, rfl, rfl⟩ := hcs
    exact ⟨by unfold maxLen; omega, .inl rfl⟩
  · simp at hcs
    obtain ⟨rfl, rfl, rfl⟩ := hcs
    refine ⟨by omega, ?_⟩
    have hlm : len ≤ m := by rw [hmm]; split <;> omega
    have c5 : Tryd.prog.cellsOf 29 = 5 := by kernel_rfl
    have each : ∀ t, t < len → ∃ k i j x v, (∀ z u, (cv13 k i j x v)[z]? = some u → W.cell? ((a'.add (t * 5)).add z) = some u) ∧ x < 65536 ∧ Bm13 W v := by
      intro t ht
      obtain ⟨cs', h1, h2⟩ := hx t (by omega)
      rw [c5] at h1
      obtain ⟨_, hlen, hcell⟩ := World.cells?_some h1
      have mD : D t ∈ (List.range len).map D := List.mem_map.2 ⟨t, List.mem_range.2 ht, rfl⟩
      have wts : ∀ n ∈ (D t).weights Tryd.prog 29, n ≤ reachBytes := fun n hn => hsz n (by
        rw [hxe]
        simp only [DataW.weights, Tryd.underlying22]
        exact List.mem_cons_of_mem _ (List.mem_append.2 (.inl (weightsAll_mem13 hn mD))))
      obtain ⟨k, i, j, X, v, e, hX, hI⟩ := open_op13 h2 wts
      refine ⟨k, i, j, X, v, fun z u hv => ?_, hX, hI⟩
      have hz : z < 5 := by
        have := (Array.getElem?_eq_some_iff.1 hv).1
        simpa [cv13] using this
      have y := hcell z (by omega)
      rw [y, e]
      simpa using hv
    by_cases h0 : len = 0
    · exact .inl h0
    · right
      obtain ⟨b, off, spot⟩ := a'
      have hspot : spot = none := by
        obtain ⟨k, i, j, X, v, z, -⟩ := each 0 (by omega)
        have z0 := z 0 _ rfl
        simpa [Addr.add] using World.cell?_spot z0
      subst hspot
      refine ⟨b, off, rfl, hl, hm, ?_, ?_⟩
      · obtain ⟨k, i, j, X, v, z, -⟩ := each 0 (by omega)
        have := cell_lt13 (z 0 _ rfl)
        simpa [Addr.add] using this
      · intro t ht
        obtain ⟨k, i, j, X, v, z, hX, hI⟩ := each t ht
        refine ⟨k, i, j, X, v, fun y u hu => ?_, hX, hI⟩
        have := z y u hu
        simpa only [add_plain] using this
end Go.Proofs.YtidcdbjhkgpjcaaDoor
