import Derived.Test.YtfbgcednodnioaaDoorPpag
import Derived.Test.YtfbgcednodnioaaDoorPpav
import Derived.Test.YtfbgcednodnioaaDoorPpar
import Derived.Stop.LaidErr
import Derived.LaidMore
import Derived.LaidLaws
namespace Go.Proofs.YtfbgcednodnioaaDoor
open Go.ChangeShapes Go.WideShapes Go.ChangeAt Go.RowKit Go.Deep
set_option linter.unusedVariables false

-- layer 22: what came in, opened
theorem bytes_i22 : Tryd.prog.bytesOf 3 = 8 := by kernel_rfl
/-- integers that came in. -/
structure Isints22 (W : World) (a : Option Addr) (len cap : Nat) : Prop where
  ex : ∃ F, Qi W (.slice a len cap) len F ∧ ∀ i, i < len → I6x (F i)
  le : len * 8 ≤ 140737488351232
theorem open_ints22 {H : Type} {enc : TypeId × Value → H} {W : World} {base : Nat} {held : Bool} {fuel : Nat} {a : Option Addr} {len cap : Nat} {x : DataW H × List MemPlace}
    (h : DataW.trod enc Tryd.prog W base (fun _ => true) held fuel 27 [.slice a len cap] = some x) (hsz : ∀ n ∈ x.1.weights Tryd.prog 27, n ≤ reachBytes) : Isints22 W a len cap := by
  have hsz2 : ∀ elems spare, x.1 = .slice elems spare → (elems.length + spare.length) * Tryd.prog.bytesOf 3 ≤ reachBytes := fun el sp he => by
    refine hsz _ ?_
    rw [he]
    simp [DataW.weights, Tryd.underlying27]
  rcases open_slice Tryd.underlying27 h with ⟨hcs, _⟩ | ⟨a', len', cap', m, n, D, Pl, hcs, hb, hl, hm, hmm, hxe, hx⟩
  · simp at hcs
    obtain ⟨rfl, rfl, rfl⟩ := hcs
    exact ⟨⟨fun _ => 0, ⟨by decide, trivial, none, 0, rfl, Nat.le_refl _, by decide, fun h => absurd h (Nat.lt_irrefl _)⟩, fun i hi => absurd hi (Nat.not_lt_zero _)⟩, by decide⟩
  · simp at hcs
    obtain ⟨rfl, rfl, rfl⟩ := hcs
    have hle : len * 8 ≤ 140737488351232 := by
      have := hsz2 _ _ (by rw [hxe])
      rw [bytes_i22] at this
      simp only [List.length_map, List.length_range, reachBytes] at this
      simp at hmm
      omega
    have hlm : len ≤ m := by rw [hmm]; split <;> omega
    have c3 : Tryd.prog.cellsOf 3 = 1 := by kernel_rfl
    have each : ∀ i, i < len → ∃ k : Int, W.cell? ((a'.add i).add 0) = some (.int .i64 k) ∧ I6x k := by
      intro i hi
      obtain ⟨cs', h1, h2⟩ := hx i (by omega)
      rw [c3] at h1
      obtain ⟨_, hlen, hcell⟩ := World.cells?_some h1
      match cs', hlen with
      | [v0], _ =>
        obtain ⟨k0, e0, -, w0⟩ := DataW.trod_int Tryd.underlying3 h2
        simp at e0
        subst e0
        have z0 := hcell 0 (by omega)
        exact ⟨k0, by simpa using z0, bounds_i64 w0⟩
    have hcap : cap ≤ big := by unfold big; unfold maxLen at hm; omega
    have hbig : len ≤ big := by omega
    refine ⟨?_, hle⟩
    by_cases h0 : len = 0
    · subst h0
      exact ⟨fun _ => 0, ⟨hbig, trivial, _, _, rfl, hl, hcap, fun h => absurd h (Nat.lt_irrefl _)⟩, fun i hi => absurd hi (Nat.not_lt_zero _)⟩
    · obtain ⟨b, off, spot⟩ := a'
      have hspot : spot = none := by
        obtain ⟨v, z0, -⟩ := each 0 (by omega)
        simpa [Addr.add] using World.cell?_spot z0
      subst hspot
      have each' : ∀ i, i < len → ∃ k : Int, W.cell? ⟨b, off + i, none⟩ = some (.int .i64 k) ∧ I6x k := by
        intro i hi
        obtain ⟨v, z, zz⟩ := each i hi
        simp only [add_plain, Nat.add_zero] at z
        exact ⟨v, z, zz⟩
      refine ⟨fun i => if h : i < len then (each' i h).choose else 0, ⟨hbig, trivial, _, _, rfl, hl, hcap, fun _ => ⟨b, off, rfl, ?_, fun i hi => ?_⟩⟩, fun i hi => ?_⟩
      · obtain ⟨v, z0, -⟩ := each' 0 (by omega)
        exact cell_lt5 z0
      · simp only [dif_pos hi]
        exact (each' i hi).choose_spec.1
      · simp only [dif_pos hi]
        exact (each' i hi).choose_spec.2
/-- a plan that came in. -/
structure Ispl22 (W : World) (dv cv : Value) (fa code : Int) : Prop where
  dat : ∃ a n c D, dv = .slice a n c ∧ Bi (fun y => y < W.heap.size) W (.slice a n c) n D ∧ n ≤ 140737488351232
  chk : ∃ a k c C, cv = .slice a k c ∧ Ii (fun y => y < W.heap.size) W (.slice a k c) k C ∧ k * 8 ≤ 140737488351232 ∧ ∀ i, i < k → I6x (C i)
  ff : I6x fa
  fc : I6x code
theorem cells_plan22 : Tryd.prog.cellsOf 43 = 4 := by kernel_rfl
theorem Rb.bi22 {w : World} {v : Value} {n : Nat} {F : Nat → Nat} (h : Rb w v n F) : Bi (fun y => y < w.heap.size) w v n F := by
  obtain ⟨h1, h2, a, cap, h3, h4, h5, h6⟩ := h
  exact ⟨h1, h2, a, cap, h3, h4, h5, fun h0 => by obtain ⟨b, o, e, hl, hc⟩ := h6 h0; exact ⟨b, o, e, hl, hl, hc⟩⟩
theorem Qi.ii22 {w : World} {v : Value} {n : Nat} {F : Nat → Int} (h : Qi w v n F) : Ii (fun y => y < w.heap.size) w v n F := by
  obtain ⟨h1, -, a, cap, h3, h4, h5, h6⟩ := h
  exact ⟨h1, a, cap, h3, h4, h5, fun h0 => by obtain ⟨b, o, e, hl, hc⟩ := h6 h0; exact ⟨b, o, e, hl, hl, hc⟩⟩
set_option maxRecDepth 100000 in
theorem open_plan22 {H : Type} {enc : TypeId × Value → H} {W W' : World} {base base' : Nat} {held : Bool} {v : Value} {d : DataW H} {p : List MemPlace}
    (ho : Value.okWide Tryd.prog W' .any base' 43 v) (h : DataW.Trod enc Tryd.prog W base (fun _ => true) held 43 v d p) (hsz : ∀ n ∈ d.weights Tryd.prog 43, n ≤ reachBytes) :
    ∃ dv cv fa code, v = .agg #[dv, cv, .int .i64 fa, .int .i64 code] ∧ Ispl22 W dv cv fa code := by
  obtain ⟨cs, rfl, -⟩ := okWide_struct Tryd.underlying43 ho
  obtain ⟨fuel, hf⟩ := h
  have c3 : Tryd.prog.cellsOf 3 = 1 := by kernel_rfl
  have c5 : Tryd.prog.cellsOf 41 = 1 := by kernel_rfl
  have c6 : Tryd.prog.cellsOf 27 = 1 := by kernel_rfl
  obtain ⟨xs, k, hk, hxy, hlen, hxl, hf⟩ := DataW.trod_struct Tryd.underlying43 hf
  rw [cells_plan22] at hlen
  have hD : d = .agg (xs.map (·.1)) := congrArg Prod.fst hxy
  rw [hD] at hsz
  simp only [DataW.weights, Tryd.underlying43] at hsz
  obtain ⟨y0, y1, y2, y3, hxs⟩ : ∃ y0 y1 y2 y3, xs = [y0, y1, y2, y3] := by
    match xs, hxl with
    | [y0, y1, y2, y3], _ => exact ⟨_, _, _, _, rfl⟩
  obtain ⟨v0, v1, v2, v3, hcs⟩ : ∃ v0 v1 v2 v3, (Value.agg cs).cells.toList = [v0, v1, v2, v3] := by
    match h9 : (Value.agg cs).cells.toList, hlen with
    | [v0, v1, v2, v3], _ => exact ⟨_, _, _, _, rfl⟩
  subst hxs
  rw [hcs] at hf
  have g0 := hf 0 _ rfl
  have g1 := hf 1 _ rfl
  have g2 := hf 2 _ rfl
  have g3 := hf 3 _ rfl
  simp [c3, c5, c6] at g0 g1 g2 g3
  obtain ⟨n, S, hB, hn⟩ := open_bytes9 g0 (fun n hn => hsz n (DataW.weights_mem_each (j := 0) rfl rfl n hn))
  obtain ⟨a, c, rfl⟩ : ∃ a c, v0 = .slice a n c := by obtain ⟨-, -, a, c, e, -⟩ := hB; exact ⟨a, c, e⟩
  obtain ⟨a', k', c', rfl⟩ : ∃ a' k' c', v1 = .slice a' k' c' := by
    rcases open_slice Tryd.underlying27 g1 with ⟨hcs, _⟩ | ⟨a', len', cap', m, n, D, Pl, hcs, _⟩
    · simp at hcs; exact ⟨_, _, _, hcs⟩
    · simp at hcs; exact ⟨_, _, _, hcs⟩
  have hI := open_ints22 g1 (fun n hn => hsz n (DataW.weights_mem_each (j := 1) rfl rfl n hn))
  obtain ⟨k2, e2, -, w2⟩ := DataW.trod_int Tryd.underlying3 g2
  obtain ⟨k3, e3, -, w3⟩ := DataW.trod_int Tryd.underlying3 g3
  simp at e2 e3
  subst e2 e3
  have hcs2 : cs = #[.slice a n c, .slice a' k' c', .int .i64 k2, .int .i64 k3] := by
    have : cs.toList = [.slice a n c, .slice a' k' c', .int .i64 k2, .int .i64 k3] := by simpa [Value.cells] using hcs
    exact Array.toList_inj.1 this
  obtain ⟨C, hQ, hC⟩ := hI.ex
  exact ⟨_, _, k2, k3, by rw [hcs2], ⟨a, n, c, S, rfl, hB.bi22, hn⟩, ⟨a', k', c', C, rfl, hQ.ii22, hI.le, hC⟩, bounds_i64 w2, bounds_i64 w3⟩
theorem star22 : "*" ++ "errors.errorString" = "*errors.errorString" := by decide
theorem row_es22 (u : TypeId) (h : Tryd.prog.typeName? 3 u = some "*errors.errorString") : u = 114 :=
  typeName_ptr_named (nm := "errors.errorString") (by rw [star22]; kernel_rfl) (by kernel_rfl) (by decide) u (by rw [star22]; exact h)
theorem laidEnd22 {W : World} (h : laidMet Tryd.prog [("cullet/pipes.End", Rows.laid_cullet_pipes_End)] W) : ∃ x, En22 W x := by
  have e1 : Tryd.prog.globalNamed "cullet/pipes.End" = some 0 := by kernel_rfl
  have e2 : (Tryd.prog.globals[0]?).map (·.type) = some 35 := by kernel_rfl
  obtain ⟨a, s, h1, -⟩ := laid_sentinel (r := []) h e1 e2 Tryd.underlying35 row_es22 Tryd.underlying114 Tryd.underlying129 rfl rfl Tryd.underlying9 (by kernel_rfl) (by kernel_rfl)
  exact ⟨a, (World.var?_cell e1 h1 0).trans rfl⟩
theorem laidEnd22_1 {W : World} (h : laidMetH Tryd.prog [("cullet/pipes.End", Rows.laid_cullet_pipes_End)] W) : ∃ x, En22 W x := by
  rw [MakeChecks.laidMetH_plain _ _ _ (by kernel_rfl)] at h
  exact laidEnd22 h
end Go.Proofs.YtfbgcednodnioaaDoor
