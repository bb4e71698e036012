import Derived.Test.YtdolghlphmjcdabEbo
import Derived.Test.YtdolghlphmjcdabKernelDotsWalk
import Derived.Test.YtdolghlphmjcdabKofa
namespace Go.Proofs.Ytdolghlphmjcdab.kernelDots
open Go.ChangeShapes Go.WideShapes Go.ChangeAt Go.RowKit Go.Deep
set_option linter.unusedVariables false
set_option maxHeartbeats 2000000 in
set_option maxRecDepth 100000 in
/-- the four cells of a sum's argument, opened. -/
theorem open_dotsA9 {H : Type} {enc : TypeId × Value → H} {W W' : World} {base base' : Nat} {held : Bool} {v : Value} {d : DataW H} {p : List MemPlace}
    (ho : Value.okWide Try.prog W' .any base' 42 v) (h : DataW.Trod enc Try.prog W base (fun _ => true) held 42 v d p) (hsz : ∀ n ∈ d.weights Try.prog 42, n ≤ reachBytes) :
    ∃ (vr vo vS : Value) (fill : Nat), v = .agg #[vr, vo, vS, .int .u8 (fill : Int)] ∧ fill < 256 ∧ Bm9 W vr ∧ Bm9 W vo ∧ Lm9 W vS := by
  obtain ⟨cs, rfl, -⟩ := okWide_struct Try.underlying42 ho
  obtain ⟨fuel, hf0⟩ := h
  have c4 : Try.prog.cellsOf 42 = 4 := by kernel_rfl
  have c5 : Try.prog.cellsOf 5 = 1 := by kernel_rfl
  have c22 : Try.prog.cellsOf 25 = 1 := by kernel_rfl
  have c23 : Try.prog.cellsOf 22 = 1 := by kernel_rfl
  obtain ⟨xs, k, hk, hxy, hlen, hxl, hf⟩ := DataW.trod_struct Try.underlying42 hf0
  rw [c4] at hlen
  have hD : d = .agg (xs.map (·.1)) := congrArg Prod.fst hxy
  rw [hD] at hsz
  simp only [DataW.weights, Try.underlying42] at hsz
  obtain ⟨y0, y1, y2, y3, hxs⟩ : ∃ y0 y1 y2 y3, xs = [y0, y1, y2, y3] := by
    match xs, hxl with
    | [y0, y1, y2, y3], _ => exact ⟨_, _, _, _, rfl⟩
  obtain ⟨L, hL⟩ : ∃ L, L = (Value.agg cs).cells.toList := ⟨_, rfl⟩
  rw [← hL] at hlen hf
  obtain ⟨v0, v1, v2, v3, hcs'⟩ : ∃ v0 v1 v2 v3, L = [v0, v1, v2, v3] := by
    match L, hlen with
    | [v0, v1, v2, v3], _ => exact ⟨_, _, _, _, rfl⟩
  rw [hcs'] at hf hL
  subst hxs
  have g0 := hf 0 _ rfl
  have g1 := hf 1 _ rfl
  have g2 := hf 2 _ rfl
  have g3 := hf 3 _ rfl
  simp [c5, c22, c23] at g0 g1 g2 g3
  obtain ⟨k3, e3, -, w3⟩ := DataW.trod_int Try.underlying5 g3
  have b0 := open_bytes9 g0 (fun n hn => hsz n (DataW.weights_mem_each (j := 0) rfl rfl n hn))
  have b1 := open_bytes9 g1 (fun n hn => hsz n (DataW.weights_mem_each (j := 1) rfl rfl n hn))
  have b2 := open_lists9 g2 (fun n hn => hsz n (DataW.weights_mem_each (j := 2) rfl rfl n hn))
  simp at e3
  have d3 := bounds_u8 w3
  have t3 : ((k3.toNat : Nat) : Int) = k3 := by omega
  refine ⟨v0, v1, v2, k3.toNat, ?_, by omega, b0, b1, b2⟩
  congr 1
  apply Array.toList_inj.1
  have hL' : [v0, v1, v2, v3] = cs.toList := by simpa [Value.cells] using hL
  rw [← hL', t3, e3]
set_option maxRecDepth 100000 in
theorem lifted (os : Os) (started : os.Started) (H : Type) (enc : TypeId × Value → H) :
    ReturnsInHanded {} Try.checked os 4 .any (Rows.kernelDotsSpec.pre6 enc Try.prog Try.f4 Rows.kernelDotsRow.domain false) (Rows.kernelDotsSpec.post enc Try.prog Try.f4 false true false false) := by
  refine returnsInHanded_of_change_sized (C := Try.checked) own5 started (by kernel_rfl) Try.func4
    (ChangeSpec.witness6 (enc := enc) (C := Try.checked) false ⟨#[], #[.agg #[.slice none 0 0, .slice none 0 0, .slice none 0 0, .int .u8 0]], []⟩ 8 (by kernel_rfl) (by kernel_rfl) (by kernel_rfl) (by kernel_rfl)) ?_
  intro W base args ds gs before hval0 hW hcnd hsz0 _
  have hval : ∀ (j : Nat) t v, Try.f4.params[j]? = some t → args[j]? = some v → Value.okWide Try.prog W .any base t v := hval0
  have hW' := hW
  obtain ⟨p, q, hA0, hV, rfl, hfz, hnd⟩ := hW
  have hA : DataW.TrodAll enc Try.prog W 0 (fun _ => true) true Try.f4.params.toList args.toList ds p := hA0
  have hsz : (DataW.weightsEach Try.prog (Try.f4.params.toList ++ Rows.kernelDotsSpec.plain.varTypes Try.prog) (ds ++ gs)).all (· ≤ reachBytes) = true := hsz0
  rw [Try.params4] at hA hval hsz
  obtain ⟨v0, vs0, d0, ds0, p0, q0, hargs0, rfl, rfl, h0, r0⟩ := trodAll_cons hA
  obtain ⟨rfl, rfl, rfl⟩ := trodAll_nil r0
  obtain rfl : args = #[v0] := by cases args; simp_all
  obtain ⟨rfl, rfl⟩ := trodVars_none hV
  obtain ⟨vr0, vo0, vS0, fill0, rfl, lf0, wr0, wo0, wS0⟩ := open_dotsA9 (hval 0 42 v0 rfl rfl) h0 (fun n hn => by simpa using List.all_eq_true.1 hsz n (DataW.weights_mem_each (j := 0) (t := 42) rfl rfl n hn))
  have lt0 : ∀ x ∈ p0, x.block < W.heap.size := by obtain ⟨m, hm⟩ := h0; exact DataW.trod_lt m _ _ _ hm
  obtain ⟨nr, Fr, hr, hnr⟩ := wr0
  obtain ⟨no, Fo, ho, -⟩ := wo0
  obtain ⟨mS, nS, SS, hs, hmS, hnS⟩ := wS0
  clear hA0 hval0
  refine (walk vr0 vo0 vS0 nr no mS fill0 Fr Fo nS SS W hr ho hs lf0 hnr hmS hnS).mono fun e W' ⟨he, bel⟩ => ?_
  subst he
  exact ⟨_, rfl, _, _, _, [], _, [], hW', trodAll_mk1 (shut_bool Try.underlying4 _), (trodAll_cons_mk (Below.trod laidOut5 (by kernel_rfl) (of_decide_eq_true (by kernel_rfl)) h0 bel lt0) trodAll_mk0), rfl, bel.frame _, fun h => by cases h⟩

theorem proved : Rows.KernelDotsSaid :=
  OpenClaim.holds_of_wide 4 Try.f4 rfl rfl rfl rfl rfl rfl rfl ⟨rfl, rfl, rfl, rfl, rfl⟩ rfl rfl rfl rfl rfl (by kernel_rfl) Try.func4 (by kernel_rfl)
    (of_decide_eq_true (by kernel_rfl)) (by unfold Func.isWrapper; first | (rw [if_pos (by decide +kernel)]; kernel_rfl) | (rw [if_neg (by decide +kernel)]; exact ⟨rfl, rfl⟩))
    (fun os started H enc _ => lifted os started H enc)
#print axioms proved
end Go.Proofs.Ytdolghlphmjcdab.kernelDots
