import Derived.Test.YtidcdbjhkgpjcaaDoorTj5
import Derived.Test.YtidcdbjhkgpjcaaDoorRows
import Derived.LaidMore
import Derived.Stop.Joined
import Derived.MakeChecks
import Derived.OpenShut
namespace Go.Proofs.YtidcdbjhkgpjcaaDoor
open Go.RowKit Gf2

theorem laidB {j : Nat} (h : j < 16) : (match (Rows.laid_cullet_gf16_basis : DataW Unit) with | .agg l => l[j]? | _ => none) = some (.lit (.int .u16 ((cbn j : Nat) : Int))) := by
  rcases lt16 h with rfl | rfl | rfl | rfl | rfl | rfl | rfl | rfl | rfl | rfl | rfl | rfl | rfl | rfl | rfl | rfl <;> kernel_rfl
theorem laidI /- 1 -/ {j : Nat} (h : j < 16) : (match (Rows.laid_cullet_gf16_indices : DataW Unit) with | .agg l => l[j]? | _ => none) = some (.lit (.int .u16 ((cin j : Nat) : Int))) := by
  rcases lt16 h with rfl | rfl | rfl | rfl | rfl | rfl | rfl | rfl | rfl | rfl | rfl | rfl | rfl | rfl | rfl | rfl <;> kernel_rfl

theorem trod16 {H : Type} {enc : TypeId × Value → H} {W : World} {base : Nat} {spare : Bool} {held : TypeId → Bool} {fuel : Nat} {cs : List Value} {x : DataW H × List MemPlace}
    (h : DataW.trod enc Tryd.prog W base held spare fuel 58 cs = some x) :
    cs.length = 16 ∧ ∃ l : List (DataW H), x.1 = .agg l ∧ ∀ j, j < 16 → ∃ k : Int, cs[j]? = some (.int .u16 k) ∧ l[j]? = some (.lit (.int .u16 k)) := by
  have u16a : Tryd.prog.underlying 58 = some (.array 16 26) := by kernel_rfl
  have u16 : Tryd.prog.underlying 26 = some (.int .u16) := by kernel_rfl
  have c1 : Tryd.prog.cellsOf 26 = 1 := by kernel_rfl
  have c16 : Tryd.prog.cellsOf 58 = 16 := by kernel_rfl
  obtain ⟨xs, m1, rfl, hx1, hlen, hn, hel⟩ := DataW.trod_array u16a h
  refine ⟨by rw [hlen, c16], xs.map (·.1), by rw [hx1], fun j hj => ?_⟩
  have hj2 := hel j hj
  rw [c1, Nat.mul_one] at hj2
  obtain ⟨y, hy⟩ : ∃ y, xs[j]? = some y := ⟨xs[j]'(by omega), List.getElem?_eq_getElem (by omega)⟩
  rw [hy] at hj2
  obtain ⟨k, h1, h2, _⟩ := DataW.trod_int u16 hj2
  refine ⟨k, ?_, by rw [List.getElem?_map, hy, Option.map_some, h2]⟩
  have h3 : (cs.drop j)[0]? = some (.int .u16 k) := by
    have : ((cs.drop j).take 1)[0]? = some (.int .u16 k) := by rw [h1]; rfl
    simpa [List.getElem?_take] using this
  simpa using h3
theorem row_eq {cs : Array Value} {f : Nat → Nat} {R : Array Value} {D : DataW Unit} {l : List (DataW Unit)} (hs : cs.toList.length = 16) (hR : R.size = 16) (hRg : ∀ t, t < 16 → R[t]? = some (.int .u16 (f t : Nat)))
    (hD : ∀ j, j < 16 → (match D with | .agg l => l[j]? | _ => none) = some (.lit (.int .u16 ((f j : Nat) : Int)))) (hl : D = .agg l)
    (hc : ∀ j, j < 16 → ∃ k : Int, cs.toList[j]? = some (.int .u16 k) ∧ l[j]? = some (.lit (.int .u16 k))) : cs = R := by
  subst hl
  apply Array.ext_getElem?
  intro j
  by_cases hj : j < 16
  · obtain ⟨k, h1, h2⟩ := hc j hj
    have h3 := hD j hj
    have h4 : some (DataW.lit (Lit.int .u16 k)) = some (.lit (.int .u16 ((f j : Nat) : Int))) := h2.symm.trans h3
    simp only [Option.some.injEq, DataW.lit.injEq, Lit.int.injEq, true_and] at h4
    rw [hRg j hj, ← Array.getElem?_toList, h1, h4]
  · rw [Array.getElem?_eq_none (by rw [← Array.length_toList]; omega), Array.getElem?_eq_none (by omega)]

theorem heap_of_var {P : Program} {w : World} {n : String} {g : Nat} {cs : Array Value} (hg : P.globalNamed n = some g) (h : w.var? P n = some cs) : ∃ t fr, w.heap[g]? = some (.cells cs t fr) := by
  simp only [World.var?, hg, Option.bind_some] at h
  split at h
  · next c t f e => exact ⟨t, f, by rw [e, Option.some.inj h]⟩
  · cases h

theorem laidT : (Rows.laid_math_bits_deBruijn64tab : DataW Unit) = .agg (tzl.map (fun n => .lit (.int .u8 ((n : Nat) : Int)))) := by kernel_rfl
theorem tzl_len : tzl.length = 64 := by decide
theorem trod64 {H : Type} {enc : TypeId × Value → H} {W : World} {base : Nat} {spare : Bool} {held : TypeId → Bool} {fuel : Nat} {cs : List Value} {x : DataW H × List MemPlace}
    (h : DataW.trod enc Tryd.prog W base held spare fuel 83 cs = some x) :
    cs.length = 64 ∧ ∃ l : List (DataW H), x.1 = .agg l ∧ ∀ j, j < 64 → ∃ k : Int, cs[j]? = some (.int .u8 k) ∧ l[j]? = some (.lit (.int .u8 k)) := by
  have u8a : Tryd.prog.underlying 83 = some (.array 64 5) := by kernel_rfl
  have u8 : Tryd.prog.underlying 5 = some (.int .u8) := by kernel_rfl
  have c1 : Tryd.prog.cellsOf 5 = 1 := by kernel_rfl
  have c64 : Tryd.prog.cellsOf 83 = 64 := by kernel_rfl
  obtain ⟨xs, m1, rfl, hx1, hlen, hn, hel⟩ := DataW.trod_array u8a h
  refine ⟨by rw [hlen, c64], xs.map (·.1), by rw [hx1], fun j hj => ?_⟩
  have hj2 := hel j hj
  rw [c1, Nat.mul_one] at hj2
  obtain ⟨y, hy⟩ : ∃ y, xs[j]? = some y := ⟨xs[j]'(by omega), List.getElem?_eq_getElem (by omega)⟩
  rw [hy] at hj2
  obtain ⟨k, h1, h2, _⟩ := DataW.trod_int u8 hj2
  refine ⟨k, ?_, by rw [List.getElem?_map, hy, Option.map_some, h2]⟩
  have h3 : (cs.drop j)[0]? = some (.int .u8 k) := by
    have : ((cs.drop j).take 1)[0]? = some (.int .u8 k) := by rw [h1]; rfl
    simpa [List.getElem?_take] using this
  simpa using h3
theorem row_T {cs : Array Value} {l : List (DataW Unit)} (hs : cs.toList.length = 64) (hl : (Rows.laid_math_bits_deBruijn64tab : DataW Unit) = .agg l)
    (hc : ∀ j, j < 64 → ∃ k : Int, cs.toList[j]? = some (.int .u8 k) ∧ l[j]? = some (.lit (.int .u8 k))) : cs = rT := by
  rw [laidT] at hl
  injection hl with hl
  apply Array.ext_getElem?
  intro j
  by_cases hj : j < 64
  · obtain ⟨k, h1, h2⟩ := hc j hj
    have ht : j < tzl.length := by rw [tzl_len]; exact hj
    rw [← hl, List.getElem?_map, List.getElem?_eq_getElem ht] at h2
    simp only [Option.map_some, Option.some.injEq, DataW.lit.injEq, Lit.int.injEq, true_and] at h2
    rw [← Array.getElem?_toList, h1]
    unfold rT
    rw [List.getElem?_toArray, List.getElem?_map, List.getElem?_eq_getElem ht, Option.map_some, h2]
  · rw [Array.getElem?_eq_none (by rw [← Array.length_toList]; omega), Array.getElem?_eq_none (by rw [rT_size]; omega)]
/-- the tables lie where the laid variables do. -/
theorem laid13 {W : World} (h : laidMetH Tryd.prog [("math/bits.deBruijn32tab", Rows.laid_math_bits_deBruijn32tab), ("math/bits.deBruijn64tab", Rows.laid_math_bits_deBruijn64tab), ("cullet/gf16.basis", Rows.laid_cullet_gf16_basis), ("cullet/gf16.indices", Rows.laid_cullet_gf16_indices)] W) : Cant W ∧ Tzt W := by
  rw [MakeChecks.laidMetH_plain _ _ _ (by kernel_rfl)] at h
  obtain ⟨ps, ⟨g2, t2, cs2, f2, p2, q2, hg2, ht2, hv2, hd2, ⟨g3, t3, cs3, f3, p3, q3, hg3, ht3, hv3, hd3, ⟨g0, t0, cs0, f0, p0, q0, hg0, ht0, hv0, hd0, ⟨g1, t1, cs1, f1, p1, q1, hg1, ht1, hv1, hd1, _, _⟩, _⟩, _⟩, _⟩, _, _⟩ := h
  have e1 : Tryd.prog.globalNamed "cullet/gf16.basis" = some 0 := by kernel_rfl
  have e2 : Tryd.prog.globalNamed "cullet/gf16.indices" = some 1 := by kernel_rfl
  have e5 : Tryd.prog.globalNamed "math/bits.deBruijn64tab" = some 3 := by kernel_rfl
  have e3 : (Tryd.prog.globals[0]?).map (·.type) = some 58 := by kernel_rfl
  have e4 : (Tryd.prog.globals[1]?).map (·.type) = some 58 := by kernel_rfl
  have e6 : (Tryd.prog.globals[3]?).map (·.type) = some 83 := by kernel_rfl
  obtain rfl := Option.some.inj (e1.symm.trans hg0)
  obtain rfl := Option.some.inj (e2.symm.trans hg1)
  obtain rfl := Option.some.inj (e5.symm.trans hg3)
  obtain rfl := Option.some.inj (e3.symm.trans ht0)
  obtain rfl := Option.some.inj (e4.symm.trans ht1)
  obtain rfl := Option.some.inj (e6.symm.trans ht3)
  obtain ⟨n0, l0, x0, y0⟩ := trod16 hd0
  obtain ⟨n1, l1, x1, y1⟩ := trod16 hd1
  obtain ⟨n3, l3, x3, y3⟩ := trod64 hd3
  have r0 : cs0 = rB := row_eq n0 rB_size (fun t ht => rB_get ht) (fun j hj => laidB hj) x0 y0
  have r1 : cs1 = rI := row_eq n1 rI_size (fun t ht => rI_get ht) (fun j hj => laidI hj) x1 y1
  have r3 : cs3 = rT := row_T n3 x3 y3
  exact ⟨⟨r0 ▸ heap_of_var e1 hv0, r1 ▸ heap_of_var e2 hv1⟩, by unfold Tzt; rw [← r3]; exact heap_of_var e5 hv3⟩
end Go.Proofs.YtidcdbjhkgpjcaaDoor
