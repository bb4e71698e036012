import Derived.Test.YtehbiccpbopkfaaDoorFfax
import Derived.Test.YtehbiccpbopkfaaDoorRows
import Derived.LaidMore
import Derived.Stop.Joined
import Derived.MakeChecks
import Derived.OpenShut
namespace Go.Proofs.YtehbiccpbopkfaaDoor
open Go.RowKit Gf2

-- layer 25: the laid table
theorem lt16_25 {j : Nat} (h : j < 16) : j = 0 ∨ j = 1 ∨ j = 2 ∨ j = 3 ∨ j = 4 ∨ j = 5 ∨ j = 6 ∨ j = 7 ∨ j = 8 ∨ j = 9 ∨ j = 10 ∨ j = 11 ∨ j = 12 ∨ j = 13 ∨ j = 14 ∨ j = 15 := by omega
theorem laidF25 {j : Nat} (h : j < 16) : (match (Rows.laid_cullet_frame_fourShifts : DataW Unit) with | .agg l => l[j]? | _ => none) = some (.lit (.int .u32 ((fsn j : Nat) : Int))) := by
  rcases lt16_25 h with rfl | rfl | rfl | rfl | rfl | rfl | rfl | rfl | rfl | rfl | rfl | rfl | rfl | rfl | rfl | rfl <;> kernel_rfl
theorem trod16_25 {H : Type} {enc : TypeId × Value → H} {W : World} {base : Nat} {spare : Bool} {held : TypeId → Bool} {fuel : Nat} {cs : List Value} {x : DataW H × List MemPlace}
    (h : DataW.trod enc Tryd.prog W base held spare fuel 56 cs = some x) :
    cs.length = 16 ∧ ∃ l : List (DataW H), x.1 = .agg l ∧ ∀ j, j < 16 → ∃ k : Int, cs[j]? = some (.int .u32 k) ∧ l[j]? = some (.lit (.int .u32 k)) := by
  have u16a : Tryd.prog.underlying 56 = some (.array 16 28) := by kernel_rfl
  have u16 : Tryd.prog.underlying 28 = some (.int .u32) := by kernel_rfl
  have c1 : Tryd.prog.cellsOf 28 = 1 := by kernel_rfl
  have c16 : Tryd.prog.cellsOf 56 = 16 := by kernel_rfl
  obtain ⟨xs, m1, rfl, hx1, hlen, hn, hel⟩ := DataW.trod_array u16a h
  refine ⟨by rw [hlen, c16], xs.map (·.1), by rw [hx1], fun j hj => ?_⟩
  have hj2 := hel j hj
  rw [c1, Nat.mul_one] at hj2
  obtain ⟨y, hy⟩ : ∃ y, xs[j]? = some y := ⟨xs[j]'(by omega), List.getElem?_eq_getElem (by omega)⟩
  rw [hy] at hj2
  obtain ⟨k, h1, h2, _⟩ := DataW.trod_int u16 hj2
  refine ⟨k, ?_, by rw [List.getElem?_map, hy, Option.map_some, h2]⟩
  have h3 : (cs.drop j)[0]? = some (.int .u32 k) := by
    have : ((cs.drop j).take 1)[0]? = some (.int .u32 k) := by rw [h1]; rfl
    simpa [List.getElem?_take] using this
  simpa using h3
theorem row_eq25 {cs : Array Value} {f : Nat → Nat} {R : Array Value} {D : DataW Unit} {l : List (DataW Unit)} (hs : cs.toList.length = 16) (hR : R.size = 16) (hRg : ∀ t, t < 16 → R[t]? = some (.int .u32 (f t : Nat)))
    (hD : ∀ j, j < 16 → (match D with | .agg l => l[j]? | _ => none) = some (.lit (.int .u32 ((f j : Nat) : Int)))) (hl : D = .agg l)
    (hc : ∀ j, j < 16 → ∃ k : Int, cs.toList[j]? = some (.int .u32 k) ∧ l[j]? = some (.lit (.int .u32 k))) : cs = R := by
  subst hl
  apply Array.ext_getElem?
  intro j
  by_cases hj : j < 16
  · obtain ⟨k, h1, h2⟩ := hc j hj
    have h3 := hD j hj
    have h4 : some (DataW.lit (Lit.int .u32 k)) = some (.lit (.int .u32 ((f j : Nat) : Int))) := h2.symm.trans h3
    simp only [Option.some.injEq, DataW.lit.injEq, Lit.int.injEq, true_and] at h4
    rw [hRg j hj, ← Array.getElem?_toList, h1, h4]
  · rw [Array.getElem?_eq_none (by rw [← Array.length_toList]; omega), Array.getElem?_eq_none (by omega)]
theorem heap_of_var25 {P : Program} {w : World} {n : String} {g : Nat} {cs : Array Value} (hg : P.globalNamed n = some g) (h : w.var? P n = some cs) : ∃ t fr, w.heap[g]? = some (.cells cs t fr) := by
  simp only [World.var?, hg, Option.bind_some] at h
  split at h
  · next c t f e => exact ⟨t, f, by rw [e, Option.some.inj h]⟩
  · cases h
theorem rFs_get {t : Nat} (h : t < 16) : rFs[t]? = some (.int .u32 (fsn t : Nat)) := by
  unfold rFs
  rw [List.getElem?_toArray, List.getElem?_map, fsn_get t h]
  rfl
/-- the table lies where the laid variable does. -/
theorem laid25 {W : World} (h : laidMetH Tryd.prog [("cullet/frame.fourShifts", Rows.laid_cullet_frame_fourShifts)] W) : Fsh W := by
  rw [MakeChecks.laidMetH_plain _ _ _ (by kernel_rfl)] at h
  obtain ⟨ps, ⟨g0, t0, cs0, f0, p0, q0, hg0, ht0, hv0, hd0, _, _⟩, _, _⟩ := h
  have e1 : Tryd.prog.globalNamed "cullet/frame.fourShifts" = some 0 := by kernel_rfl
  have e3 : (Tryd.prog.globals[0]?).map (·.type) = some 56 := by kernel_rfl
  obtain rfl := Option.some.inj (e1.symm.trans hg0)
  obtain rfl := Option.some.inj (e3.symm.trans ht0)
  obtain ⟨n0, l0, x0, y0⟩ := trod16_25 hd0
  have r0 : cs0 = rFs := row_eq25 n0 rFs_size (fun t ht => rFs_get ht) (fun j hj => laidF25 hj) x0 y0
  unfold Fsh
  rw [← r0]
  exact heap_of_var25 e1 hv0
end Go.Proofs.YtehbiccpbopkfaaDoor
