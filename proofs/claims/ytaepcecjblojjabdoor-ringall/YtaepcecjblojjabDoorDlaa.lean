import Derived.Test.YtaepcecjblojjabDoorDtra
import Derived.LaidMore
import Derived.Stop.Joined
import Derived.MakeChecks
import Derived.OpenShut
namespace Go.Proofs.YtaepcecjblojjabDoor
open Go.RowKit Gf2

theorem deB_laid : ∀ j : Fin 64, (match (Rows.laid_math_bits_deBruijn64tab : DataW Unit) with | .agg l => l[j.val]? | _ => none) = some (.lit (.int .u8 ((deB.getD j.val 99 : Nat) : Int))) := by
  intro j
  match j with
  | ⟨j, hj⟩ =>
    have : ∀ m, m < 64 → (match (Rows.laid_math_bits_deBruijn64tab : DataW Unit) with | .agg l => l[m]? | _ => none) = some (.lit (.int .u8 ((deB.getD m 99 : Nat) : Int))) := by
      intro m hm
      have : m ∈ List.range 64 := List.mem_range.2 hm
      simp only [show List.range 64 = [0, 1, 2, 3, 4, 5, 6, 7, 8, 9, 10, 11, 12, 13, 14, 15, 16, 17, 18, 19, 20, 21, 22, 23, 24, 25, 26, 27, 28, 29, 30, 31, 32, 33, 34, 35, 36, 37, 38, 39, 40, 41, 42, 43, 44, 45, 46, 47, 48, 49, 50, 51, 52, 53, 54, 55, 56, 57, 58, 59, 60, 61, 62, 63] from rfl, List.mem_cons, List.not_mem_nil, or_false] at this
      repeat' (rcases this with rfl | this)
      all_goals first | rfl | (subst this; rfl)
    exact this j hj

/-- the table lies where the laid variables do. -/
theorem tab_of_laid {W : World} (h : laidMetH Tryd.prog Rows.ringAllRow.laid W) : Tab W := by
  rw [MakeChecks.laidMetH_plain _ _ _ (by kernel_rfl)] at h
  obtain ⟨ps, ⟨g0, t0, cs0, f0, p0, q0, hg0, ht0, hv0, hd0, ⟨g1, t1, cs1, f1, p1, q1, hg1, ht1, hv1, hd1, _, _⟩, _⟩, _, _⟩ := h
  have e1 : Tryd.prog.globalNamed "math/bits.deBruijn64tab" = some 0 := by kernel_rfl
  have e2 : (Tryd.prog.globals[0]?).map (·.type) = some 76 := by kernel_rfl
  obtain rfl := Option.some.inj (e1.symm.trans hg1)
  obtain rfl := Option.some.inj (e2.symm.trans ht1)
  have u82 : Tryd.prog.underlying 76 = some (.array 64 5) := by kernel_rfl
  have u5 : Tryd.prog.underlying 5 = some (.int .u8) := by kernel_rfl
  have c5 : Tryd.prog.cellsOf 5 = 1 := by kernel_rfl
  obtain ⟨xs, m1, rfl, hx1, hlen, hn, hel⟩ := DataW.trod_array u82 hd1
  intro j hj
  have hj2 := hel j hj
  rw [c5, Nat.mul_one] at hj2
  obtain ⟨y, hy⟩ : ∃ y, xs[j]? = some y := ⟨xs[j]'(by omega), List.getElem?_eq_getElem (by omega)⟩
  rw [hy] at hj2
  obtain ⟨k, h1, h2, _⟩ := DataW.trod_int u5 hj2
  have hq := deB_laid ⟨j, hj⟩
  have hx2 : (Rows.laid_math_bits_deBruijn64tab : DataW Unit) = .agg (xs.map (·.1)) := congrArg Prod.fst hx1
  rw [hx2] at hq
  simp only [List.getElem?_map, hy, Option.map_some, h2, Option.some.injEq, DataW.lit.injEq, Lit.int.injEq, true_and] at hq
  have hc := World.var?_cell hg1 hv1 j
  rw [hc, ← hq]
  have h3 : (cs1.toList.drop j)[0]? = some (.int .u8 k) := by
    have : ((cs1.toList.drop j).take 1)[0]? = some (.int .u8 k) := by rw [h1]; rfl
    simpa [List.getElem?_take] using this
  simpa using h3
end Go.Proofs.YtaepcecjblojjabDoor
