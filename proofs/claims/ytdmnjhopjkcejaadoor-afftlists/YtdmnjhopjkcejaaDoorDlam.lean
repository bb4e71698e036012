import Derived.Test.YtdmnjhopjkcejaaDoorDlal
namespace Go.Proofs.YtdmnjhopjkcejaaDoor
open Go.RowKit Gf2

/-- the tables lie where the three laid variables do. -/
theorem laid14 {W : World} (h : laidMetH Tryd.prog [("math/bits.deBruijn32tab", Rows.laid_math_bits_deBruijn32tab), ("math/bits.deBruijn64tab", Rows.laid_math_bits_deBruijn64tab), ("cullet/gf16.basis", Rows.laid_cullet_gf16_basis)] W) : Cab W ∧ Tzt W := by
  rw [MakeChecks.laidMetH_plain _ _ _ (by kernel_rfl)] at h
  obtain ⟨ps, ⟨g2, t2, cs2, f2, p2, q2, hg2, ht2, hv2, hd2, ⟨g3, t3, cs3, f3, p3, q3, hg3, ht3, hv3, hd3, ⟨g0, t0, cs0, f0, p0, q0, hg0, ht0, hv0, hd0, _, _⟩, _⟩, _⟩, _, _⟩ := h
  have e1 : Tryd.prog.globalNamed "cullet/gf16.basis" = some 0 := by kernel_rfl
  have e5 : Tryd.prog.globalNamed "math/bits.deBruijn64tab" = some 3 := by kernel_rfl
  have e3 : (Tryd.prog.globals[0]?).map (·.type) = some 53 := by kernel_rfl
  have e6 : (Tryd.prog.globals[3]?).map (·.type) = some 85 := by kernel_rfl
  obtain rfl := Option.some.inj (e1.symm.trans hg0)
  obtain rfl := Option.some.inj (e5.symm.trans hg3)
  obtain rfl := Option.some.inj (e3.symm.trans ht0)
  obtain rfl := Option.some.inj (e6.symm.trans ht3)
  obtain ⟨n0, l0, x0, y0⟩ := trod16 hd0
  obtain ⟨n3, l3, x3, y3⟩ := trod64 hd3
  have r0 : cs0 = rB := row_eq n0 rB_size (fun t ht => rB_get ht) (fun j hj => laidB hj) x0 y0
  have r3 : cs3 = rT := row_T n3 x3 y3
  exact ⟨by unfold Cab; rw [← r0]; exact heap_of_var e1 hv0, by unfold Tzt; rw [← r3]; exact heap_of_var e5 hv3⟩
end Go.Proofs.YtdmnjhopjkcejaaDoor
