import Derived.Test.YtlblkckglelbdaaGreatMwbg
import Derived.Test.YtlblkckglelbdaaGreatMwbp
import Derived.Test.YtlblkckglelbdaaGreatMwbe
import Derived.Test.YtlblkckglelbdaaGreatMwar
import Derived.Test.YtlblkckglelbdaaGreatMwae
import Derived.Test.YtlblkckglelbdaaGreatMwal
import Derived.Test.YtlblkckglelbdaaGreatMwax
namespace Go.Proofs.YtlblkckglelbdaaGreat
open Go.RowKit Gf2
set_option linter.unusedVariables false

-- layer 11: Systematic, and what WholeSystematic asks first
theorem elem_l8p : Tryz.prog.elem 22 = 27 := by kernel_rfl
theorem size_l8p (W : World) : (sizeOf 27).run Tryz.prog W = .ok 1 W := by
  have h : (Tryz.prog.info? 27).map (fun i => i.size) = some 1 := by kernel_rfl
  obtain ⟨i, hi, hs⟩ := Option.map_eq_some_iff.1 h
  simp [sizeOf, typeInfo, hi, hs]
theorem run_headL8 (b o n cx m : Nat) (hm : m ≤ cx) (W : World) : (Instr.slice 22 (.slice (some ⟨b, o, none⟩) n cx) none (some (.int .i64 (m : Int))) none).run Tryz.prog W = .ok (.slice (some ⟨b, o, none⟩) m cx) W := by
  have hu : Tryz.prog.underlying 22 = some (.slice (Tryz.prog.elem 22)) := by rw [elem_l8p]; exact Tryz.underlying22
  have h := run_slice_h (P := Tryz.prog) (w := W) 22 (some ⟨b, o, none⟩) n cx hu .i64 (m : Int) (by omega) (by omega)
  have e : (if cx = 0 then some (⟨b, o, none⟩ : Addr) else (some (⟨b, o, none⟩ : Addr)).map (·.add 0)) = some ⟨b, o, none⟩ := by
    split
    · rfl
    · show some ((⟨b, o, none⟩ : Addr).add 0) = _
      rw [Addr.add_lit, Nat.add_zero]
  rw [h, elem_l8p, size_l8p]
  simp only [Result.andThen, sliced, Int.toNat_natCast, Nat.zero_mul, Nat.sub_zero, e]
end Go.Proofs.YtlblkckglelbdaaGreat
