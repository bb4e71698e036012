import Derived.Test.YtlblkckglelbdaaGreatMwbg
import Derived.Test.YtlblkckglelbdaaGreatMwbe
import Derived.BigQuiet
import Derived.Laws.BytesArg
namespace Go.Proofs.YtlblkckglelbdaaGreat
open Go.RowKit Gf2
set_option linter.unusedVariables false

/-- a list of bytes as a text. -/
def sb11 (n : Nat) (S : Nat → Nat) : ByteArray := strOfNums ((List.range n).map (fun i => (S i : Int)))
theorem sb11_congr {n : Nat} {S T : Nat → Nat} (e : ∀ i, i < n → S i = T i) : sb11 n S = sb11 n T := by
  unfold sb11
  congr 1
  apply List.map_congr_left
  intro i hi
  rw [e i (List.mem_range.1 hi)]
theorem str11 {w : World} {b o n cap : Nat} {S : Nat → Nat} (h : Rb w (.slice (some ⟨b, o, none⟩) n cap) n S) (h1 : 1 ≤ n) (q : Nat) :
    (convert 27 9 (.slice (some ⟨b, o, none⟩) n cap)).run Tryz.prog (w.drewN q) = .ok (.string (sb11 n S)) (w.drewN q) := by
  obtain ⟨-, -, x, cx, e, -, -, h4⟩ := h
  cases e
  obtain ⟨b', o', e, hc⟩ := h4 h1
  cases e
  refine run_convert_bytes_arg (P := Tryz.prog) (w.drewN q) 27 5 Tryz.underlying27 Tryz.underlying5 b o n cap _ (by simp) (fun i hi => ?_) 9 Tryz.underlying9
  have hc := hc.2 i hi
  refine Eq.trans hc ?_
  simp [List.getD, hi]
end Go.Proofs.YtlblkckglelbdaaGreat
