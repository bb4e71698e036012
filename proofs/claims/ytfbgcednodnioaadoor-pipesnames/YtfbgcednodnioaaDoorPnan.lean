import Derived.Test.YtfbgcednodnioaaDoorPnam
import Derived.LaidEql
namespace Go.Proofs.YtfbgcednodnioaaDoor
open Go.RowKit Gf2
set_option linter.unusedVariables false

-- layer 22: failures held against one another; Put in all cases
theorem info_pb22 : ∃ i j, Tryd.prog.info? 22 = some i ∧ i.comparable = true ∧ Tryd.prog.info? 24 = some j ∧ j.size ≠ 0 := by
  have h1 : (Tryd.prog.info? 22).map (·.comparable) = some true := by kernel_rfl
  have h2 : (Tryd.prog.info? 24).map (·.size) = some 1 := by kernel_rfl
  cases hi : Tryd.prog.info? 22 with
  | none => rw [hi] at h1; cases h1
  | some i =>
    cases hj : Tryd.prog.info? 24 with
    | none => rw [hj] at h2; cases h2
    | some j =>
      rw [hi] at h1
      rw [hj] at h2
      simp at h1 h2
      exact ⟨i, j, rfl, h1, rfl, by omega⟩
theorem nef22 (w : World) (f : Nat) : (binOp .neq 35 (.iface 22 (.pointer (some ⟨f, 0, none⟩))) (.iface 22 (.pointer (some ⟨f, 0, none⟩)))).run Tryd.prog w = .ok (.bool false) w := by
  obtain ⟨i, j, h1, h2, h3, -⟩ := info_pb22
  simp only [binOp]
  simp [Op.equal, Op.maxDepth, run_equalIn_iface_ptr_same w 9998 ⟨f, 0, none⟩ Tryd.underlying35 Tryd.underlying22 h1 h2 h3]
theorem eqo22 (w : World) {f f' : Nat} {c c' : Int} (hne : f ≠ f') (h : w.heap[f]? = some (.cells #[.int .i64 c] 24 (0, 0))) (h' : w.heap[f']? = some (.cells #[.int .i64 c'] 24 (0, 0))) :
    (binOp .eql 35 (.iface 22 (.pointer (some ⟨f, 0, none⟩))) (.iface 22 (.pointer (some ⟨f', 0, none⟩)))).run Tryd.prog w = .ok (.bool false) w := by
  obtain ⟨i, j, h1, h2, h3, h4⟩ := info_pb22
  exact run_eql_iface_ptr_other w Tryd.underlying35 Tryd.underlying22 h1 h2 h3 h4 (fun e => hne (by cases e; rfl)) h h'
end Go.Proofs.YtfbgcednodnioaaDoor
