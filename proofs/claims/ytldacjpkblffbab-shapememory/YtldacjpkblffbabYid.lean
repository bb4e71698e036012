import Derived.Test.YtldacjpkblffbabYic
namespace Go.Proofs.Ytldacjpkblffbab
open Go.RowKit Gf2
set_option linter.unusedVariables false

-- layer 16: Join of the document (laid by wip/genyid.py)
theorem div_facts {i l : Nat} (hi : i ≤ 140737488355328) : ∃ q r : Nat, Hid (q = i / l ∧ r = i % l) ∧ (i : Int).tdiv (l : Int) = (q : Int) ∧ (i : Int).tmod (l : Int) = (r : Int) ∧ Hid (wrap64 (q : Int) = (q : Int) ∧ IntKind.i64.wrap (q : Int) = (q : Int)) := by
  have h : i / l ≤ i := Nat.div_le_self _ _
  refine ⟨i / l, i % l, ⟨rfl, rfl⟩, (Int.ofNat_tdiv _ _).symm, (Int.ofNat_tmod _ _).symm, ?_⟩
  show _ ∧ _
  constructor
  · generalize i / l = q at h; unfold wrap64; omega
  · generalize i / l = q at h; simp only [IntKind.wrap_i64]; omega
end Go.Proofs.Ytldacjpkblffbab
