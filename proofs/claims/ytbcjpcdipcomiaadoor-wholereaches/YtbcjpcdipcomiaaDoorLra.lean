import Derived.Test.YtbcjpcdipcomiaaDoorLtb
namespace Go.Proofs.YtbcjpcdipcomiaaDoor
open Go.RowKit Gf2
set_option linter.unusedVariables false

theorem own_q6 {w : World} {B g n cap : Nat} {l : List Nat} {F : Nat → Nat} (h : w.ownsRow B 26 1 (.slice (some ⟨g, 0, none⟩) n cap) n (l.map vU)) (hg : g < w.heap.size) (hn : n ≤ 65536) (hF : ∀ i, i < n → l[i]? = some (F i) ∧ F i < 65536) : Q6 w (.slice (some ⟨g, 0, none⟩) n cap) n F := by
  have hc : n ≤ cap ∧ cap ≤ big := by
    rcases h.2 with ⟨h1, -⟩ | ⟨g', cap', cur, h1, -, -, h4, h5, -⟩
    · cases h1
    · cases h1
      exact ⟨h4, h5⟩
  refine ⟨by unfold big; omega, fun i hi => (hF i hi).2, _, _, rfl, hc.1, hc.2, fun _ => ⟨g, 0, rfl, hg, fun i hi => ?_⟩⟩
  rw [Nat.zero_add, h.cellAt i (by omega), vU_get (hF i hi).1]
theorem pow_le16 {i : Nat} (h : i ≤ 16) : 2 ^ i ≤ 65536 := Nat.pow_le_pow_right (by decide) h
/-- what Skew answers. -/
def sk (i j : Int) : Nat := if 0 ≤ i ∧ i ≤ 16 then (if 0 ≤ j ∧ j < 65536 then we (j.toNat / 2 ^ i.toNat) else 0) else 0
def ske (i j : Int) : Nat := if 0 ≤ i ∧ i ≤ 16 then (if 0 ≤ j ∧ j < 65536 then 0 else 31) else 7
theorem sk_lt (i j : Int) : sk i j < 65536 := by
  unfold sk; split
  · split
    · exact we_lt _
    · decide
  · decide
end Go.Proofs.YtbcjpcdipcomiaaDoor
