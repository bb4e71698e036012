import Derived.Test.YtfbgcednodnioaaDoorPnar
import Derived.Lib.LaidTab
namespace Go.Proofs.YtfbgcednodnioaaDoor
open Go.ChangeShapes Go.WideShapes Go.ChangeAt Go.RowKit Go.Deep
set_option linter.unusedVariables false

-- layer 22: the four laid variables (seat aa): the table of Itoa, End and its text
/-- End, and its text. -/
def Et22 (W : World) (x : Addr) : Prop := En22 W x ∧ W.cell? x = some (.string ⟨#[101, 110, 100]⟩)
theorem laidText22 {W : World} (h : laidMet Tryd.prog [("cullet/pipes.End", Rows.laid_cullet_pipes_End)] W) : ∃ x, Et22 W x := by
  have e1 : Tryd.prog.globalNamed "cullet/pipes.End" = some 0 := by kernel_rfl
  have e2 : (Tryd.prog.globals[0]?).map (·.type) = some 35 := by kernel_rfl
  obtain ⟨a, s, h1, h2, h3, -⟩ := laid_sentinel (r := []) h e1 e2 Tryd.underlying35 row_es22 Tryd.underlying114 Tryd.underlying129 rfl rfl Tryd.underlying9 (by kernel_rfl) (by kernel_rfl)
  refine ⟨a, (World.var?_cell e1 h1 0).trans rfl, ?_⟩
  rw [h2]
  obtain ⟨⟨l⟩⟩ := s
  simp only at h3
  rw [h3]
theorem laid4_22 {W : World} (h : laidMetH Tryd.prog [("math/bits.deBruijn32tab", Rows.laid_math_bits_deBruijn32tab), ("math/bits.deBruijn64tab", Rows.laid_math_bits_deBruijn64tab), ("internal/strconv.uint64pow10", Rows.laid_internal_strconv_uint64pow10), ("cullet/pipes.End", Rows.laid_cullet_pipes_End)] W) :
    (∃ x, Et22 W x) ∧ Lib.TabIs Tryd.prog W "internal/strconv.uint64pow10" .u64 Lib.pow10Tab := by
  rw [MakeChecks.laidMetH_plain _ _ _ (by kernel_rfl)] at h
  refine ⟨laidText22 h.tail.tail.tail, ?_⟩
  exact Lib.tabIs_of_head (g := 1) (by kernel_rfl) (t := 105) (by kernel_rfl) Tryd.underlying105 Tryd.underlying97 (by kernel_rfl) (by kernel_rfl) (zs := Lib.pow10Tab) (rest := [("cullet/pipes.End", Rows.laid_cullet_pipes_End)]) h.tail.tail
/-- the table in a later world. -/
theorem tab_below22 {w w' : World} (h : Lib.TabIs Tryd.prog w "internal/strconv.uint64pow10" .u64 Lib.pow10Tab) (hb : Below w.heap.size w w') : Lib.TabIs Tryd.prog w' "internal/strconv.uint64pow10" .u64 Lib.pow10Tab := by
  have e1 : Tryd.prog.globalNamed "internal/strconv.uint64pow10" = some 1 := by kernel_rfl
  unfold Lib.TabIs World.var? at h ⊢
  rw [e1] at h ⊢
  simp only [Option.bind_some] at h ⊢
  have hg : 1 < w.heap.size := by
    apply Classical.byContradiction
    intro hn
    rw [Array.getElem?_eq_none (by omega)] at h
    cases h
  rw [hb.block _ hg]
  exact h
end Go.Proofs.YtfbgcednodnioaaDoor
