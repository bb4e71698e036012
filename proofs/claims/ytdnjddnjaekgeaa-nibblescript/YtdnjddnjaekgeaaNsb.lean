import Derived.Test.YtdnjddnjaekgeaaNsa
import Derived.Test.YtdnjddnjaekgeaaNbc
import Derived.Deep.AppendLies
import Derived.Deep.OwnRows
import Derived.ArgAppend
import Derived.OwnWalk
namespace Go.Proofs.Ytdnjddnjaekgeaa
open Go.RowKit Gf2
set_option linter.unusedVariables false

theorem info_l6 : ∃ i, Try.prog.info? 22 = some i ∧ i.zero = some (Value.slice none 0 0) ∧ i.size = 1 ∧ i.bytes = 24 := by
  have h : (Try.prog.info? 22).map (fun i => (i.zero, i.size, i.bytes)) = some (some (Value.slice none 0 0), 1, 24) := by kernel_rfl
  obtain ⟨i, hi, hz⟩ := Option.map_eq_some_iff.1 h
  simp only [Prod.mk.injEq] at hz
  exact ⟨i, hi, hz.1, hz.2.1, hz.2.2⟩
/-- one list more in a list of lists. -/
theorem app_l6 {W : World} {base L : Nat} {v : Value} {xs : List Value} (h : W.ownsRow base 22 1 v L xs) (hb : base ≤ W.heap.size) (a : Option Addr) (n c : Nat) (hL : (L + 1) * 24 ≤ 140737488355328) :
    ∃ g cap w', (Builtin.append_ #[37, 37] 37 #[v, .slice (some ⟨W.heap.size, 0, none⟩) 1 1]).run Try.prog (W.alloc (.cells #[.slice a n c] 22)) = .ok (.slice (some ⟨g, 0, none⟩) (L + 1) cap) w' ∧
      w'.ownsRow base 22 1 (.slice (some ⟨g, 0, none⟩) (L + 1) cap) (L + 1) (xs ++ [.slice a n c]) ∧ (∀ k, k < W.heap.size → v.ownBlock ≠ some k → w'.heap[k]? = W.heap[k]?) ∧ Below base W w' ∧ (v.ownBlock = some g ∨ W.heap.size ≤ g) ∧ g < w'.heap.size := by
  obtain ⟨i, hi, hz, hs, hby⟩ := info_l6
  obtain ⟨g, cap, w', h1, h2, h3, h4, h5⟩ := run_append_lies (P := Try.prog) (W.alloc (.cells #[.slice a n c] 22)) 37 37 base 22 i (.slice none 0 0) 1 24 Try.underlying37 hi hz hs hby rfl (by decide)
    v L xs (h.alloc _) ⟨W.heap.size, 0, none⟩ 1 1 [.slice a n c] rfl (fun j u hu => World.news_of_block (heap_alloc_new W _) j u hu) (fun u hu => by simp at hu; subst hu; rfl) (by decide) (by unfold maxLen; omega) hL (by simp; omega) (W.heap.size + 1) (by simp)
  have hsz : (W.alloc (.cells #[.slice a n c] 22)).heap.size = W.heap.size + 1 := by simp
  have hblk : ∀ k, k < W.heap.size → v.ownBlock ≠ some k → w'.heap[k]? = W.heap[k]? := fun k hk hne => (h3.block k (by omega) (fun e => hne e.symm)).trans (Below.heap_alloc W _ k hk)
  refine ⟨g, cap, w', h1, h2, hblk, ⟨h3.os, h3.tape, h3.output, by have := h3.size; omega, fun k hk => hblk k (by omega) (fun e => ?_)⟩, ?_, h5⟩
  · have := (h.lt k e).1
    omega
  · rcases h4 with h4 | h4
    · exact .inl h4
    · exact .inr (by omega)
end Go.Proofs.Ytdnjddnjaekgeaa
