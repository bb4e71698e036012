import Derived.Test.YtdeophhcbkahgaaNkc
import Derived.StillTail
import Derived.StillTailTactics
namespace Go.Proofs.Ytdeophhcbkahgaa
open Go.RowKit Gf2
set_option linter.unusedVariables false

/-- a kernel at p, in the blocks from lo to hi: it has no fields. -/
def Nk (w : World) (p : Addr) (lo hi : Nat) : Prop := lo ≤ hi ∧ hi ≤ w.heap.size
theorem Nk.hi {w : World} {p : Addr} {lo hi : Nat} (h : Nk w p lo hi) : hi ≤ w.heap.size := h.2
theorem Nk.keep {w w' : World} {p : Addr} {lo hi : Nat} (h : Nk w p lo hi) (hs : hi ≤ w'.heap.size) (hb : ∀ b, lo ≤ b → b < hi → w'.heap[b]? = w.heap[b]?) : Nk w' p lo hi := ⟨h.1, hs⟩

set_option maxHeartbeats 2000000 in
theorem unfit_ok (p : Addr) (n : Nat) (a x : Option Addr) (ca cx : Nat) (w : World) :
    Calls Try.prog 79 #[.pointer (some p), .slice a n ca, .slice x n cx] w fun e w' => e = .returned (.int .i64 0) ∧ w' = w := by
  go_enter Try.func79, Try.ntmps79
  go_wp2
  go_ret
  exact ⟨rfl, rfl⟩
set_option maxHeartbeats 2000000 in
theorem unfit_lens (p : Addr) (n m : Nat) (a x : Option Addr) (ca cx : Nat) (w : World) (hnm : n ≠ m) :
    Calls Try.prog 79 #[.pointer (some p), .slice a n ca, .slice x m cx] w fun e w' => e = .returned (.int .i64 6) ∧ w' = w := by
  have D1 : ((n : Int) == (m : Int)) = false := by simp; omega
  go_enter Try.func79, Try.ntmps79
  go_wp2
  go_ret
  exact ⟨rfl, rfl⟩
set_option maxHeartbeats 2000000 in
theorem unfit_nil (u v : Value) (w : World) :
    Calls Try.prog 79 #[.pointer none, u, v] w fun e w' => e = .returned (.int .i64 1) ∧ w' = w := by
  go_enter Try.func79, Try.ntmps79
  go_wp2
  go_ret
  exact ⟨rfl, rfl⟩
set_option maxHeartbeats 2000000 in
theorem nnew_any (w : World) :
    Calls Try.prog 40 #[] w fun e w' => ∃ p, e = .returned (.pointer (some p)) ∧ Nk w' p w.heap.size w'.heap.size ∧ Below w.heap.size w w' := by
  go_enter Try.func40, Try.ntmps40
  go_wp2
  go_ret
  refine ⟨_, rfl, ⟨?_, Nat.le_refl _⟩, ?_⟩
  · simp
  · exact (Below.refl _ _).alloc (Nat.le_refl _) _
set_option maxHeartbeats 2000000 in
theorem nmul_lens (p : Addr) (lo hi c n m : Nat) (a x : Option Addr) (ca cx : Nat) (w : World) (hk : Nk w p lo hi) (hnm : n ≠ m) :
    Calls Try.prog 77 #[.pointer (some p), .int .u8 (c : Int), .slice a n ca, .slice x m cx] w fun e w' => e = .returned (.int .i64 6) ∧ w' = w := by
  have c1 := fun W => unfit_lens p n m a x ca cx W hnm
  go_enter Try.func77, Try.ntmps77
  go_wp2_with (go_at_call 79; ((with_reducible refine (c1 _).mono ?_); (rintro e w9 ⟨rfl, hw9⟩; have hw9 := hw9.symm; subst hw9)))
  go_ret
  exact ⟨rfl, rfl⟩
set_option maxHeartbeats 2000000 in
theorem nadd_lens (p : Addr) (lo hi c n m : Nat) (a x : Option Addr) (ca cx : Nat) (w : World) (hk : Nk w p lo hi) (hnm : n ≠ m) :
    Calls Try.prog 78 #[.pointer (some p), .int .u8 (c : Int), .slice a n ca, .slice x m cx] w fun e w' => e = .returned (.int .i64 6) ∧ w' = w := by
  have c1 := fun W => unfit_lens p n m a x ca cx W hnm
  go_enter Try.func78, Try.ntmps78
  go_wp2_with (go_at_call 79; ((with_reducible refine (c1 _).mono ?_); (rintro e w9 ⟨rfl, hw9⟩; have hw9 := hw9.symm; subst hw9)))
  go_ret
  exact ⟨rfl, rfl⟩
set_option maxHeartbeats 2000000 in
theorem nmul_nil (c : Int) (u v : Value) (w : World) :
    Calls Try.prog 77 #[.pointer none, .int .u8 c, u, v] w fun e w' => e = .returned (.int .i64 1) ∧ w' = w := by
  have c1 := fun W => unfit_nil u v W
  go_enter Try.func77, Try.ntmps77
  go_wp2_with (go_at_call 79; ((with_reducible refine (c1 _).mono ?_); (rintro e w9 ⟨rfl, hw9⟩; have hw9 := hw9.symm; subst hw9)))
  go_ret
  exact ⟨rfl, rfl⟩
set_option maxHeartbeats 2000000 in
theorem nadd_nil (c : Int) (u v : Value) (w : World) :
    Calls Try.prog 78 #[.pointer none, .int .u8 c, u, v] w fun e w' => e = .returned (.int .i64 1) ∧ w' = w := by
  have c1 := fun W => unfit_nil u v W
  go_enter Try.func78, Try.ntmps78
  go_wp2_with (go_at_call 79; ((with_reducible refine (c1 _).mono ?_); (rintro e w9 ⟨rfl, hw9⟩; have hw9 := hw9.symm; subst hw9)))
  go_ret
  exact ⟨rfl, rfl⟩
end Go.Proofs.Ytdeophhcbkahgaa
