import Derived.Test.YtfbgcednodnioabDoorZpl
namespace Go.Proofs.YtfbgcednodnioabDoor
open Go.RowKit Gf2
set_option linter.unusedVariables false

-- layer 22: Full of a nil source
set_option maxHeartbeats 2000000 in
set_option maxRecDepth 100000 in
theorem allnil22 (a : Option Addr) (n cap : Nat) (w : World) (hc : n ≤ cap) (hn : n ≤ big) :
    Calls Tryd.prog 19 #[.func (.method "Read") #[.iface 40 (.pointer none)] #[], .slice a n cap] w fun e w' => e = .returned (.tuple #[.int .i64 0, if n = 0 then .nilIface else .iface 57 (.int .i64 1)]) ∧ Below w.heap.size w w' := by
  rcases Nat.eq_zero_or_pos n with h0 | h0
  · subst h0
    rw [if_pos rfl]
    go_enter Tryd.func19, Tryd.ntmps19
    go_wp2
    go_loopw [6, 7] (fun d i wr => d = .int .i64 0 ∧ i = .int .i64 0 ∧ wr = w) (fun _ _ _ => 0)
    case atStart => exact ⟨rfl, rfl, rfl⟩
    case round =>
      obtain ⟨rfl, rfl, rfl⟩ := hrel
      go_wp2
      go_ret2
      exact ⟨rfl, Below.refl _ _⟩
  · rw [if_neg (by omega)]
    have c1 : ∀ v, Calls Tryd.prog 25 #[.func (.method "Read") #[.iface 40 (.pointer none)] #[], v] w fun e w' => e = .returned (.tuple #[.int .i64 0, .iface 57 (.int .i64 1)]) ∧ Below w.heap.size w w' := by
      intro v
      have b1 : Below w.heap.size w ((w.alloc (.cells #[.int .i64 0] 3)).alloc (.cells #[.nilIface] 30)) := ((Below.refl _ _).alloc (Nat.le_refl _) _).alloc (by simp) _
      refine (askread22 none v w (.iface 57 (.int .i64 1)) (.inr ⟨_, _, rfl⟩) (fun m w' => m = 0 ∧ w' = (w.alloc (.cells #[.int .i64 0] 3)).alloc (.cells #[.nilIface] 30)) ((readnil22 _ v).mono fun e w' ⟨he, hw⟩ => ⟨0, he, ?_, ?_, rfl, hw⟩)).mono fun e w' ⟨m, w2, he, ⟨hm, hw2⟩, hw'⟩ => ⟨?_, ?_⟩
      · rw [hw]
        have h := heap_alloc_new w (.cells #[.int .i64 0] 3)
        exact (Below.heap_alloc _ _ _ (by simp)).trans h
      · rw [hw]
        have h := heap_alloc_new (w.alloc (.cells #[.int .i64 0] 3)) (.cells #[.nilIface] 30)
        simpa using h
      · rw [he, hm]
      · rw [hw', hw2]
        exact (b1.setCell (Nat.le_refl _) _).setCell (by simp) _
    have D0 : (0 : Int) < (n : Int) := by omega
    have D1 : ¬ n = 0 := by omega
    have D2 : ((0 : Int) == (n : Int)) = false := beq_eq_false_iff_ne.2 (by omega)
    have W0 : wrap64 (n : Int) = (n : Int) := by unfold big at hn; unfold wrap64; omega
    have D3 : decide ((n : Int) < 0) = false := decide_eq_false (by omega)
    clear hn
    have e2 : ∀ W : World, Sem.run Tryd.prog (binOp BinOp.neq 30 (Value.iface 57 (.int .i64 1)) Value.nilIface) W = .ok (.bool true) W := fun W => by kernel_rfl
    go_enter Tryd.func19, Tryd.ntmps19
    go_wp2
    go_loopw [6, 7] (fun d i wr => d = .int .i64 0 ∧ i = .int .i64 0 ∧ wr = w) (fun _ _ _ => 0)
    case atStart => exact ⟨rfl, rfl, rfl⟩
    case round =>
      obtain ⟨rfl, rfl, rfl⟩ := hrel
      go_wp2_with (go_at_call 25; (with_reducible refine (c1 _).mono ?_); rintro e w1 ⟨rfl, hb⟩; have HB : Hid _ := hb; clear c1 hb)
      go_ret2
      exact ⟨rfl, HB.out⟩
end Go.Proofs.YtfbgcednodnioabDoor
