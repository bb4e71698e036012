import Derived.Test.YtfbgcednodnioaaDoorZpm
namespace Go.Proofs.YtfbgcednodnioaaDoor
open Go.RowKit Gf2
set_option linter.unusedVariables false

set_option maxHeartbeats 4000000 in
set_option maxRecDepth 100000 in
theorem pipesNilInside_any (a : Option Addr) (n cap : Nat) (F : Nat → Nat) (w : World) (h : Rb w (.slice a n cap) n F) (hn : n ≤ 140737488355328) :
    Calls Tryd.prog 7 #[.slice a n cap] w fun e w' => e = .returned (.bool true) ∧ Below w.heap.size w w' := by
  have c1 := awake22 w
  have HA : Hid (∀ w1, Below w.heap.size w w1 → ∃ w2 g C, (Builtin.append_ #[41, 41] 41 #[.slice (some ⟨w1.heap.size, 0, none⟩) 0 0, .slice a n cap]).run Tryd.prog (w1.alloc (.cells #[] 5)) = .ok (.slice (some ⟨g, 0, none⟩) n C) w2 ∧
      (Calls Tryd.prog 25 #[.iface 25 (.pointer none), .slice (some ⟨g, 0, none⟩) n C] w2 fun e w3 => e = .returned (.tuple #[.int .i64 0, if n = 0 then .nilIface else .iface 71 (.int .i64 1)]) ∧ Below w.heap.size w w3 ∧
        Calls Tryd.prog 22 #[.slice (some ⟨g, 0, none⟩) n C, .slice a n cap] w3 fun e w' => e = .returned (.bool true) ∧ Below w.heap.size w w')) := by
    intro w1 hb
    obtain ⟨w2, g, C, G, hrun, k1, k2, k3, k4, k5, k6⟩ := copy_app w1 (h.below hb) hn
    have b2 := hb.trans (k6.mono hb.size)
    refine ⟨w2, g, C, hrun, (fullnilsrc22 _ n C w2 k1 (by unfold big; omega)).mono fun e w3 ⟨he, b3⟩ => ⟨he, b2.trans (b3.mono b2.size), (sb22_true _ _ n G F w3 ?_ (((h.below hb).below k6).below b3) k5).mono fun e w4 ⟨he, m, hw⟩ => ⟨he, ?_⟩⟩⟩
    · have k7 := rw_below k4 b3
      exact (k7.rb (o := 0) (n := n) (cap := C) (by omega) k1 k7.1).congr (fun i hi => by rw [Nat.zero_add])
    · rw [hw]; exact below_drewN (b2.trans (b3.mono b2.size)) m
  rcases Nat.eq_zero_or_pos n with h0 | h0
  · subst h0
    simp only [if_true] at HA
    clear h hn
    go_enter Tryd.func7, Tryd.ntmps7
    go_wp2_with (first
      | (go_at_call 15; (with_reducible refine c1.mono ?_); rintro e w1 ⟨rfl, hb⟩; obtain ⟨w2, g, C, hrun, c2⟩ := HA.out w1 hb; clear c1 HA hb)
      | (at_builtin; refine Lib.wpList_append_run _ rfl _ _ _ _ rfl _ _ rfl rfl _ _ hrun ?_; clear hrun)
      | (go_at_call 25; (with_reducible refine c2.mono ?_); rintro e w3 ⟨rfl, hb, c3⟩; have HB : Hid _ := hb; clear c2 hb c3))
    go_ret
    exact ⟨rfl, HB.out⟩
  · have hne : ¬ n = 0 := by omega
    simp only [if_neg hne] at HA
    have e1 : ∀ W : World, Sem.run Tryd.prog (binOp BinOp.eql 35 (Value.iface 71 (.int .i64 1)) (Value.iface 71 (.int .i64 1))) W = .ok (.bool true) W := fun W => by kernel_rfl
    have D0 : ((n : Int) == 0) = false := beq_eq_false_iff_ne.2 (by omega)
    clear h hn h0
    go_enter Tryd.func7, Tryd.ntmps7
    go_wp2_with (first
      | (go_at_call 15; (with_reducible refine c1.mono ?_); rintro e w1 ⟨rfl, hb⟩; obtain ⟨w2, g, C, hrun, c2⟩ := HA.out w1 hb; clear c1 HA hb)
      | (at_builtin; refine Lib.wpList_append_run _ rfl _ _ _ _ rfl _ _ rfl rfl _ _ hrun ?_; clear hrun)
      | (go_at_call 25; (with_reducible refine c2.mono ?_); rintro e w3 ⟨rfl, hb, c3⟩; clear c2 hb)
      | (go_at_call 22; (with_reducible refine c3.mono ?_); rintro e w4 ⟨rfl, hb⟩; have HB : Hid _ := hb; clear c3 hb))
    go_ret
    exact ⟨rfl, HB.out⟩
end Go.Proofs.YtfbgcednodnioaaDoor
