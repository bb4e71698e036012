import Derived.Test.YtfbgcednodnioaaDoorZpl
namespace Go.Proofs.YtfbgcednodnioaaDoor
open Go.RowKit Gf2
set_option linter.unusedVariables false

set_option maxHeartbeats 4000000 in
set_option maxRecDepth 100000 in
theorem pipesNil_any (a : Option Addr) (n cap : Nat) (F : Nat → Nat) (w : World) (h : Rb w (.slice a n cap) n F) (hn : n ≤ 140737488355328) :
    Calls Tryd.prog 6 #[.slice a n cap] w fun e w' => e = .returned (.bool true) ∧ Below w.heap.size w w' := by
  have c1 := awake22 w
  have HA : Hid (∀ w1, Below w.heap.size w w1 → ∃ w2 g C, (Builtin.append_ #[41, 41] 41 #[.slice (some ⟨w1.heap.size, 0, none⟩) 0 0, .slice a n cap]).run Tryd.prog (w1.alloc (.cells #[] 5)) = .ok (.slice (some ⟨g, 0, none⟩) n C) w2 ∧
      (Calls Tryd.prog 22 #[.slice (some ⟨g, 0, none⟩) n C, .slice a n cap] w2 fun e w' => e = .returned (.bool true) ∧ ∃ m, w' = w2.drewN m) ∧ Below w.heap.size w w2) := by
    intro w1 hb
    obtain ⟨w2, g, C, G, hrun, k1, k2, k3, k4, k5, k6⟩ := copy_app w1 (h.below hb) hn
    exact ⟨w2, g, C, hrun, sb22_true _ _ n G F w2 ((k4.rb (o := 0) (n := n) (cap := C) (by omega) k1 k4.1).congr (fun i hi => by rw [Nat.zero_add])) ((h.below hb).below k6) k5, hb.trans (k6.mono hb.size)⟩
  have e1 : ∀ W : World, Sem.run Tryd.prog (binOp BinOp.eql 35 (Value.iface 71 (.int .i64 1)) (Value.iface 71 (.int .i64 1))) W = .ok (.bool true) W := fun W => by kernel_rfl
  have e2 : ∀ W : World, Sem.run Tryd.prog (binOp BinOp.neq 35 (Value.iface 71 (.int .i64 1)) (Value.iface 71 (.int .i64 1))) W = .ok (.bool false) W := fun W => by kernel_rfl
  clear h hn
  go_enter Tryd.func6, Tryd.ntmps6
  go_wp2_with (first
    | (go_at_call 15; (with_reducible refine c1.mono ?_); rintro e w1 ⟨rfl, hb⟩; obtain ⟨w2, g, C, hrun, c2, hB⟩ := HA.out w1 hb; have HB : Hid _ := hB; clear c1 HA hb hB)
    | (at_builtin; refine Lib.wpList_append_run _ rfl _ _ _ _ rfl _ _ rfl rfl _ _ hrun ?_; clear hrun)
    | (go_at_call 23; (with_reducible refine (readnil22 _ _).mono ?_); rintro e w9 ⟨rfl, hw⟩; have hw := hw.symm; subst hw)
    | (go_at_call 24; (with_reducible refine (writenil22 _ _).mono ?_); rintro e w9 ⟨rfl, hw⟩; have hw := hw.symm; subst hw)
    | (go_at_call 19; (with_reducible refine (takennil22 _).mono ?_); rintro e w9 ⟨rfl, hw⟩; have hw := hw.symm; subst hw)
    | (go_at_call 11; (with_reducible refine (srcfailnil22 _).mono ?_); rintro e w9 ⟨rfl, hw⟩; have hw := hw.symm; subst hw)
    | (go_at_call 12; (with_reducible refine (snkfailnil22 _).mono ?_); rintro e w9 ⟨rfl, hw⟩; have hw := hw.symm; subst hw)
    | (go_at_call 21; (with_reducible refine (bytesnil22 _).mono ?_); rintro e w9 ⟨rfl, hw⟩; have hw := hw.symm; subst hw)
    | (go_at_call 25; (with_reducible refine (fullnil22 _ _).mono ?_); rintro e w9 ⟨rfl, hw⟩; have hw := hw.symm; subst hw)
    | (go_at_call 26; (with_reducible refine (putnil22 _ _).mono ?_); rintro e w9 ⟨rfl, hw⟩; have hw := hw.symm; subst hw)
    | (go_at_call 22; (with_reducible refine c2.mono ?_); rintro e w3 ⟨rfl, m, hw⟩; have HW : Hid _ := hw; clear c2 hw))
  go_ret
  exact ⟨rfl, by rw [HW.out]; exact below_drewN HB.out m⟩
end Go.Proofs.YtfbgcednodnioaaDoor
