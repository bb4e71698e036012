import Derived.Test.YtfbgcednodnioaaDoorPnal
import Derived.Deep.Cut
namespace Go.Proofs.YtfbgcednodnioaaDoor
open Go.RowKit Gf2
set_option linter.unusedVariables false

-- layer 22: Bytes, Failure, Taken
/-- a failure as an error. -/
def fe22 (fa : Int) (f : Nat) : Value := if fa < 0 then .nilIface else .iface 22 (.pointer (some ⟨f, 0, none⟩))
set_option maxHeartbeats 2000000 in
set_option maxRecDepth 100000 in
theorem bytes22 {Fp : Nat → Prop} {b L f : Nat} {T : Nat → Nat} {fa code : Int} (w : World) (h : Sk Fp w b L T fa code f) (hL : L ≤ 225000000000000) :
    Calls Tryd.prog 21 #[.pointer (some ⟨b, 0, none⟩)] w fun e w' => ∃ u, e = .returned u ∧ Nb w.heap.size w' u L T ∧ Below w.heap.size w w' := by
  obtain ⟨a, c, fv, hy, -, hB, -⟩ := h.open_
  have z0 := hy.c0
  have c1 := clone8_22 _ L T w hB hL
  clear h hy hB hL
  go_enter Tryd.func21, Tryd.ntmps21
  go_wp2_with (go_at_call 28; (with_reducible refine c1.mono ?_); rintro e w1 ⟨u, rfl, hN⟩; have HN : Hid _ := hN; clear c1 hN z0)
  go_ret
  exact ⟨u, rfl, HN.out⟩
set_option maxHeartbeats 2000000 in
set_option maxRecDepth 100000 in
theorem srcfail22 {lo hi b n k f p t : Nat} {D : Nat → Nat} {C : Nat → Int} {fa code : Int} (w : World) (h : So lo hi w b n D k C fa code f p t) :
    Calls Tryd.prog 11 #[.pointer (some ⟨b, 0, none⟩)] w fun e w' => e = .returned (fe22 fa f) ∧ w' = w := by
  obtain ⟨a, cap, c, ccap, fv, hx, hB, hI, hF⟩ := h.open_
  have z5 := hx.c5
  rcases hF with ⟨h0, rfl⟩ | ⟨h0, rfl, hfb⟩
  · have e1 : fe22 fa f = .nilIface := if_pos h0
    rw [e1]
    clear h hx hB hI e1 h0
    go_enter Tryd.func11, Tryd.ntmps11
    go_wp2
    go_ret
    exact ⟨rfl, rfl⟩
  · have e1 : fe22 fa f = .iface 22 (.pointer (some ⟨f, 0, none⟩)) := if_neg (by omega)
    rw [e1]
    have hnil : ∀ W : World, Sem.run Tryd.prog (binOp BinOp.eql 22 (Value.pointer (some ⟨f, 0, none⟩)) (Value.pointer none)) W = .ok (.bool false) W := fun W => by kernel_rfl
    clear h hx hB hI e1 h0 hfb
    go_enter Tryd.func11, Tryd.ntmps11
    go_wp2
    go_ret
    exact ⟨rfl, rfl⟩
set_option maxHeartbeats 2000000 in
set_option maxRecDepth 100000 in
theorem snkfail22 {Fp : Nat → Prop} {b L f : Nat} {T : Nat → Nat} {fa code : Int} (w : World) (h : Sk Fp w b L T fa code f) :
    Calls Tryd.prog 12 #[.pointer (some ⟨b, 0, none⟩)] w fun e w' => e = .returned (fe22 fa f) ∧ w' = w := by
  obtain ⟨a, c, fv, hy, hF, -, -⟩ := h.open_
  have z5 := hy.c2
  rcases hF with ⟨h0, rfl⟩ | ⟨h0, rfl, hfb⟩
  · have e1 : fe22 fa f = .nilIface := if_pos h0
    rw [e1]
    clear h hy e1 h0
    go_enter Tryd.func12, Tryd.ntmps12
    go_wp2
    go_ret
    exact ⟨rfl, rfl⟩
  · have e1 : fe22 fa f = .iface 22 (.pointer (some ⟨f, 0, none⟩)) := if_neg (by omega)
    rw [e1]
    have hnil : ∀ W : World, Sem.run Tryd.prog (binOp BinOp.eql 22 (Value.pointer (some ⟨f, 0, none⟩)) (Value.pointer none)) W = .ok (.bool false) W := fun W => by kernel_rfl
    clear h hy e1 h0 hfb
    go_enter Tryd.func12, Tryd.ntmps12
    go_wp2
    go_ret
    exact ⟨rfl, rfl⟩
end Go.Proofs.YtfbgcednodnioaaDoor
namespace Go.Proofs.YtfbgcednodnioaaDoor
open Go.RowKit Gf2
set_option linter.unusedVariables false

-- layer 22: awake
theorem rw_rb22 {w : World} {g n : Nat} {F : Nat → Nat} (h : Rw w g n F) : Rb w (.slice (some ⟨g, 0, none⟩) n n) n F := h.rb0
theorem qi_nil22 (w : World) : Qi w (.slice none 0 0) 0 (fun _ => 0) := ⟨Nat.zero_le _, trivial, none, 0, rfl, Nat.le_refl _, Nat.zero_le _, fun h => absurd h (Nat.lt_irrefl _)⟩
/-- awake's calls, one inside the other. -/
theorem aw_22 (w : World) : Calls Tryd.prog 9 #[.slice (some ⟨w.heap.size + 1, 0, none⟩) 2 2, .agg #[.slice none 0 0, .int .i64 (-1), .int .i64 0]] ((w.alloc (.cells #[.int .u8 9, .int .u8 9, .int .u8 9] 5)).alloc (.cells #[.int .u8 5, .int .u8 6] 5)) fun e w3 => ∃ b, e = .returned (.pointer (some ⟨b, 0, none⟩)) ∧
    Calls Tryd.prog 23 #[.pointer (some ⟨b, 0, none⟩), .slice (some ⟨w.heap.size, 0, none⟩) 3 3] w3 fun e w4 => e = .returned (.tuple #[.int .i64 2, .nilIface]) ∧
    Calls Tryd.prog 10 #[.agg #[.int .i64 (-1), .int .i64 0]] w4 fun e w5 => ∃ s, e = .returned (.pointer (some ⟨s, 0, none⟩)) ∧
    Calls Tryd.prog 24 #[.pointer (some ⟨s, 0, none⟩), .slice (some ⟨w5.heap.size, 0, none⟩) 1 1] (w5.alloc (.cells #[.int .u8 7] 5)) fun e w7 => e = .returned (.tuple #[.int .i64 1, .nilIface]) ∧
    Calls Tryd.prog 22 #[.slice (some ⟨w.heap.size, 0, none⟩) 3 3, .slice (some ⟨w7.heap.size, 0, none⟩) 3 3] (w7.alloc (.cells #[.int .u8 5, .int .u8 6, .int .u8 9] 5)) fun e w8 => e = .returned (.bool true) ∧
    Calls Tryd.prog 21 #[.pointer (some ⟨s, 0, none⟩)] w8 fun e w9 => ∃ a c, e = .returned (.slice a 1 c) ∧
    Calls Tryd.prog 22 #[.slice a 1 c, .slice (some ⟨w9.heap.size, 0, none⟩) 1 1] (w9.alloc (.cells #[.int .u8 7] 5)) fun e w10 => e = .returned (.bool true) ∧ Below w.heap.size w w10 := by
  have r0 : Rw (w.alloc (.cells #[.int .u8 9, .int .u8 9, .int .u8 9] 5)) w.heap.size 3 (fun i => [9, 9, 9].getD i 0) := lit_rw [9, 9, 9] w (by decide) (by decide)
  have b1 : Below w.heap.size w (w.alloc (.cells #[.int .u8 9, .int .u8 9, .int .u8 9] 5)) := (Below.refl _ _).alloc (Nat.le_refl _) _
  have s1 : (w.alloc (.cells #[.int .u8 9, .int .u8 9, .int .u8 9] 5)).heap.size = w.heap.size + 1 := by simp
  obtain ⟨W1, h1⟩ : ∃ W1, W1 = w.alloc (.cells #[.int .u8 9, .int .u8 9, .int .u8 9] 5) := ⟨_, rfl⟩
  rw [← h1] at r0 b1 s1 ⊢
  have r1 : Rw (W1.alloc (.cells #[.int .u8 5, .int .u8 6] 5)) W1.heap.size 2 (fun i => [5, 6].getD i 0) := lit_rw [5, 6] W1 (by decide) (by decide)
  have b2 : Below W1.heap.size W1 (W1.alloc (.cells #[.int .u8 5, .int .u8 6] 5)) := (Below.refl _ _).alloc (Nat.le_refl _) _
  have s2 : (W1.alloc (.cells #[.int .u8 5, .int .u8 6] 5)).heap.size = W1.heap.size + 1 := by simp
  obtain ⟨W2, h2⟩ : ∃ W2, W2 = W1.alloc (.cells #[.int .u8 5, .int .u8 6] 5) := ⟨_, rfl⟩
  rw [← h2] at r1 b2 s2 ⊢
  rw [s1] at r1
  have r0' : Rw W2 w.heap.size 3 (fun i => [9, 9, 9].getD i 0) := rw_below r0 b2
  refine (newsource22 _ _ 2 0 _ _ (-1) 0 W2 (rw_rb22 r1) (qi_nil22 W2) (by decide) (by decide) ⟨by decide, by decide⟩).mono fun e w3 ⟨b, f, e3, hS, b3⟩ => ⟨b, e3, ?_⟩
  have r3 := rw_below r0' b3
  have hrd : rd22 3 2 0 (-1) 0 (fun _ => 0) 0 = 2 := by decide
  have c2 := read22_turn w.heap.size 0 3 3 3 _ w3 hS (fun i hi => absurd hi (Nat.not_lt_zero _)) (by decide) (fun h => absurd h.1 (by decide)) (by decide) r3 (by decide) (by decide) (.inl (by omega))
  rw [hrd] at c2
  refine c2.mono fun e w4 ⟨e4, hS4, r4, k4⟩ => ⟨e4, ?_⟩
  refine (newsink22 (-1) 0 w4 ⟨by decide, by decide⟩).mono fun e w5 ⟨s, f', e5, hK, b5⟩ => ⟨s, e5, ?_⟩
  have z4 := k4.size
  have z5 := b5.size
  have b6 : Below w5.heap.size w5 (w5.alloc (.cells #[.int .u8 7] 5)) := (Below.refl _ _).alloc (Nat.le_refl _) _
  have r6 : Rw (w5.alloc (.cells #[.int .u8 7] 5)) w5.heap.size 1 (fun i => [7].getD i 0) := lit_rw [7] w5 (by decide) (by decide)
  obtain ⟨W6, h6⟩ : ∃ W6, W6 = w5.alloc (.cells #[.int .u8 7] 5) := ⟨_, rfl⟩
  rw [← h6] at r6 b6 ⊢
  refine (write22_ok _ 1 1 _ W6 (hK.below b6) (rw_rb22 r6) (by decide) (fun h => absurd h (by decide))).mono fun e w7 ⟨e7, hK7, k7⟩ => ⟨e7, ?_⟩
  have b8 : Below w7.heap.size w7 (w7.alloc (.cells #[.int .u8 5, .int .u8 6, .int .u8 9] 5)) := (Below.refl _ _).alloc (Nat.le_refl _) _
  have r8 : Rw (w7.alloc (.cells #[.int .u8 5, .int .u8 6, .int .u8 9] 5)) w7.heap.size 3 (fun i => [5, 6, 9].getD i 0) := lit_rw [5, 6, 9] w7 (by decide) (by decide)
  have r5 : Rw w7 w.heap.size 3 _ := k7.rw_ (rw_below (rw_below r4 b5) b6) (fun h => by have := r4.lt; omega)
  have r5' := rw_below r5 b8
  obtain ⟨W8, h8⟩ : ∃ W8, W8 = w7.alloc (.cells #[.int .u8 5, .int .u8 6, .int .u8 9] 5) := ⟨_, rfl⟩
  rw [← h8] at r8 b8 r5' ⊢
  refine (sb22_true _ _ 3 _ _ W8 (rw_rb22 r5') (rw_rb22 r8) (by decide)).mono fun e w8 ⟨e8, m8, hw8⟩ => ⟨e8, ?_⟩
  have hK8 : Sk (fun y => (w4.heap.size ≤ y ∧ y < w5.heap.size) ∨ W6.heap.size ≤ y ∧ y < w7.heap.size) w8 s (0 + 1) (aft (fun _ => 0) 0 fun i => [7].getD i 0) (-1) 0 f' := by rw [hw8]; exact (hK7.below b8).drewN m8
  refine (bytes22 w8 hK8 (by decide)).mono fun e w9 ⟨u, e9, hN, b9⟩ => ?_
  obtain ⟨a, c, eu⟩ : ∃ a c, u = .slice a 1 c := by obtain ⟨-, -, a, c, e, -⟩ := hN; exact ⟨a, c, e⟩
  subst eu
  refine ⟨a, c, e9, ?_⟩
  have b10 : Below w9.heap.size w9 (w9.alloc (.cells #[.int .u8 7] 5)) := (Below.refl _ _).alloc (Nat.le_refl _) _
  have r10 : Rw (w9.alloc (.cells #[.int .u8 7] 5)) w9.heap.size 1 (fun i => [7].getD i 0) := lit_rw [7] w9 (by decide) (by decide)
  refine (sb22_true _ _ 1 _ _ _ (hN.below b10).rb (rw_rb22 r10) (by decide)).mono fun e w10 ⟨e10, m10, hw10⟩ => ⟨e10, ?_⟩
  rw [hw10]
  refine below_drewN ?_ m10
  have B4 : Below w.heap.size w w4 := b1.trans ((b2.mono (by omega)).trans ((b3.mono (by omega)).trans (k4.below (fun x hx => by
    rcases hx with e | e
    · have := hS.bl; omega
    · omega) (by have := b3.size; omega))))
  have B6 : Below w.heap.size w W6 := B4.trans ((b5.mono B4.size).trans (b6.mono (by have := B4.size; omega)))
  have B7 : Below w.heap.size w w7 := B6.trans (k7.below (fun x hx => by have := B4.size; omega) (by have := B6.size; omega))
  have B8 : Below w.heap.size w w8 := by rw [hw8]; exact below_drewN (B7.trans (b8.mono B7.size)) m8
  exact B8.trans ((b9.mono B8.size).trans (b10.mono (by have := B8.size; have := b9.size; omega)))
set_option maxHeartbeats 2000000 in
set_option maxRecDepth 100000 in
theorem awake22 (w : World) : Calls Tryd.prog 15 #[] w fun e w' => e = .returned (.bool true) ∧ Below w.heap.size w w' := by
  have c1 := aw_22 w
  go_enter Tryd.func15, Tryd.ntmps15
  go_wp2_with (first
    | (go_at_call 9; (with_reducible refine c1.mono ?_); rintro e w3 ⟨b, rfl, c2⟩; clear c1)
    | (go_at_call 23; (with_reducible refine c2.mono ?_); rintro e w4 ⟨rfl, c3⟩; clear c2)
    | (go_at_call 10; (with_reducible refine c3.mono ?_); rintro e w5 ⟨s, rfl, c4⟩; clear c3)
    | (go_at_call 24; (with_reducible refine c4.mono ?_); rintro e w7 ⟨rfl, c5⟩; clear c4)
    | (go_at_call 22; (with_reducible refine c5.mono ?_); rintro e w8 ⟨rfl, c6⟩; clear c5)
    | (go_at_call 21; (with_reducible refine c6.mono ?_); rintro e w9 ⟨a, c, rfl, c7⟩; clear c6)
    | (go_at_call 22; (with_reducible refine c7.mono ?_); rintro e w10 ⟨rfl, hb⟩; have HB : Hid _ := hb; clear c7 hb))
  go_ret
  exact ⟨rfl, HB.out⟩
end Go.Proofs.YtfbgcednodnioaaDoor
