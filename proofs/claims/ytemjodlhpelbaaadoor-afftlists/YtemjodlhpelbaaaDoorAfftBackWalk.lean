import Derived.Test.YtemjodlhpelbaaaDoorAj6
import Derived.Test.YtemjodlhpelbaaaDoorAof
namespace Go.Proofs.YtemjodlhpelbaaaDoor
open Go.RowKit Gf2
set_option linter.unusedVariables false

/-- cut of no words. -/
theorem cut14_none_nums (most : Nat) : ¬ (2 : Int) ≤ 0 := by decide
set_option maxHeartbeats 4000000 in
set_option maxRecDepth 100000 in
theorem cut14_none (a : Option Addr) (cap : Nat) (most : Int) (w : World) :
    Calls Tryd.prog 10 #[.slice a 0 cap, .int .i64 most] w fun e w' => e = .returned (.slice a 0 cap) ∧ w' = w := by
  go_enter Tryd.func10, Tryd.ntmps10
  go_wp2
  refine wp_loop_rounds 1 ?_
  rw [rounds_succ]
  go_wp2
  go_ret
  exact ⟨rfl, rfl⟩
/-- a list's beginning. -/
theorem Q6.head {w : World} {b o n cap c : Nat} {F : Nat → Nat} (h : Q6 w (.slice (some ⟨b, o, none⟩) n cap) n F) (h0 : 0 < n) (hc : c ≤ n) : Q6 w (.slice (some ⟨b, o, none⟩) c cap) c F := by
  obtain ⟨h1, h2, a, cap', e, h5, h6, h4⟩ := h
  cases e
  obtain ⟨b', o', e, hl, hcell⟩ := h4 h0
  cases e
  exact ⟨by omega, fun i hi => h2 i (by omega), _, _, rfl, by omega, h6, fun _ => ⟨b, o, rfl, hl, fun i hi => hcell i (by omega)⟩⟩
theorem Q6.drewN {w : World} {v : Value} {n : Nat} {F : Nat → Nat} (h : Q6 w v n F) (m : Nat) : Q6 (w.drewN m) v n F := by
  obtain ⟨h1, h2, a, cap, h3, h5, h6, h4⟩ := h
  exact ⟨h1, h2, a, cap, h3, h5, h6, h4⟩
theorem pow16 {c k : Nat} (h : c = 2 ^ k) (hc : c ≤ 65536) : k ≤ 16 := by
  rcases Nat.lt_or_ge 16 k with h9 | h9
  · have := Nat.pow_le_pow_right (n := 2) (by decide) (show 17 ≤ k from h9)
    omega
  · exact h9
theorem back_first (b o n cap : Nat) (a : Int) (F : Nat → Nat) (w : World) (h : Q6 w (.slice (some ⟨b, o, none⟩) n cap) n F) (h0 : 0 < n) (hcap : n ≤ cap) (hC : Cab w) (hT : Tzt w) :
    Calls Tryd.prog 9 #[] w fun e w1 => e = .returned (.bool true) ∧
    Calls Tryd.prog 10 #[.slice (some ⟨b, o, none⟩) n cap, .int .i64 65536] w1 fun e w2 => ∃ k c : Nat, e = .returned (.slice (some ⟨b, o, none⟩) c cap) ∧ Hid (0 < c) ∧ (((c : Int) == 0) = false) ∧
    Calls Tryd.prog 11 #[.int .i64 a, .int .i64 (c : Int)] w2 fun e w3 => ∃ s : Nat, e = .returned (.int .i64 (s : Int)) ∧
    Calls Tryd.prog 12 #[.slice (some ⟨b, o, none⟩) c cap, .int .i64 (s : Int)] w3 fun e w4 => e = .returned (.tuple #[.slice (some ⟨w3.heap.size, 0, none⟩) c c, .int .i64 0]) ∧
    Calls Tryd.prog 13 #[.slice (some ⟨w3.heap.size, 0, none⟩) c c, .int .i64 (s : Int)] w4 fun e w5 => e = .returned (.tuple #[.slice (some ⟨w4.heap.size, 0, none⟩) c c, .int .i64 0]) ∧
    Calls Tryd.prog 13 #[.slice (some ⟨b, o, none⟩) c cap, .int .i64 (s : Int)] w5 fun e w6 => e = .returned (.tuple #[.slice (some ⟨w5.heap.size, 0, none⟩) c c, .int .i64 0]) ∧
    Calls Tryd.prog 12 #[.slice (some ⟨w5.heap.size, 0, none⟩) c c, .int .i64 (s : Int)] w6 fun e w7 => e = .returned (.tuple #[.slice (some ⟨w6.heap.size, 0, none⟩) c c, .int .i64 0]) ∧
    Calls Tryd.prog 14 #[.slice (some ⟨w4.heap.size, 0, none⟩) c c, .slice (some ⟨b, o, none⟩) c cap] w7 fun e w8 => e = .returned (.bool true) ∧
    Calls Tryd.prog 14 #[.slice (some ⟨w6.heap.size, 0, none⟩) c c, .slice (some ⟨b, o, none⟩) c cap] w8 fun e w9 => e = .returned (.bool true) ∧ Hid (Below w.heap.size w w9 ∧ ((c : Int) ≤ 1 →
      Calls Tryd.prog 14 #[.slice (some ⟨w5.heap.size, 0, none⟩) c c, .slice (some ⟨b, o, none⟩) c cap] w9 fun e w10 => e = .returned (.bool true) ∧
      Calls Tryd.prog 14 #[.slice (some ⟨w3.heap.size, 0, none⟩) c c, .slice (some ⟨b, o, none⟩) c cap] w10 fun e w11 => e = .returned (.bool true) ∧ Hid (Below w.heap.size w w11))) := by
  refine (awake14 w hC hT).mono fun e w1 ⟨he, b1⟩ => ⟨he, ?_⟩
  refine (cut14 b o n cap 65536 h0 hcap (by decide) (by decide) w1).mono fun e w2 ⟨k, c, he, hk, hw⟩ => ⟨k, c, he, ?_⟩
  subst hw
  obtain ⟨hk1, hk2, hk3⟩ := hk.out
  have hk16 := pow16 hk1 hk3
  have c0 : 0 < c := by rw [hk1]; exact Nat.two_pow_pos k
  refine ⟨c0, by simp; omega, ?_⟩
  refine (begin14 a k c hk1 hk3 w2).mono fun e w3 ⟨s, he, hs, hw⟩ => ⟨s, he, ?_⟩
  subst hw
  obtain ⟨hd, hs⟩ := hs.out
  have B3 : Bs w w3 := (Bs.self hC hT).then b1
  have q3 := (h.head h0 hk2).below b1
  refine (inv14 _ k c s F w w3 B3 q3 hk16 hk1 hd hs).mono fun e w4 ⟨he, r4, b4⟩ => ⟨he, ?_⟩
  refine (fwd14 _ k c s _ w w4 (B3.then b4) r4.all hk16 hk1 hd hs).mono fun e w5 ⟨he, r5, b5⟩ => ⟨he, ?_⟩
  rw [fw_iw] at r5
  have q5 := (q3.below b4).below b5
  refine (fwd14 _ k c s F w w5 ((B3.then b4).then b5) q5 hk16 hk1 hd hs).mono fun e w6 ⟨he, r6, b6⟩ => ⟨he, ?_⟩
  refine (inv14 _ k c s _ w w6 (((B3.then b4).then b5).then b6) r6.all hk16 hk1 hd hs).mono fun e w7 ⟨he, r7, b7⟩ => ⟨he, ?_⟩
  rw [iw_fw] at r7
  have q7 := (q5.below b6).below b7
  refine (alike14 _ _ c F w7 ((r5.all.below b6).below b7) q7).mono fun e w8 ⟨he, m8, e8⟩ => ⟨he, ?_⟩
  subst e8
  refine (alike14 _ _ c F _ (r7.all.drewN m8) (q7.drewN m8)).mono fun e w9 ⟨he, m9, e9⟩ => ⟨he, ?_⟩
  subst e9
  have bb : Below w.heap.size w w7 := bthen13 (bthen13 (bthen13 (bthen13 b1 b4) b5) b6) b7
  refine ⟨below_drewN (below_drewN bb m8) m9, fun hle => ?_⟩
  have hk0 : k = 0 := by
    rcases Nat.eq_zero_or_pos k with h9 | h9
    · exact h9
    · have := Nat.pow_le_pow_right (n := 2) (by decide) (show 1 ≤ k from h9)
      omega
  subst hk0
  refine (alike14 _ _ c F _ (((r6.all.below b7).drewN m8).drewN m9) ((q7.drewN m8).drewN m9)).mono fun e w10 ⟨he, m10, e10⟩ => ⟨he, ?_⟩
  subst e10
  refine (alike14 _ _ c F _ ((((((r4.all.below b5).below b6).below b7).drewN m8).drewN m9).drewN m10) (((q7.drewN m8).drewN m9).drewN m10)).mono fun e w11 ⟨he, m11, e11⟩ => ⟨he, ?_⟩
  subst e11
  exact below_drewN (below_drewN (below_drewN (below_drewN bb m8) m9) m10) m11
set_option maxHeartbeats 8000000 in
set_option maxRecDepth 100000 in
theorem afftBack_any (a0 : Option Addr) (n cap : Nat) (a : Int) (w : World) (h : Qbm w a0 n cap) (hC : Cab w) (hT : Tzt w) :
    Calls Tryd.prog 3 #[.slice a0 n cap, .int .i64 a] w fun e w' => e = .returned (.bool true) ∧ Below w.heap.size w w' := by
  by_cases h0 : n = 0
  · subst h0
    have c1 : Calls Tryd.prog 9 #[] w fun e w1 => e = .returned (.bool true) ∧ Calls Tryd.prog 10 #[.slice a0 0 cap, .int .i64 65536] w1 fun e w2 => e = .returned (.slice a0 0 cap) ∧ Hid (Below w.heap.size w w2) :=
      (awake14 w hC hT).mono fun e w1 ⟨he, b1⟩ => ⟨he, (cut14_none a0 cap 65536 w1).mono fun e w2 ⟨he, hw⟩ => ⟨he, by subst hw; exact b1⟩⟩
    clear h hC hT
    go_enter Tryd.func3, Tryd.ntmps3
    go_wp2_with (first | (go_at_call 9; ((with_reducible refine (c1).mono ?_); (rintro e w1 ⟨rfl, c2⟩))) | (go_at_call 10; ((with_reducible refine (c2).mono ?_); (rintro e w2 ⟨rfl, HB⟩))))
    go_ret
    exact ⟨rfl, HB.out⟩
  · obtain ⟨-, F, hQ⟩ := h
    obtain ⟨b, o, rfl, hcap⟩ : ∃ b o, a0 = some ⟨b, o, none⟩ ∧ n ≤ cap := by
      obtain ⟨-, -, a, cap', e, h5, -, h4⟩ := hQ
      cases e
      obtain ⟨b, o, e, -⟩ := h4 (by omega)
      exact ⟨b, o, e, h5⟩
    have c1 := back_first b o n cap a F w hQ (by omega) hcap hC hT
    clear hQ hC hT h0
    go_enter Tryd.func3, Tryd.ntmps3
    go_wp2_with (first
      | (go_at_call 9; (with_reducible refine c1.mono ?_); rintro e w1 ⟨rfl, c2⟩)
      | (go_at_call 10; (with_reducible refine c2.mono ?_); rintro e w2 ⟨k, c, rfl, hc0, z0, c3⟩)
      | (go_at_call 11; (with_reducible refine c3.mono ?_); rintro e w3 ⟨s, rfl, c4⟩)
      | (go_at_call 12; first | ((with_reducible refine c4.mono ?_); rintro e w4 ⟨rfl, c5⟩) | ((with_reducible refine c7.mono ?_); rintro e w7 ⟨rfl, c8⟩))
      | (go_at_call 13; first | ((with_reducible refine c5.mono ?_); rintro e w5 ⟨rfl, c6⟩) | ((with_reducible refine c6.mono ?_); rintro e w6 ⟨rfl, c7⟩))
      | (go_at_call 14; first | ((with_reducible refine c8.mono ?_); rintro e w8 ⟨rfl, c9⟩) | ((with_reducible refine c9.mono ?_); rintro e w9 ⟨rfl, HB⟩)))
    all_goals first
      | (go_ret; exact ⟨rfl, HB.out.1⟩)
      | (refine (HB.out.2 (by omega)).mono ?_
         rintro e w10 ⟨rfl, c11⟩
         go_wp2_with (go_at_call 14; (with_reducible refine c11.mono ?_); rintro e w11 ⟨rfl, HB2⟩)
         go_ret
         exact ⟨rfl, HB2.out⟩)
end Go.Proofs.YtemjodlhpelbaaaDoor
