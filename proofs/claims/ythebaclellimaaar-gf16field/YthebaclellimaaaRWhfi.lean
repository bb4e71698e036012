import Derived.Test.YthebaclellimaaaRWalkh
namespace Go.Proofs.YthebaclellimaaaR
open Go.RowKit Gf2

theorem xor16_lt {a b : Nat} (ha : a < 65536) (hb : b < 65536) : a ^^^ b < 65536 := Nat.xor_lt_two_pow (n := 16) ha hb

set_option maxHeartbeats 400000 in
set_option maxRecDepth 10000 in
theorem fixed_any (w : World) :
    Calls Try.prog 5 #[] w fun e w' => e = .returned (.bool true) ∧ w' = w := by
  have c1 : ∀ w, Calls Try.prog 8 #[.int .u16 2] w fun e w' => e = .returned (.tuple #[.int .u16 32790, .int .i64 0]) ∧ w' = w := fun w => by
    have h := hinv_nat 2 w (by decide)
    rw [show hi 2 = 32790 by decide +kernel, show he 2 = 0 by decide] at h
    exact h
  have c2 : ∀ w, Calls Try.prog 7 #[.int .u16 32768, .int .u16 2] w fun e w' => e = .returned (.int .u16 45) ∧ w' = w := fun w => by
    have h := hmul_nat 32768 2 w (by decide) (by decide)
    rw [show fm 65581 32768 2 = 45 by decide +kernel] at h
    exact h
  go_enter Try.func5, Try.ntmps5
  go_wp2_with (first | (go_at_call 8; ((with_reducible refine (c1 _).mono ?_); rintro e w' ⟨rfl, rfl⟩)) | (go_at_call 7; ((with_reducible refine (c2 _).mono ?_); rintro e w' ⟨rfl, rfl⟩)))
  go_ret
  exact ⟨rfl, rfl⟩

set_option maxHeartbeats 4000000 in
set_option maxRecDepth 10000 in
theorem gf16Field_any (a b c : Nat) (w : World) (ha : a < 65536) (hb : b < 65536) (hc : c < 65536) :
    Calls Try.prog 4 #[.int .u16 (a : Int), .int .u16 (b : Int), .int .u16 (c : Int)] w fun e w' => e = .returned (.bool true) ∧ w' = w := by
  have hx := xor16_lt hb hc
  have X1 := u16_xor_nat b c hb hc
  have X2 := u16_xor_nat (fm 65581 a b) (fm 65581 a c) (fm16_lt _ _) (fm16_lt _ _)
  have c0 := fixed_any w
  have c1 := hmul_nat a b w ha hb
  have c2 := hmul_nat b a w hb ha
  rw [fm_comm 65581 b a] at c2
  have c3 := hmul_nat (fm 65581 a b) c w (fm16_lt _ _) hc
  rw [fld16.fm_assoc] at c3
  have c4 := hmul_nat b c w hb hc
  have c5 := hmul_nat a (fm 65581 b c) w ha (fm16_lt _ _)
  have c6 := hmul_nat a (b ^^^ c) w ha hx
  rw [fld16.fm_xor] at c6
  have c7 := hmul_nat a c w ha hc
  have c8 : Calls Try.prog 7 #[.int .u16 (a : Int), .int .u16 1] w fun e w' => e = .returned (.int .u16 (a : Nat)) ∧ w' = w := by
    have h := hmul_nat a 1 w ha (by decide)
    rw [fld16.fm_one ha] at h
    exact h
  have c9 : Calls Try.prog 7 #[.int .u16 (a : Int), .int .u16 0] w fun e w' => e = .returned (.int .u16 0) ∧ w' = w := by
    have h := hmul_nat a 0 w ha (by decide)
    rw [fld16.fm_zero] at h
    exact h
  have l1 := fm16_lt a b
  have l2 := fm16_lt a c
  have l3 := fm16_lt b c
  have l4 := fm16_lt a (fm 65581 b c)
  have HZ : Hid (fm 65581 a b = 0 ↔ a = 0 ∨ b = 0) := fld16.fm_eq_zero ha hb
  have T1 : (((fm 65581 a b : Nat) : Int) == 0) = (((a : Int) == 0) || ((b : Int) == 0)) := by
    rw [Bool.eq_iff_iff]
    have := HZ.out
    simp
    omega
  have d1 := hinv_nat b w hb
  have d2 := hdiv_nat a b w ha hb
  by_cases h0 : b = 0
  · have e1 : hi b = 0 := by rw [h0]; decide
    have e2 : he b = 20 := by rw [h0]; decide
    have e3 : hd a b = 0 := by unfold hd; rw [if_pos h0]
    rw [e1, e2] at d1
    rw [e2, e3] at d2
    have T2 : ((b : Int) == 0) = true := by simp; omega
    clear h0 e1 e2 e3
    obtain ⟨t, T3⟩ : ∃ t, ((a : Int) == 0) = t := ⟨_, rfl⟩
    rw [T2, T3] at T1
    cases t
    all_goals
      go_enter Try.func4, Try.ntmps4
      go_wp2_with (first | (go_at_call 5; ((with_reducible refine (c0).mono ?_); rintro e w' ⟨rfl, rfl⟩)) | (go_at_call 8; ((with_reducible refine (d1).mono ?_); rintro e w' ⟨rfl, rfl⟩)) | (go_at_call 9; ((with_reducible refine (d2).mono ?_); rintro e w' ⟨rfl, rfl⟩)) | (go_at_call 7; first | ((with_reducible refine (c1).mono ?_); rintro e w' ⟨rfl, rfl⟩) | ((with_reducible refine (c2).mono ?_); rintro e w' ⟨rfl, rfl⟩) | ((with_reducible refine (c3).mono ?_); rintro e w' ⟨rfl, rfl⟩) | ((with_reducible refine (c4).mono ?_); rintro e w' ⟨rfl, rfl⟩) | ((with_reducible refine (c5).mono ?_); rintro e w' ⟨rfl, rfl⟩) | ((with_reducible refine (c6).mono ?_); rintro e w' ⟨rfl, rfl⟩) | ((with_reducible refine (c7).mono ?_); rintro e w' ⟨rfl, rfl⟩) | ((with_reducible refine (c8).mono ?_); rintro e w' ⟨rfl, rfl⟩) | ((with_reducible refine (c9).mono ?_); rintro e w' ⟨rfl, rfl⟩)))
      go_ret
      exact ⟨ret_bool (by simp), rfl⟩
  · have e1 : hi b = fi 65581 b := by unfold hi; rw [if_neg h0]
    have e2 : he b = 0 := by unfold he; rw [if_neg h0]
    have e3 : hd a b = fm 65581 a (fi 65581 b) := by unfold hd; rw [if_neg h0]
    rw [e1, e2] at d1
    rw [e2, e3] at d2
    have lf : fi 65581 b < 65536 := fld16.fi_lt hb h0
    have d3 : Calls Try.prog 7 #[.int .u16 (b : Int), .int .u16 (fi 65581 b : Nat)] w fun e w' => e = .returned (.int .u16 1) ∧ w' = w := by
      have h := hmul_nat b (fi 65581 b) w hb lf
      rw [fld16.fi_mul hb h0] at h
      exact h
    have d4 := hmul_nat (fm 65581 a (fi 65581 b)) b w (fm16_lt _ _) hb
    rw [fld16.div_mul ha hb h0] at d4
    have d5 := hmul_nat a (fi 65581 b) w ha lf
    have T2 : ((b : Int) == 0) = false := by simp; omega
    clear h0 e1 e2 e3
    obtain ⟨t, T3⟩ : ∃ t, ((a : Int) == 0) = t := ⟨_, rfl⟩
    rw [T2, T3] at T1
    cases t
    all_goals
      go_enter Try.func4, Try.ntmps4
      go_wp2_with (first | (go_at_call 5; ((with_reducible refine (c0).mono ?_); rintro e w' ⟨rfl, rfl⟩)) | (go_at_call 8; ((with_reducible refine (d1).mono ?_); rintro e w' ⟨rfl, rfl⟩)) | (go_at_call 9; ((with_reducible refine (d2).mono ?_); rintro e w' ⟨rfl, rfl⟩)) | (go_at_call 7; first | ((with_reducible refine (c1).mono ?_); rintro e w' ⟨rfl, rfl⟩) | ((with_reducible refine (c2).mono ?_); rintro e w' ⟨rfl, rfl⟩) | ((with_reducible refine (c3).mono ?_); rintro e w' ⟨rfl, rfl⟩) | ((with_reducible refine (c4).mono ?_); rintro e w' ⟨rfl, rfl⟩) | ((with_reducible refine (c5).mono ?_); rintro e w' ⟨rfl, rfl⟩) | ((with_reducible refine (c6).mono ?_); rintro e w' ⟨rfl, rfl⟩) | ((with_reducible refine (c7).mono ?_); rintro e w' ⟨rfl, rfl⟩) | ((with_reducible refine (c8).mono ?_); rintro e w' ⟨rfl, rfl⟩) | ((with_reducible refine (c9).mono ?_); rintro e w' ⟨rfl, rfl⟩) | ((with_reducible refine (d3).mono ?_); rintro e w' ⟨rfl, rfl⟩) | ((with_reducible refine (d4).mono ?_); rintro e w' ⟨rfl, rfl⟩) | ((with_reducible refine (d5).mono ?_); rintro e w' ⟨rfl, rfl⟩)))
      go_ret
      exact ⟨ret_bool (by simp), rfl⟩
end Go.Proofs.YthebaclellimaaaR
