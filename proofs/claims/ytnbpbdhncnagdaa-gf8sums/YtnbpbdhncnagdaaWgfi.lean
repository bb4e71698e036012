import Derived.Test.YtnbpbdhncnagdaaWalkg
namespace Go.Proofs.Ytnbpbdhncnagdaa
open Go.RowKit Gf2

theorem xor8_lt {a b : Nat} (ha : a < 256) (hb : b < 256) : a ^^^ b < 256 := Nat.xor_lt_two_pow (n := 8) ha hb
theorem beq_int_false {a b : Nat} (h : a ≠ b) : ((a : Int) == (b : Int)) = false := by simp; omega
theorem bne_int_true {a b : Nat} (h : a ≠ b) : ((a : Int) != (b : Int)) = true := by simp; omega

set_option maxHeartbeats 2000000 in
theorem gf8Field_any (a b c : Nat) (w : World) (ha : a < 256) (hb : b < 256) (hc : c < 256) :
    Calls Try.prog 5 #[.int .u8 (a : Int), .int .u8 (b : Int), .int .u8 (c : Int)] w fun e w' => e = .returned (.bool true) ∧ w' = w := by
  have hx := xor8_lt hb hc
  have X1 := u8_xor_nat b c hb hc
  have X2 := u8_xor_nat (fm 285 a b) (fm 285 a c) (fm8_lt _ _) (fm8_lt _ _)
  have c0 := awake2_any w
  have c1 := gmul_nat a b w ha hb
  have c2 := gmul_nat b a w hb ha
  rw [fm_comm 285 b a] at c2
  have c3 := gmul_nat (fm 285 a b) c w (fm8_lt _ _) hc
  rw [fld8.fm_assoc] at c3
  have c4 := gmul_nat b c w hb hc
  have c5 := gmul_nat a (fm 285 b c) w ha (fm8_lt _ _)
  have c6 := gmul_nat a (b ^^^ c) w ha hx
  rw [fld8.fm_xor] at c6
  have c7 := gmul_nat a c w ha hc
  have c8 : Calls Try.prog 11 #[.int .u8 (a : Int), .int .u8 1] w fun e w' => e = .returned (.int .u8 (a : Nat)) ∧ w' = w := by
    have h := gmul_nat a 1 w ha (by decide)
    rw [fld8.fm_one ha] at h
    exact h
  have c9 : Calls Try.prog 11 #[.int .u8 2, .int .u8 (a : Int)] w fun e w' => e = .returned (.int .u8 (tw a : Nat)) ∧ w' = w := by
    have h := gmul_nat 2 a w (by decide) ha
    rw [tw_fm ha] at h
    exact h
  have c10 := twice_nat a w ha
  have l1 := fm8_lt a b
  have l2 := fm8_lt a c
  have l3 := fm8_lt b c
  have l4 := fm8_lt a (fm 285 b c)
  have l5 := tw_lt ha
  have HZ : Hid (fm 285 a b = 0 ↔ a = 0 ∨ b = 0) := fld8.fm_eq_zero ha hb
  have T1 : (((fm 285 a b : Nat) : Int) == 0) = (((a : Int) == 0) || ((b : Int) == 0)) := by
    rw [Bool.eq_iff_iff]
    have := HZ.out
    simp
    omega
  go_enter Try.func5, Try.ntmps5
  go_wp2_with (first | (go_at_call 10; ((with_reducible refine (c0).mono ?_); rintro e w' ⟨rfl, rfl⟩)) | (go_at_call 12; ((with_reducible refine (c10).mono ?_); rintro e w' ⟨rfl, rfl⟩)) | (go_at_call 11; first | ((with_reducible refine (c1).mono ?_); rintro e w' ⟨rfl, rfl⟩) | ((with_reducible refine (c2).mono ?_); rintro e w' ⟨rfl, rfl⟩) | ((with_reducible refine (c3).mono ?_); rintro e w' ⟨rfl, rfl⟩) | ((with_reducible refine (c4).mono ?_); rintro e w' ⟨rfl, rfl⟩) | ((with_reducible refine (c5).mono ?_); rintro e w' ⟨rfl, rfl⟩) | ((with_reducible refine (c6).mono ?_); rintro e w' ⟨rfl, rfl⟩) | ((with_reducible refine (c7).mono ?_); rintro e w' ⟨rfl, rfl⟩) | ((with_reducible refine (c8).mono ?_); rintro e w' ⟨rfl, rfl⟩) | ((with_reducible refine (c9).mono ?_); rintro e w' ⟨rfl, rfl⟩)))
  all_goals go_ret
  all_goals exact ⟨ret_bool (by simp), rfl⟩

set_option maxHeartbeats 2000000 in
theorem gf8Inverse_any (a b : Nat) (w : World) (ha : a < 256) (hb : b < 256) :
    Calls Try.prog 6 #[.int .u8 (a : Int), .int .u8 (b : Int)] w fun e w' => e = .returned (.bool true) ∧ w' = w := by
  have c0 := awake2_any w
  by_cases h0 : b = 0
  · subst h0
    have c1 := ginv_zero w
    have c2 := gdiv_zero a w
    go_enter Try.func6, Try.ntmps6
    go_wp2_with (first | (go_at_call 10; ((with_reducible refine (c0).mono ?_); rintro e w' ⟨rfl, rfl⟩)) | (go_at_call 13; ((with_reducible refine (c1).mono ?_); rintro e w' ⟨rfl, rfl⟩)) | (go_at_call 14; ((with_reducible refine (c2).mono ?_); rintro e w' ⟨rfl, rfl⟩)))
    go_ret
    exact ⟨rfl, rfl⟩
  · have l1 := fi8_lt hb h0
    have n1 : fi 285 b ≠ 0 := fld8.fi_ne hb h0
    have c1 := ginv_nat b w hb h0
    have c2 := gdiv_nat a b w ha hb h0
    have c3 : Calls Try.prog 11 #[.int .u8 (b : Int), .int .u8 (fi 285 b : Nat)] w fun e w' => e = .returned (.int .u8 1) ∧ w' = w := by
      have h := gmul_nat b (fi 285 b) w hb l1
      rw [fld8.fi_mul hb h0] at h
      exact h
    have c4 := gmul_nat (fm 285 a (fi 285 b)) b w (fm8_lt _ _) hb
    rw [fld8.div_mul ha hb h0] at c4
    have c5 := ginv_nat (fi 285 b) w l1 n1
    rw [fld8.fi_fi hb h0] at c5
    have c6 := gmul_nat a b w ha hb
    have c7 := gdiv_nat (fm 285 a b) b w (fm8_lt _ _) hb h0
    rw [fld8.mul_div ha hb h0] at c7
    clear n1
    go_enter Try.func6, Try.ntmps6
    go_wp2_with (first | (go_at_call 10; ((with_reducible refine (c0).mono ?_); rintro e w' ⟨rfl, rfl⟩)) | (go_at_call 13; first | ((with_reducible refine (c1).mono ?_); rintro e w' ⟨rfl, rfl⟩) | ((with_reducible refine (c5).mono ?_); rintro e w' ⟨rfl, rfl⟩)) | (go_at_call 14; first | ((with_reducible refine (c2).mono ?_); rintro e w' ⟨rfl, rfl⟩) | ((with_reducible refine (c7).mono ?_); rintro e w' ⟨rfl, rfl⟩)) | (go_at_call 11; first | ((with_reducible refine (c3).mono ?_); rintro e w' ⟨rfl, rfl⟩) | ((with_reducible refine (c4).mono ?_); rintro e w' ⟨rfl, rfl⟩) | ((with_reducible refine (c6).mono ?_); rintro e w' ⟨rfl, rfl⟩)))
    go_ret
    exact ⟨ret_bool (by simp), rfl⟩

theorem er_next {a : Nat} (ha : a < 256) (h0 : a ≠ 0) (n : Int) : fp 285 a (er (n + 1)) = fm 285 (fp 285 a (er n)) a := by
  rw [← fld8.fp_succ ha, ← fld8.fp_mod ha h0 (er n + 1)]
  congr 1
  unfold er
  show _ = _ % 255
  omega
theorem er_opp {a : Nat} (ha : a < 256) (h0 : a ≠ 0) (n : Int) : fm 285 (fp 285 a (er n)) (fp 285 a (er (-n))) = 1 := by
  rw [← fld8.fp_add, ← fld8.fp_mod ha h0]
  have e : (er n + er (-n)) % (2 ^ 8 - 1) = 0 := by
    unfold er
    show _ % 255 = 0
    omega
  rw [e, fld8.fp_zero]

set_option maxHeartbeats 4000000 in
theorem gf8Sums_any (a b : Nat) (n : Int) (w : World) (ha : a < 256) (hb : b < 256) (hn1 : -9223372036854775808 ≤ n) (hn2 : n ≤ 9223372036854775807) :
    Calls Try.prog 7 #[.int .u8 (a : Int), .int .u8 (b : Int), .int .i64 n] w fun e w' => e = .returned (.bool true) ∧ w' = w := by
  have hx := xor8_lt ha hb
  have X1 := u8_xor_nat a b ha hb
  have sq : ∀ x, x < 256 → ∀ w, Calls Try.prog 15 #[.int .u8 (x : Nat), .int .i64 2] w fun e w' => e = .returned (.tuple #[.int .u8 (fp 285 x 2 : Nat), .int .i64 0]) ∧ w' = w := by
    intro x hx w
    have h := gpow_int x 2 w hx
    have e1 : gp x 2 = fp 285 x 2 := by
      unfold gp
      split
      · next h => subst h; decide
      · rfl
    have e2 : ge x 2 = 0 := by unfold ge; rw [if_neg (by omega)]
    rw [e1, e2] at h
    exact h
  have c0 := awake2_any w
  have c1 := sq (a ^^^ b) hx w
  rw [fld8.sq_xor] at c1
  have c2 := sq a ha w
  have c3 := sq b hb w
  have X2 := u8_xor_nat (fp 285 a 2) (fp 285 b 2) (fp8_lt _ _) (fp8_lt _ _)
  clear sq
  have c4 := gpow_int 0 n w (by decide)
  have c4 : Calls Try.prog 15 #[.int .u8 0, .int .i64 n] w fun e w' => e = .returned (.tuple #[.int .u8 (gp 0 n : Nat), .int .i64 (ge 0 n : Nat)]) ∧ w' = w := c4
  by_cases h0 : a = 0
  · have T1 : ((a : Int) == 0) = true := by simp; omega
    clear h0 hn1 hn2
    rcases Int.lt_trichotomy n 0 with h | h | h
    · rw [show gp 0 n = 0 by simp [gp]; omega, show ge 0 n = 20 by simp [ge]; omega] at c4
      have D1 : decide (0 < n) = false := by simp; omega
      have D2 : (n == 0) = false := by simp; omega
      have D3 : decide (n < 0) = true := by simp; omega
      clear h
      go_enter Try.func7, Try.ntmps7
      go_wp2_with (first | (go_at_call 10; ((with_reducible refine (c0).mono ?_); rintro e w' ⟨rfl, rfl⟩)) | (go_at_call 15; first | ((with_reducible refine (c1).mono ?_); rintro e w' ⟨rfl, rfl⟩) | ((with_reducible refine (c2).mono ?_); rintro e w' ⟨rfl, rfl⟩) | ((with_reducible refine (c3).mono ?_); rintro e w' ⟨rfl, rfl⟩) | ((with_reducible refine (c4).mono ?_); rintro e w' ⟨rfl, rfl⟩)))
      go_ret
      exact ⟨ret_bool (by simp), rfl⟩
    · rw [show gp 0 n = 1 by simp [gp]; omega, show ge 0 n = 0 by simp [ge]; omega] at c4
      have D1 : decide (0 < n) = false := by simp; omega
      have D2 : (n == 0) = true := by simp; omega
      have D3 : decide (n < 0) = false := by simp; omega
      clear h
      go_enter Try.func7, Try.ntmps7
      go_wp2_with (first | (go_at_call 10; ((with_reducible refine (c0).mono ?_); rintro e w' ⟨rfl, rfl⟩)) | (go_at_call 15; first | ((with_reducible refine (c1).mono ?_); rintro e w' ⟨rfl, rfl⟩) | ((with_reducible refine (c2).mono ?_); rintro e w' ⟨rfl, rfl⟩) | ((with_reducible refine (c3).mono ?_); rintro e w' ⟨rfl, rfl⟩) | ((with_reducible refine (c4).mono ?_); rintro e w' ⟨rfl, rfl⟩)))
      go_ret
      exact ⟨ret_bool (by simp), rfl⟩
    · rw [show gp 0 n = 0 by simp [gp]; omega, show ge 0 n = 0 by simp [ge]; omega] at c4
      have D1 : decide (0 < n) = true := by simp; omega
      have D2 : (n == 0) = false := by simp; omega
      have D3 : decide (n < 0) = false := by simp; omega
      clear h
      go_enter Try.func7, Try.ntmps7
      go_wp2_with (first | (go_at_call 10; ((with_reducible refine (c0).mono ?_); rintro e w' ⟨rfl, rfl⟩)) | (go_at_call 15; first | ((with_reducible refine (c1).mono ?_); rintro e w' ⟨rfl, rfl⟩) | ((with_reducible refine (c2).mono ?_); rintro e w' ⟨rfl, rfl⟩) | ((with_reducible refine (c3).mono ?_); rintro e w' ⟨rfl, rfl⟩) | ((with_reducible refine (c4).mono ?_); rintro e w' ⟨rfl, rfl⟩)))
      go_ret
      exact ⟨ret_bool (by simp), rfl⟩
  · have T1 : ((a : Int) == 0) = false := by simp; omega
    by_cases h1 : n = 9223372036854775807
    · subst h1
      rw [show gp 0 9223372036854775807 = 0 by decide, show ge 0 9223372036854775807 = 0 by decide] at c4
      clear h0
      go_enter Try.func7, Try.ntmps7
      go_wp2_with (first | (go_at_call 10; ((with_reducible refine (c0).mono ?_); rintro e w' ⟨rfl, rfl⟩)) | (go_at_call 15; first | ((with_reducible refine (c1).mono ?_); rintro e w' ⟨rfl, rfl⟩) | ((with_reducible refine (c2).mono ?_); rintro e w' ⟨rfl, rfl⟩) | ((with_reducible refine (c3).mono ?_); rintro e w' ⟨rfl, rfl⟩) | ((with_reducible refine (c4).mono ?_); rintro e w' ⟨rfl, rfl⟩)))
      go_ret
      exact ⟨rfl, rfl⟩
    · have T2 : (n == 9223372036854775807) = false := by simpa using h1
      by_cases h2 : n = -9223372036854775808
      · subst h2
        rw [show gp 0 (-9223372036854775808) = 0 by decide, show ge 0 (-9223372036854775808) = 20 by decide] at c4
        clear h0
        go_enter Try.func7, Try.ntmps7
        go_wp2_with (first | (go_at_call 10; ((with_reducible refine (c0).mono ?_); rintro e w' ⟨rfl, rfl⟩)) | (go_at_call 15; first | ((with_reducible refine (c1).mono ?_); rintro e w' ⟨rfl, rfl⟩) | ((with_reducible refine (c2).mono ?_); rintro e w' ⟨rfl, rfl⟩) | ((with_reducible refine (c3).mono ?_); rintro e w' ⟨rfl, rfl⟩) | ((with_reducible refine (c4).mono ?_); rintro e w' ⟨rfl, rfl⟩)))
        go_ret
        exact ⟨rfl, rfl⟩
      · have T3 : (n == -9223372036854775808) = false := by simpa using h2
        have c5 := gpow_int a n w ha
        have c6 := gpow_int a (n + 1) w ha
        have c7 := gpow_int a (-n) w ha
        have c8 := gpow_int a 255 w ha
        rw [gp_ne _ h0, ge_ne _ h0] at c5 c6 c7 c8
        rw [er_next ha h0] at c6
        rw [show er 255 = 0 by decide, fld8.fp_zero] at c8
        have c9 := gmul_nat (fp 285 a (er n)) a w (fp8_lt _ _) ha
        have c10 := gmul_nat (fp 285 a (er n)) (fp 285 a (er (-n))) w (fp8_lt _ _) (fp8_lt _ _)
        rw [er_opp ha h0] at c10
        have W1 : wrap64 (n + 1) = n + 1 := by unfold wrap64; omega
        have W2 : wrap64 (-n) = -n := by unfold wrap64; omega
        clear h0 h1 h2 hn1 hn2
        rcases Int.lt_trichotomy n 0 with h | h | h
        · rw [show gp 0 n = 0 by simp [gp]; omega, show ge 0 n = 20 by simp [ge]; omega] at c4
          have D1 : decide (0 < n) = false := by simp; omega
          have D2 : (n == 0) = false := by simp; omega
          have D3 : decide (n < 0) = true := by simp; omega
          clear h
          go_enter Try.func7, Try.ntmps7
          go_wp2_with (first | (go_at_call 10; ((with_reducible refine (c0).mono ?_); rintro e w' ⟨rfl, rfl⟩)) | (go_at_call 15; first | ((with_reducible refine (c1).mono ?_); rintro e w' ⟨rfl, rfl⟩) | ((with_reducible refine (c2).mono ?_); rintro e w' ⟨rfl, rfl⟩) | ((with_reducible refine (c3).mono ?_); rintro e w' ⟨rfl, rfl⟩) | ((with_reducible refine (c4).mono ?_); rintro e w' ⟨rfl, rfl⟩) | ((with_reducible refine (c5).mono ?_); rintro e w' ⟨rfl, rfl⟩) | ((with_reducible refine (c6).mono ?_); rintro e w' ⟨rfl, rfl⟩) | ((with_reducible refine (c7).mono ?_); rintro e w' ⟨rfl, rfl⟩) | ((with_reducible refine (c8).mono ?_); rintro e w' ⟨rfl, rfl⟩)) | (go_at_call 11; first | ((with_reducible refine (c9).mono ?_); rintro e w' ⟨rfl, rfl⟩) | ((with_reducible refine (c10).mono ?_); rintro e w' ⟨rfl, rfl⟩)))
          go_ret
          exact ⟨ret_bool (by simp), rfl⟩
        · rw [show gp 0 n = 1 by simp [gp]; omega, show ge 0 n = 0 by simp [ge]; omega] at c4
          have D1 : decide (0 < n) = false := by simp; omega
          have D2 : (n == 0) = true := by simp; omega
          have D3 : decide (n < 0) = false := by simp; omega
          clear h
          go_enter Try.func7, Try.ntmps7
          go_wp2_with (first | (go_at_call 10; ((with_reducible refine (c0).mono ?_); rintro e w' ⟨rfl, rfl⟩)) | (go_at_call 15; first | ((with_reducible refine (c1).mono ?_); rintro e w' ⟨rfl, rfl⟩) | ((with_reducible refine (c2).mono ?_); rintro e w' ⟨rfl, rfl⟩) | ((with_reducible refine (c3).mono ?_); rintro e w' ⟨rfl, rfl⟩) | ((with_reducible refine (c4).mono ?_); rintro e w' ⟨rfl, rfl⟩) | ((with_reducible refine (c5).mono ?_); rintro e w' ⟨rfl, rfl⟩) | ((with_reducible refine (c6).mono ?_); rintro e w' ⟨rfl, rfl⟩) | ((with_reducible refine (c7).mono ?_); rintro e w' ⟨rfl, rfl⟩) | ((with_reducible refine (c8).mono ?_); rintro e w' ⟨rfl, rfl⟩)) | (go_at_call 11; first | ((with_reducible refine (c9).mono ?_); rintro e w' ⟨rfl, rfl⟩) | ((with_reducible refine (c10).mono ?_); rintro e w' ⟨rfl, rfl⟩)))
          go_ret
          exact ⟨ret_bool (by simp), rfl⟩
        · rw [show gp 0 n = 0 by simp [gp]; omega, show ge 0 n = 0 by simp [ge]; omega] at c4
          have D1 : decide (0 < n) = true := by simp; omega
          have D2 : (n == 0) = false := by simp; omega
          have D3 : decide (n < 0) = false := by simp; omega
          clear h
          go_enter Try.func7, Try.ntmps7
          go_wp2_with (first | (go_at_call 10; ((with_reducible refine (c0).mono ?_); rintro e w' ⟨rfl, rfl⟩)) | (go_at_call 15; first | ((with_reducible refine (c1).mono ?_); rintro e w' ⟨rfl, rfl⟩) | ((with_reducible refine (c2).mono ?_); rintro e w' ⟨rfl, rfl⟩) | ((with_reducible refine (c3).mono ?_); rintro e w' ⟨rfl, rfl⟩) | ((with_reducible refine (c4).mono ?_); rintro e w' ⟨rfl, rfl⟩) | ((with_reducible refine (c5).mono ?_); rintro e w' ⟨rfl, rfl⟩) | ((with_reducible refine (c6).mono ?_); rintro e w' ⟨rfl, rfl⟩) | ((with_reducible refine (c7).mono ?_); rintro e w' ⟨rfl, rfl⟩) | ((with_reducible refine (c8).mono ?_); rintro e w' ⟨rfl, rfl⟩)) | (go_at_call 11; first | ((with_reducible refine (c9).mono ?_); rintro e w' ⟨rfl, rfl⟩) | ((with_reducible refine (c10).mono ?_); rintro e w' ⟨rfl, rfl⟩)))
          go_ret
          exact ⟨ret_bool (by simp), rfl⟩
end Go.Proofs.Ytnbpbdhncnagdaa
