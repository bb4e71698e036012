import Derived.Test.YtaepcecjblojjacWalke
namespace Go.Proofs.Ytaepcecjblojjac
open Go.RowKit Gf2

set_option maxRecDepth 100000 in
set_option maxHeartbeats 1000000 in
theorem ringOrders_out (a p : Nat) (w : World) (hp : p < 18446744073709551616) (h : isMod p 16 = false) :
    Calls Try.prog 4 #[.int .u64 (a : Int), .int .u64 (p : Int)] w fun e w' => e = .returned (.bool true) ∧ w' = w := by
  have c0 : Calls Try.prog 7 #[.int .u64 2, .int .u64 285] w fun e w' => e = .returned (.tuple #[.int .i64 255, .int .i64 0]) ∧ w' = w :=
    order_yes 2 285 255 w (by decide) (by decide) (by decide) (by decide) ord_8 (by decide)
  have c1 := order_no a p w hp h
  have c2 := primitive_no p w hp h
  have c3 := high_nat p w hp
  have hl : len p ≤ 64 := len_le.2 hp
  have hm := isMod_false h
  clear h
  by_cases h1 : len p ≤ 1
  · have D1 : decide ((len p : Int) - 1 < 1) = true := by simp; omega
    go_enter Try.func4, Try.ntmps4
    go_wp2_with (first | (go_at_call 7; first | (with_reducible refine c0.mono ?_; rintro e w' ⟨rfl, rfl⟩) | (with_reducible refine c1.mono ?_; rintro e w' ⟨rfl, rfl⟩)) | (go_at_call 8; with_reducible refine c2.mono ?_; rintro e w' ⟨rfl, rfl⟩) | (go_at_call 5; with_reducible refine c3.mono ?_; rintro e w' ⟨rfl, rfl⟩))
    go_ret
    exact ⟨rfl, rfl⟩
  · have D1 : decide ((len p : Int) - 1 < 1) = false := by simp; omega
    have D2 : decide (16 < (len p : Int) - 1) = true := by simp; omega
    go_enter Try.func4, Try.ntmps4
    go_wp2_with (first | (go_at_call 7; first | (with_reducible refine c0.mono ?_; rintro e w' ⟨rfl, rfl⟩) | (with_reducible refine c1.mono ?_; rintro e w' ⟨rfl, rfl⟩)) | (go_at_call 8; with_reducible refine c2.mono ?_; rintro e w' ⟨rfl, rfl⟩) | (go_at_call 5; with_reducible refine c3.mono ?_; rintro e w' ⟨rfl, rfl⟩))
    go_ret
    exact ⟨rfl, rfl⟩

set_option maxRecDepth 100000 in
set_option maxHeartbeats 1000000 in
theorem ringOrders_none (a p : Nat) (w : World) (ha : a < 18446744073709551616) (hp : p < 18446744073709551616) (h : isMod p 16 = true) (hg : pgcd a p ≠ 1) :
    Calls Try.prog 4 #[.int .u64 (a : Int), .int .u64 (p : Int)] w fun e w' => e = .returned (.bool true) ∧ w' = w := by
  have c0 : Calls Try.prog 7 #[.int .u64 2, .int .u64 285] w fun e w' => e = .returned (.tuple #[.int .i64 255, .int .i64 0]) ∧ w' = w :=
    order_yes 2 285 255 w (by decide) (by decide) (by decide) (by decide) ord_8 (by decide)
  have c1 := order_none a p w ha hp h hg
  have c3 := high_nat p w hp
  have c4 := gcd_nat a p w ha hp
  have T : (((pgcd a p : Nat) : Int) != 1) = true := by simp; omega
  have hl : len p ≤ 64 := len_le.2 hp
  have hm := isMod_true h
  clear h hg
  have D1 : decide ((len p : Int) - 1 < 1) = false := by simp; omega
  have D2 : decide (16 < (len p : Int) - 1) = false := by simp; omega
  go_enter Try.func4, Try.ntmps4
  go_wp2_with (first | (go_at_call 7; first | (with_reducible refine c0.mono ?_; rintro e w' ⟨rfl, rfl⟩) | (with_reducible refine c1.mono ?_; rintro e w' ⟨rfl, rfl⟩)) | (go_at_call 5; with_reducible refine c3.mono ?_; rintro e w' ⟨rfl, rfl⟩) | (go_at_call 9; with_reducible refine c4.mono ?_; rintro e w' ⟨rfl, rfl⟩))
  go_ret
  exact ⟨rfl, rfl⟩

def allN (p : Nat) : Nat := 2 ^ (len p - 1) - 1
theorem allN_le {p : Nat} (h1 : 2 ≤ len p) (h2 : len p ≤ 17) : allN p ≤ 65535 ∧ 1 ≤ allN p := by
  have := pow_bound h1 h2
  unfold allN; omega
theorem primB_all {p o : Nat} : (((o : Nat) : Int) == ((allN p : Nat) : Int)) = primB p o := by
  rw [Bool.eq_iff_iff]
  unfold primB allN
  simp only [beq_iff_eq, decide_eq_true_eq]
  omega

set_option maxRecDepth 100000 in
set_option maxHeartbeats 2000000 in
theorem ringOrders_yes (a p n o ee : Nat) (w : World) (ha : a < 18446744073709551616) (hp : p < 18446744073709551616) (h : isMod p 16 = true) (hg : pgcd a p = 1) (hn : IsOrd a p n) (hb : n ≤ 65535)
    (c6 : Calls Try.prog 7 #[.int .u64 2, .int .u64 (p : Int)] w fun e w' => e = .returned (.tuple #[.int .i64 (o : Int), .int .i64 (ee : Int)]) ∧ w' = w) :
    Calls Try.prog 4 #[.int .u64 (a : Int), .int .u64 (p : Int)] w fun e w' => e = .returned (.bool true) ∧ w' = w := by
  have c0 : Calls Try.prog 7 #[.int .u64 2, .int .u64 285] w fun e w' => e = .returned (.tuple #[.int .i64 255, .int .i64 0]) ∧ w' = w :=
    order_yes 2 285 255 w (by decide) (by decide) (by decide) (by decide) ord_8 (by decide)
  have c1 := order_yes a p n w ha hp h hg hn hb
  have c3 := high_nat p w hp
  have c4 := gcd_nat a p w ha hp
  rw [hg] at c4
  have c4 : Calls Try.prog 9 #[.int .u64 (a : Int), .int .u64 (p : Int)] w fun e w' => e = .returned (.int .u64 1) ∧ w' = w := c4
  have hl : len p ≤ 64 := len_le.2 hp
  have hm := isMod_true h
  have h32 := isMod_16_32 h
  have c5 := powmod_yes a n p w ha (by omega) hp h32
  rw [powM_spec hm.1 (by omega), hn.2.1] at c5
  have c5 : Calls Try.prog 10 #[.int .u64 (a : Int), .int .u64 (n : Int), .int .u64 (p : Int)] w fun e w' => e = .returned (.tuple #[.int .u64 1, .int .i64 0]) ∧ w' = w := c5
  have hn1 := hn.1
  have D1 : decide ((len p : Int) - 1 < 1) = false := by simp; omega
  have D2 : decide (16 < (len p : Int) - 1) = false := by simp; omega
  have D3 : decide ((n : Int) < 1) = false := by simp; omega
  have D4 : decide ((65536 : Int) ≤ n) = false := by simp; omega
  have c7 := irreducible_yes p w hp h32
  have c8 : irr p = true → Calls Try.prog 8 #[.int .u64 (p : Int)] w fun e w' => e = .returned (.tuple #[.bool (primB p o), .int .i64 0]) ∧ w' = w := fun hi => primitive_irr p o ee w hp h hi c6
  have c9 : irr p = false → Calls Try.prog 8 #[.int .u64 (p : Int)] w fun e w' => e = .returned (.tuple #[.bool false, .int .i64 0]) ∧ w' = w := fun hi => primitive_red p w hp h hi
  have c10 : ∀ q : Nat, Calls Try.prog 10 #[.int .u64 (a : Int), .int .u64 ((n : Int) / (q : Int)), .int .u64 (p : Int)] w fun e w' => e = .returned (.tuple #[.int .u64 ((pmod (pw a (n / q)) p : Nat) : Int), .int .i64 0]) ∧ w' = w := by
    intro q
    have h := powmod_yes a (n / q) p w ha (by have := Nat.div_le_self n q; omega) hp h32
    rw [powM_spec hm.1 (by omega)] at h
    exact h
  have ha1 := allN_le hm.1 hm.2
  have hall : wrap64 (wrap64 (2 ^ (len p - 1)) - 1) = ((allN p : Nat) : Int) := wrap_all hm.1 hm.2
  have HD : Hid (irr p = true → allN p % n = 0) := by
    show irr p = true → allN p % n = 0
    intro hi
    have hI := irr_sound hm.1 (by omega) hi
    have hdv : ¬ dv p a := by
      intro hdv
      have h1 := dv_pgcd hdv (dv_refl p)
      rw [hg] at h1
      have := dv_one h1
      rw [this, len_one] at hm; omega
    exact ord_dvd hI.ne hm.1 hn (fermat hI (by omega) hdv)
  clear hg
  go_enter Try.func4, Try.ntmps4
  go_wp2_with (first | (go_at_call 7; first | (with_reducible refine c0.mono ?_; rintro e w' ⟨rfl, rfl⟩) | (with_reducible refine c1.mono ?_; rintro e w' ⟨rfl, rfl⟩)) | (go_at_call 5; with_reducible refine c3.mono ?_; rintro e w' ⟨rfl, rfl⟩) | (go_at_call 9; with_reducible refine c4.mono ?_; rintro e w' ⟨rfl, rfl⟩) | (go_at_call 10; with_reducible refine c5.mono ?_; rintro e w' ⟨rfl, rfl⟩))
  go_loop [12, 13] (fun x y => ∃ m q : Nat, 1 ≤ m ∧ m ≤ n ∧ 2 ≤ q ∧ q ≤ n + 2 ∧ x = .int .i64 m ∧ y = .int .i64 q) (fun _ y => n + 3 - (intOf y).toNat)
  case atStart => exact ⟨n, 2, hn1, Nat.le_refl _, by decide, by omega, rfl, rfl⟩
  case round =>
    obtain ⟨m, q, m1, m2, q1, q2, rfl, rfl⟩ := hrel
    by_cases hq : q ≤ m
    · by_cases hd : m % q = 0
      · have T : (((m : Int) % (q : Int)) != 0) = false := by
          have e : (m : Int) % (q : Int) = ((m % q : Nat) : Int) := by rw [Int.natCast_emod]
          rw [e, hd]; rfl
        have hne : pmod (pw a (n / q)) p ≠ 1 := by
          apply hn.2.2
          · rw [Nat.le_div_iff_mul_le (by omega)]; omega
          · exact Nat.div_lt_self (by omega) (by omega)
        have T2 : (((pmod (pw a (n / q)) p : Nat) : Int) == 1) = false := by simp; omega
        have c11 := c10 q
        have g1 : 0 ≤ (n : Int) / (q : Int) := by
          have e : (n : Int) / (q : Int) = ((n / q : Nat) : Int) := by rw [Int.natCast_ediv]
          rw [e]; exact Int.natCast_nonneg _
        have g2 : (n : Int) / (q : Int) ≤ 65535 := by
          have e : (n : Int) / (q : Int) = ((n / q : Nat) : Int) := by rw [Int.natCast_ediv]
          have h3 : n / q ≤ 65535 := Nat.le_trans (Nat.div_le_self n q) hb
          rw [e]; exact Int.ofNat_le.2 h3
        clear hd hne c10
        go_wp2
        go_loop [12] (fun x => ∃ m : Nat, 1 ≤ m ∧ m ≤ n ∧ x = .int .i64 m) (fun x => (intOf x).toNat)
        case atStart => exact ⟨m, m1, m2, rfl⟩
        case round =>
          obtain ⟨r, r1, r2, rfl⟩ := hrel
          by_cases hd : r % q = 0
          · have T : (((r : Int) % (q : Int)) == 0) = true := by
              have e : (r : Int) % (q : Int) = ((r % q : Nat) : Int) := by rw [Int.natCast_emod]
              rw [e, hd]; rfl
            have hqr : q ≤ r := by
              apply Classical.byContradiction
              intro hc
              rw [Nat.mod_eq_of_lt (by omega)] at hd; omega
            have k1 : 1 ≤ r / q := by rw [Nat.le_div_iff_mul_le (by omega)]; omega
            have k2 : r / q < r := Nat.div_lt_self (by omega) (by omega)
            clear hd
            go_wp2
            go_round
            case rel => exact ⟨r / q, k1, by omega, by rw [Int.natCast_ediv]⟩
            case measure =>
              simp only [intOf]
              have e : (r : Int) / (q : Int) = ((r / q : Nat) : Int) := by rw [Int.natCast_ediv]
              rw [e]; omega
          · have T : (((r : Int) % (q : Int)) == 0) = false := by
              have e : (r : Int) % (q : Int) = ((r % q : Nat) : Int) := by rw [Int.natCast_emod]
              rw [e]; simp; omega
            clear hd
            go_wp2_with (go_at_call 10; with_reducible refine c11.mono ?_; rintro e w' ⟨rfl, rfl⟩)
            go_round
            case rel => exact ⟨r, q + 1, r1, r2, by omega, by omega, rfl, by go_num⟩
            case measure => simp [intOf]; omega
      · have T : (((m : Int) % (q : Int)) != 0) = true := by
          have e : (m : Int) % (q : Int) = ((m % q : Nat) : Int) := by rw [Int.natCast_emod]
          rw [e]; simp; omega
        clear hd
        go_wp2
        go_round
        case rel => exact ⟨m, q + 1, m1, m2, by omega, by omega, rfl, by go_num⟩
        case measure => simp [intOf]; omega
    · clear c10
      have pb := @primB_all p o
      cases hi : irr p with
      | true =>
        have c12 := c8 hi
        have hx := HD.out hi
        rw [hi] at c7
        have T : (((allN p : Nat) : Int) % (n : Int) != 0) = false := by
          have e : ((allN p : Nat) : Int) % (n : Int) = ((allN p % n : Nat) : Int) := by rw [Int.natCast_emod]
          rw [e, hx]; rfl
        clear c8 c9 hi hx
        go_wp2_with (first | (go_at_call 6; with_reducible refine c7.mono ?_; rintro e w' ⟨rfl, rfl⟩) | (go_at_call 7; with_reducible refine c6.mono ?_; rintro e w' ⟨rfl, rfl⟩) | (go_at_call 8; with_reducible refine c12.mono ?_; rintro e w' ⟨rfl, rfl⟩))
        go_ret
        exact ⟨ret_bool (by simp), rfl⟩
      | false =>
        have c12 := c9 hi
        rw [hi] at c7
        clear c8 c9 hi
        go_wp2_with (first | (go_at_call 6; with_reducible refine c7.mono ?_; rintro e w' ⟨rfl, rfl⟩) | (go_at_call 7; with_reducible refine c6.mono ?_; rintro e w' ⟨rfl, rfl⟩) | (go_at_call 8; with_reducible refine c12.mono ?_; rintro e w' ⟨rfl, rfl⟩))
        go_ret
        exact ⟨rfl, rfl⟩

theorem ringOrders_any (a p : Nat) (w : World) (ha : a < 18446744073709551616) (hp : p < 18446744073709551616) :
    Calls Try.prog 4 #[.int .u64 (a : Int), .int .u64 (p : Int)] w fun e w' => e = .returned (.bool true) ∧ w' = w := by
  cases h : isMod p 16 with
  | false => exact ringOrders_out a p w hp h
  | true =>
    by_cases hg : pgcd a p = 1
    · have hm := isMod_true h
      obtain ⟨n, hn, hb⟩ := ord_exists hm.1 (by omega) hg
      obtain ⟨o, ee, _, c6⟩ := order_some 2 p w (by decide) hp
      have := pow_bound hm.1 hm.2
      exact ringOrders_yes a p n o ee w ha hp h hg hn (by omega) c6
    · exact ringOrders_none a p w ha hp h hg
end Go.Proofs.Ytaepcecjblojjac
