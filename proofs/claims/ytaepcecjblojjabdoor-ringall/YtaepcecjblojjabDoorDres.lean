import Derived.Test.YtaepcecjblojjabDoorDgcd
namespace Go.Proofs.YtaepcecjblojjabDoor
open Go.RowKit Gf2

theorem shr_bit (A i : Nat) (hA : A < 18446744073709551616) : bits BinOp.and IntKind.u64 ((A : Int) / 2 ^ i) 1 = ((A / 2 ^ i % 2 : Nat) : Int) := by
  have e : ((A : Int) / 2 ^ i) = ((A / 2 ^ i : Nat) : Int) := by simp
  rw [e]
  exact and_one _ (Nat.lt_of_le_of_lt (Nat.div_le_self _ _) hA)
theorem shr_one {A i : Nat} (hA : A < 18446744073709551616) (h : A / 2 ^ i % 2 = 1) : (bits BinOp.and IntKind.u64 ((A : Int) / 2 ^ i) 1 == 1) = true := by
  rw [shr_bit A i hA, h]; rfl
theorem shr_not {A i : Nat} (hA : A < 18446744073709551616) (h : A / 2 ^ i % 2 ≠ 1) : (bits BinOp.and IntKind.u64 ((A : Int) / 2 ^ i) 1 == 1) = false := by
  rw [shr_bit A i hA]; exact beq1_false h

theorem rest_step {a A b i : Nat} (hb : b ≠ 0) (hl : len A ≤ i + 1) (hd : len b ≤ i + 1) (_hA : A < 18446744073709551616) (hi : i < 64)
    (e : pmod A b = pmod a b) (hbit : A / 2 ^ i % 2 = 1) :
    pmod (A ^^^ b * 2 ^ (i + 1 - len b)) b = pmod a b ∧ len (A ^^^ b * 2 ^ (i + 1 - len b)) ≤ i ∧ b * 2 ^ (i + 1 - len b) < 18446744073709551616 := by
  have hbl := len_pos.2 hb
  have hA1 : i < len A := by
    apply lt_len_of_testBit
    rw [bit_eq] at hbit
    cases hc : A.testBit i with
    | true => rfl
    | false => rw [hc] at hbit; cases hbit
  have el : len (b * 2 ^ (i + 1 - len b)) = i + 1 := by
    rw [← mul_shift, len_mul (by have := Nat.two_pow_pos (i + 1 - len b); omega) hb, len_two_pow]; omega
  have hne : b * 2 ^ (i + 1 - len b) ≠ 0 := by intro h0; rw [h0, len_zero] at el; omega
  refine ⟨?_, ?_, (len_le (n := 64)).1 (by omega)⟩
  · rw [pmod_xor_dist _ _ hb, e]
    have : pmod (b * 2 ^ (i + 1 - len b)) b = 0 := (pmod_eq_zero hb).2 ⟨2 ^ (i + 1 - len b), (mul_shift _ _).symm⟩
    rw [this, Nat.xor_zero]
  · have := len_xor_eq (a := A) (b := b * 2 ^ (i + 1 - len b)) (by omega) hne
    omega
theorem len_not_top {A i : Nat} (hl : len A ≤ i + 1) (hbit : A / 2 ^ i % 2 ≠ 1) : len A ≤ i := by
  rcases Nat.lt_or_ge i (len A) with h2 | h2
  · exfalso; apply hbit
    rw [bit_eq, testBit_top (by omega)]; rfl
  · exact h2

set_option maxHeartbeats 1000000 in
theorem rest_nat (a b : Nat) (w : World) (ha : a < 18446744073709551616) (hb : b < 18446744073709551616) (hb0 : b ≠ 0) :
    Calls Tryd.prog 56 #[.int .u64 (a : Int), .int .u64 (b : Int)] w fun e w' => e = .returned (.int .u64 (pmod a b : Nat)) ∧ w' = w := by
  have hbl := len_pos.2 hb0
  have hlb : len b ≤ 64 := len_le.2 hb
  have hla : len a ≤ 64 := len_le.2 ha
  go_enter Tryd.func56, Tryd.ntmps56
  go_wp2_with (go_at_call 22; refine (refDegree_nat _ _ (by assumption)).mono ?_; rintro e w1 ⟨rfl, rfl⟩)
  go_loop [0, 6] (fun x y => ∃ A k : Nat, A < 18446744073709551616 ∧ k ≤ 64 ∧ len A ≤ k ∧ pmod A b = pmod a b ∧ x = .int .u64 A ∧ y = .int .i64 ((k : Int) - 1)) (fun _ y => (intOf y + 1).toNat)
  case atStart => exact ⟨a, len a, ha, hla, Nat.le_refl _, rfl, rfl, rfl⟩
  case round =>
    obtain ⟨A, k, hA, hk, hl, he, rfl, rfl⟩ := hrel
    have HE : Hid (pmod A b = pmod a b) := he
    clear he
    by_cases hlt : len b ≤ k
    · obtain ⟨i, rfl⟩ : ∃ i, k = i + 1 := ⟨k - 1, by omega⟩
      have hi1 : (((i + 1 : Nat) : Int) - 1) = (i : Int) := by omega
      rw [hi1]
      by_cases hbit : A / 2 ^ i % 2 = 1
      · obtain ⟨r1, r2, r3⟩ := rest_step hb0 hl hlt hA (by omega) HE.out hbit
        have T := shr_one hA hbit
        have X := shift_xor A b (i + 1 - len b) hA r3
        have hx := xor_lt64 hA r3
        have hd : ((i : Int) - ((len b : Int) - 1)) = ((i + 1 - len b : Nat) : Int) := by omega
        have H1 : Hid (pmod (A ^^^ b * 2 ^ (i + 1 - len b)) b = pmod a b) := r1
        clear r1 hbit
        go_wp2
        go_round
        case rel => exact ⟨_, i, hx, by omega, r2, H1.out, rfl, by go_num⟩
        case measure => simp [intOf]
      · have T := shr_not hA hbit
        have hl2 := len_not_top hl hbit
        clear hbit
        go_wp2
        go_round
        case rel => exact ⟨A, i, hA, by omega, hl2, HE.out, rfl, by go_num⟩
        case measure => simp [intOf]
    · go_wp2
      go_ret
      exact ⟨ret_int (by rw [← HE.out, pmod_small (by omega)]), rfl⟩

theorem div_next (a i : Nat) : a / 2 ^ i = 2 * (a / 2 ^ (i + 1)) + a / 2 ^ i % 2 := (div_bit a i).symm
theorem times_step {a b p i r : Nat} (hp : p ≠ 0) (hr : r = pmod (mul (a / 2 ^ (i + 1)) b) p) : pmod (mul (a / 2 ^ i) b) p = pmod (2 * r) p ^^^ (if a / 2 ^ i % 2 = 1 then pmod b p else 0) := by
  have e : mul (a / 2 ^ i) b = (if a / 2 ^ i % 2 = 1 then b else 0) ^^^ 2 * mul (a / 2 ^ (i + 1)) b := by
    rw [mul_step (a / 2 ^ i) b, bits_step]
  rw [e, pmod_xor_dist _ _ hp, Nat.xor_comm]
  congr 1
  · rw [hr, ← mul_two_left, ← mul_two_left, pmod_mul_right _ _ hp]
  · split
    · rfl
    · exact pmod_small (by rw [len_zero]; exact len_pos.2 hp)

theorem pmod_lt_32 (a : Nat) {p : Nat} (hp : p ≠ 0) (h33 : len p ≤ 33) : pmod a p < 4294967296 := by
  have := len_pmod a hp
  exact (len_le (n := 32)).1 (by omega)

set_option maxHeartbeats 1000000 in
theorem refTimes_nat (a b p : Nat) (w : World) (ha : a < 18446744073709551616) (hb : b < 18446744073709551616) (hp : p < 18446744073709551616) (hp0 : p ≠ 0) (h33 : len p ≤ 33) :
    Calls Tryd.prog 49 #[.int .u64 (a : Int), .int .u64 (b : Int), .int .u64 (p : Int)] w fun e w' => e = .returned (.int .u64 (pmod (mul a b) p : Nat)) ∧ w' = w := by
  have hla : len a ≤ 64 := len_le.2 ha
  have hb2 := pmod_lt_32 b hp0 h33
  go_enter Tryd.func49, Tryd.ntmps49
  go_wp2_with (first | (go_at_call 56; refine (rest_nat _ _ _ hb hp hp0).mono ?_; rintro e w1 ⟨rfl, rfl⟩) | (go_at_call 22; refine (refDegree_nat _ _ ha).mono ?_; rintro e w1 ⟨rfl, rfl⟩))
  go_loop [7, 8] (fun x y => ∃ r k : Nat, r < 4294967296 ∧ k ≤ 64 ∧ r = pmod (mul (a / 2 ^ k) b) p ∧ x = .int .u64 r ∧ y = .int .i64 ((k : Int) - 1)) (fun _ y => (intOf y + 1).toNat)
  case atStart =>
    refine ⟨0, len a, by decide, hla, ?_, rfl, rfl⟩
    rw [Nat.div_eq_of_lt (lt_two_pow_len a), zero_mul]
    exact (pmod_small (by rw [len_zero]; exact len_pos.2 hp0)).symm
  case round =>
    obtain ⟨r, k, hr, hk, he, rfl, rfl⟩ := hrel
    have HE : Hid (r = pmod (mul (a / 2 ^ k) b) p) := he
    clear he
    by_cases hlt : 0 < k
    · obtain ⟨i, rfl⟩ : ∃ i, k = i + 1 := ⟨k - 1, by omega⟩
      have hi1 : (((i + 1 : Nat) : Int) - 1) = (i : Int) := by omega
      rw [hi1]
      have hr2 := pmod_lt_32 (2 * r) hp0 h33
      have c1 : ∀ w, Calls Tryd.prog 56 #[.int .u64 (2 * (r : Int)), .int .u64 (p : Int)] w fun e w' => e = .returned (.int .u64 (pmod (2 * r) p : Nat)) ∧ w' = w := fun w => rest_nat (2 * r) p w (by omega) hp hp0
      have w2 : IntKind.u64.wrap (2 * (r : Int)) = 2 * (r : Int) := by rw [IntKind.wrap_u64]; omega
      by_cases hbit : a / 2 ^ i % 2 = 1
      · have T := shr_one ha hbit
        have HS : Hid (pmod (mul (a / 2 ^ i) b) p = pmod (2 * r) p ^^^ pmod b p) := by
          show pmod (mul (a / 2 ^ i) b) p = pmod (2 * r) p ^^^ pmod b p
          rw [times_step hp0 HE.out, if_pos hbit]
        have X := u64_xor_nat (pmod (2 * r) p) (pmod b p) (by omega) (by omega)
        have hx : pmod (2 * r) p ^^^ pmod b p < 4294967296 := Nat.xor_lt_two_pow (n := 32) hr2 hb2
        clear hbit
        go_wp2_with (go_at_call 56; with_reducible refine (c1 _).mono ?_; rintro e w1 ⟨rfl, rfl⟩)
        go_round
        case rel => exact ⟨_, i, hx, by omega, HS.out.symm, rfl, by go_num⟩
        case measure => simp [intOf]
      · have T := shr_not ha hbit
        have HS : Hid (pmod (mul (a / 2 ^ i) b) p = pmod (2 * r) p) := by
          show pmod (mul (a / 2 ^ i) b) p = pmod (2 * r) p
          rw [times_step hp0 HE.out, if_neg hbit, Nat.xor_zero]
        clear hbit
        go_wp2_with (go_at_call 56; with_reducible refine (c1 _).mono ?_; rintro e w1 ⟨rfl, rfl⟩)
        go_round
        case rel => exact ⟨_, i, hr2, by omega, HS.out.symm, rfl, by go_num⟩
        case measure => simp [intOf]
    · go_wp2
      go_ret
      have hk0 : k = 0 := by omega
      subst hk0
      have e := HE.out
      rw [Nat.pow_zero, Nat.div_one] at e
      exact ⟨ret_int (by rw [e]), rfl⟩

set_option maxHeartbeats 400000 in
theorem modulus_nat (p g : Nat) (w : World) (hp : p < 18446744073709551616) :
    Calls Tryd.prog 48 #[.int .u64 (p : Int), .int .i64 (g : Int)] w fun e w' => e = .returned (.bool (isMod p g)) ∧ w' = w := by
  have hlp : len p ≤ 64 := len_le.2 hp
  by_cases h1 : 2 ≤ len p
  · by_cases h2 : len p ≤ g + 1
    · have e : isMod p g = true := by simp [isMod, h1, h2]
      rw [e]; clear e
      go_enter Tryd.func48, Tryd.ntmps48
      go_wp2_with (go_at_call 22; refine (refDegree_nat _ _ hp).mono ?_; rintro e w' ⟨rfl, rfl⟩)
      go_ret
      exact ⟨ret_bool (by simp; omega), rfl⟩
    · have e : isMod p g = false := by simp [isMod, h2]
      rw [e]; clear e
      go_enter Tryd.func48, Tryd.ntmps48
      go_wp2_with (go_at_call 22; refine (refDegree_nat _ _ hp).mono ?_; rintro e w' ⟨rfl, rfl⟩)
      go_ret
      exact ⟨ret_bool (by simp; omega), rfl⟩
  · have e : isMod p g = false := by simp [isMod, h1]
    rw [e]; clear e
    go_enter Tryd.func48, Tryd.ntmps48
    go_wp2_with (go_at_call 22; refine (refDegree_nat _ _ hp).mono ?_; rintro e w' ⟨rfl, rfl⟩)
    go_ret
    exact ⟨rfl, rfl⟩

set_option maxHeartbeats 400000 in
theorem refMulMod_yes (a b p : Nat) (w : World) (ha : a < 18446744073709551616) (hb : b < 18446744073709551616) (hp : p < 18446744073709551616) (h : isMod p 32 = true) :
    Calls Tryd.prog 29 #[.int .u64 (a : Int), .int .u64 (b : Int), .int .u64 (p : Int)] w fun e w' => e = .returned (.tuple #[.int .u64 (pmod (mul a b) p : Nat), .int .i64 0]) ∧ w' = w := by
  have hp0 := isMod_ne h
  have hm := isMod_true h
  go_enter Tryd.func29, Tryd.ntmps29
  go_wp2_with (first | (go_at_call 48; refine (modulus_nat _ 32 _ hp).mono ?_; rw [h]; rintro e w' ⟨rfl, rfl⟩) | (go_at_call 49; refine (refTimes_nat _ _ _ _ ha hb hp hp0 hm.2).mono ?_; rintro e w' ⟨rfl, rfl⟩))
  go_ret2
  exact ⟨rfl, rfl⟩
set_option maxHeartbeats 400000 in
theorem refMulMod_no (a b p : Nat) (w : World) (hp : p < 18446744073709551616) (h : isMod p 32 = false) :
    Calls Tryd.prog 29 #[.int .u64 (a : Int), .int .u64 (b : Int), .int .u64 (p : Int)] w fun e w' => e = .returned (.tuple #[.int .u64 0, .int .i64 11]) ∧ w' = w := by
  go_enter Tryd.func29, Tryd.ntmps29
  go_wp2_with (go_at_call 48; refine (modulus_nat _ 32 _ hp).mono ?_; rw [h]; rintro e w' ⟨rfl, rfl⟩)
  go_ret2
  exact ⟨rfl, rfl⟩
set_option maxHeartbeats 400000 in
theorem refPowMod_no (a n p : Nat) (w : World) (hp : p < 18446744073709551616) (h : isMod p 32 = false) :
    Calls Tryd.prog 31 #[.int .u64 (a : Int), .int .u64 (n : Int), .int .u64 (p : Int)] w fun e w' => e = .returned (.tuple #[.int .u64 0, .int .i64 11]) ∧ w' = w := by
  go_enter Tryd.func31, Tryd.ntmps31
  go_wp2_with (go_at_call 48; refine (modulus_nat _ 32 _ hp).mono ?_; rw [h]; rintro e w' ⟨rfl, rfl⟩)
  go_ret2
  exact ⟨rfl, rfl⟩

theorem pow_step {a n i p r : Nat} (hp : p ≠ 0) (hr : r = pmod (pw a (n / 2 ^ (i + 1))) p) :
    pmod (pw a (n / 2 ^ i)) p = if n / 2 ^ i % 2 = 1 then pmod (mul (pmod (mul r r) p) a) p else pmod (mul r r) p := by
  have e := div_next n i
  have ht : n / 2 ^ i % 2 < 2 := Nat.mod_lt _ (by decide)
  generalize n / 2 ^ i % 2 = t at *
  generalize n / 2 ^ (i + 1) = m at *
  rw [e, pw_add, Nat.mul_comm, pw_mul, pw_two]
  have e2 : pmod (mul r r) p = pmod (mul (pw a m) (pw a m)) p := by rw [hr, pmod_mul_both _ _ hp]
  by_cases h1 : t = 1
  · rw [if_pos h1, h1, pw_one, e2, pmod_mul_left _ _ hp]
  · have h0 : t = 0 := by omega
    rw [if_neg h1, h0, e2]
    simp only [pw, mul_one]

set_option maxHeartbeats 1000000 in
theorem refPowMod_yes (a n p : Nat) (w : World) (ha : a < 18446744073709551616) (hn : n < 18446744073709551616) (hp : p < 18446744073709551616) (h : isMod p 32 = true) :
    Calls Tryd.prog 31 #[.int .u64 (a : Int), .int .u64 (n : Int), .int .u64 (p : Int)] w fun e w' => e = .returned (.tuple #[.int .u64 (pmod (pw a n) p : Nat), .int .i64 0]) ∧ w' = w := by
  have hp0 := isMod_ne h
  have hm := isMod_true h
  have hln : len n ≤ 64 := len_le.2 hn
  go_enter Tryd.func31, Tryd.ntmps31
  go_wp2_with (first | (go_at_call 48; refine (modulus_nat _ 32 _ hp).mono ?_; rw [h]; rintro e w' ⟨rfl, rfl⟩) | (go_at_call 22; refine (refDegree_nat _ _ hn).mono ?_; rintro e w1 ⟨rfl, rfl⟩))
  go_loop [8, 9] (fun x y => ∃ r k : Nat, r < 4294967296 ∧ k ≤ 64 ∧ r = pmod (pw a (n / 2 ^ k)) p ∧ x = .int .u64 r ∧ y = .int .i64 ((k : Int) - 1)) (fun _ y => (intOf y + 1).toNat)
  case atStart =>
    refine ⟨1, len n, by decide, hln, ?_, rfl, rfl⟩
    rw [Nat.div_eq_of_lt (lt_two_pow_len n)]
    exact (pmod_small (by show len 1 < len p; rw [len_one]; omega)).symm
  case round =>
    obtain ⟨r, k, hr, hk, he, rfl, rfl⟩ := hrel
    have HE : Hid (r = pmod (pw a (n / 2 ^ k)) p) := he
    clear he
    by_cases hlt : 0 < k
    · obtain ⟨i, rfl⟩ : ∃ i, k = i + 1 := ⟨k - 1, by omega⟩
      have hi1 : (((i + 1 : Nat) : Int) - 1) = (i : Int) := by omega
      rw [hi1]
      have hr2 := pmod_lt_32 (mul r r) hp0 hm.2
      have hr3 := pmod_lt_32 (mul (pmod (mul r r) p) a) hp0 hm.2
      have c1 := fun w => refTimes_nat r r p w (by omega) (by omega) hp hp0 hm.2
      have c2 := fun w => refTimes_nat (pmod (mul r r) p) a p w (by omega) ha hp hp0 hm.2
      by_cases hbit : n / 2 ^ i % 2 = 1
      · have T := shr_one hn hbit
        have HS : Hid (pmod (pw a (n / 2 ^ i)) p = pmod (mul (pmod (mul r r) p) a) p) := by
          show pmod (pw a (n / 2 ^ i)) p = pmod (mul (pmod (mul r r) p) a) p
          rw [pow_step hp0 HE.out, if_pos hbit]
        clear hbit
        go_wp2_with (go_at_call 49; first | (with_reducible refine (c1 _).mono ?_; rintro e w1 ⟨rfl, rfl⟩) | (with_reducible refine (c2 _).mono ?_; rintro e w1 ⟨rfl, rfl⟩))
        go_round
        case rel => exact ⟨_, i, hr3, by omega, HS.out.symm, rfl, by go_num⟩
        case measure => simp [intOf]
      · have T := shr_not hn hbit
        have HS : Hid (pmod (pw a (n / 2 ^ i)) p = pmod (mul r r) p) := by
          show pmod (pw a (n / 2 ^ i)) p = pmod (mul r r) p
          rw [pow_step hp0 HE.out, if_neg hbit]
        clear hbit
        go_wp2_with (go_at_call 49; with_reducible refine (c1 _).mono ?_; rintro e w1 ⟨rfl, rfl⟩)
        go_round
        case rel => exact ⟨_, i, hr2, by omega, HS.out.symm, rfl, by go_num⟩
        case measure => simp [intOf]
    · have hk0 : k = 0 := by omega
      subst hk0
      have e := HE.out
      rw [Nat.pow_zero, Nat.div_one] at e
      have HE2 : Hid (r = pmod (pw a n) p) := e
      clear e
      go_wp2
      go_ret2
      rw [← HE2.out]
      exact ⟨rfl, rfl⟩
end Go.Proofs.YtaepcecjblojjabDoor
