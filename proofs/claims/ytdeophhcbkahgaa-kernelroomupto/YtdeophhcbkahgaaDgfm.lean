import Derived.Test.YtdeophhcbkahgaaWalkg
namespace Go.Proofs.Ytdeophhcbkahgaa
open Go.RowKit Gf2

theorem bit8_eq (a i : Nat) : a / 2 ^ i % 2 = (a.testBit i).toNat := by
  rw [Nat.testBit_eq_decide_div_mod_eq]
  have := Nat.mod_two_eq_zero_or_one (a / 2 ^ i)
  rcases this with h | h <;> simp [h]
theorem low_step (b k : Nat) : b % 2 ^ (k + 1) = b % 2 ^ k ^^^ (if b / 2 ^ k % 2 = 1 then 2 ^ k else 0) := by
  apply Nat.eq_of_testBit_eq
  intro i
  rw [Nat.testBit_xor, Nat.testBit_mod_two_pow, Nat.testBit_mod_two_pow, bit8_eq]
  by_cases h : i = k
  · subst h
    cases hb : b.testBit i <;> simp
  · have h3 : (if (b.testBit k).toNat = 1 then 2 ^ k else 0).testBit i = false := by
      split
      · rw [Nat.testBit_two_pow]; simp; omega
      · simp
    rw [h3]
    by_cases h1 : i < k
    · simp [h1, show i < k + 1 by omega]
    · simp [h1, show ¬ i < k + 1 by omega]
theorem mul_low (a b k : Nat) : mul (b % 2 ^ (k + 1)) a = mul (b % 2 ^ k) a ^^^ (if b / 2 ^ k % 2 = 1 then a * 2 ^ k else 0) := by
  rw [low_step, xor_mul]
  congr 1
  split
  · exact mul_shift k a
  · exact zero_mul a
theorem red_step {A b i c : Nat} (hb : b ≠ 0) (hl : len A ≤ i + 1) (hd : len b ≤ i + 1) (e : pmod A b = c) (hbit : A / 2 ^ i % 2 = 1) :
    pmod (A ^^^ b * 2 ^ (i + 1 - len b)) b = c ∧ len (A ^^^ b * 2 ^ (i + 1 - len b)) ≤ i := by
  have hbl := len_pos.2 hb
  have hA1 : i < len A := by
    apply lt_len_of_testBit
    rw [bit8_eq] at hbit
    cases hc : A.testBit i with
    | true => rfl
    | false => rw [hc] at hbit; cases hbit
  have el : len (b * 2 ^ (i + 1 - len b)) = i + 1 := by
    rw [← mul_shift, len_mul (by have := Nat.two_pow_pos (i + 1 - len b); omega) hb, len_two_pow]; omega
  have hne : b * 2 ^ (i + 1 - len b) ≠ 0 := by intro h0; rw [h0, len_zero] at el; omega
  refine ⟨?_, ?_⟩
  · rw [pmod_xor_dist _ _ hb, e]
    have : pmod (b * 2 ^ (i + 1 - len b)) b = 0 := (pmod_eq_zero hb).2 ⟨2 ^ (i + 1 - len b), (mul_shift _ _).symm⟩
    rw [this, Nat.xor_zero]
  · have := len_xor_eq (a := A) (b := b * 2 ^ (i + 1 - len b)) (by omega) hne
    omega
theorem red_not {A i : Nat} (hl : len A ≤ i + 1) (hbit : A / 2 ^ i % 2 ≠ 1) : len A ≤ i := by
  rcases Nat.lt_or_ge i (len A) with h2 | h2
  · exfalso; apply hbit
    rw [bit8_eq, testBit_top (by omega)]; rfl
  · exact h2

theorem and8 (b k : Nat) (hb : b < 256) : bits BinOp.and IntKind.u8 ((b : Int) / 2 ^ k) 1 = ((b / 2 ^ k % 2 : Nat) : Int) := by
  have e : ((b : Int) / 2 ^ k) = ((b / 2 ^ k : Nat) : Int) := by simp
  rw [e]
  have h := u8_and_nat (b / 2 ^ k) 1 (Nat.lt_of_le_of_lt (Nat.div_le_self _ _) hb) (by decide)
  rw [nat_mask1] at h
  exact h
theorem and64 (b k : Nat) (hb : b < 9223372036854775808) : bits BinOp.and IntKind.i64 ((b : Int) / 2 ^ k) 1 = ((b / 2 ^ k % 2 : Nat) : Int) := by
  have e : ((b : Int) / 2 ^ k) = ((b / 2 ^ k : Nat) : Int) := by simp
  rw [e]
  have h := i64_and_nat (b / 2 ^ k) 1 (Nat.lt_of_le_of_lt (Nat.div_le_self _ _) hb) (by decide)
  rw [nat_mask1] at h
  exact h

theorem shl_xor {P a k : Nat} (hP : P < 65536) (hk : a * 2 ^ k < 65536) :
    bits BinOp.xor IntKind.i64 (P : Int) (wrap64 ((a : Int) * 2 ^ k)) = ((P ^^^ a * 2 ^ k : Nat) : Int) ∧ P ^^^ a * 2 ^ k < 65536 := by
  have e : ((a : Int) * 2 ^ k) = ((a * 2 ^ k : Nat) : Int) := by simp
  have e2 : wrap64 ((a * 2 ^ k : Nat) : Int) = ((a * 2 ^ k : Nat) : Int) := by unfold wrap64; omega
  rw [e, e2, i64_xor_nat _ _ (by omega) (by omega)]
  exact ⟨rfl, Nat.xor_lt_two_pow (n := 16) hP hk⟩
theorem shl_lt {a k : Nat} (ha : a < 256) (hk : k ≤ 8) : a * 2 ^ k < 65536 := by
  have h : 2 ^ k ≤ 2 ^ 8 := Nat.pow_le_pow_right (by decide) hk
  have : a * 2 ^ k ≤ 255 * 2 ^ 8 := Nat.mul_le_mul (by omega) h
  omega
theorem shl_285 {k : Nat} (hk : k ≤ 7) : 285 * 2 ^ k < 65536 := by
  have h : 2 ^ k ≤ 2 ^ 7 := Nat.pow_le_pow_right (by decide) hk
  have : 285 * 2 ^ k ≤ 285 * 2 ^ 7 := Nat.mul_le_mul (Nat.le_refl _) h
  omega

set_option maxHeartbeats 2000000 in
set_option maxRecDepth 10000 in
theorem refMul_nat (a b : Nat) (w : World) (ha : a < 256) (hb : b < 256) :
    Calls Try.prog 33 #[.int .u8 (a : Int), .int .u8 (b : Int)] w fun e w' => e = .returned (.int .u8 (fm 285 a b : Nat)) ∧ w' = w := by
  have hl2 : len (mul b a) ≤ 15 := by
    have h1 := len_mul_le b a
    have h2 : len a ≤ 8 := len_le.2 ha
    have h3 : len b ≤ 8 := len_le.2 hb
    omega
  have HL : Hid (len (mul b a) ≤ 15) := hl2
  clear hl2
  go_enter Try.func33, Try.ntmps33
  go_wp2
  go_loop [5, 6] (fun p i => ∃ k P : Nat, k ≤ 8 ∧ P < 65536 ∧ P = mul (b % 2 ^ k) a ∧ p = .int .i64 P ∧ i = .int .i64 k) (fun _ i => 8 - (intOf i).toNat)
  case atStart => exact ⟨0, 0, by decide, by decide, by simp [Nat.mod_one, zero_mul], rfl, rfl⟩
  case round =>
    obtain ⟨k, P, hk, hP, he, rfl, rfl⟩ := hrel
    have HE : Hid (P = mul (b % 2 ^ k) a) := he
    clear he
    by_cases hlt : k < 8
    · have A1 := and8 b k hb
      have hm := mul_low a b k
      by_cases hbit : b / 2 ^ k % 2 = 1
      · obtain ⟨X1, X2⟩ := shl_xor (k := k) hP (shl_lt ha (by omega))
        rw [hbit] at A1
        rw [if_pos hbit, ← HE.out] at hm
        have HM : Hid (mul (b % 2 ^ (k + 1)) a = P ^^^ a * 2 ^ k) := hm
        clear hm hbit
        go_wp2
        go_round
        case rel => exact ⟨k + 1, _, by omega, X2, HM.out.symm, rfl, by go_num⟩
        case measure => simp [intOf]; omega
      · have hb0 : b / 2 ^ k % 2 = 0 := by omega
        rw [hb0] at A1
        rw [if_neg hbit, Nat.xor_zero, ← HE.out] at hm
        have HM : Hid (mul (b % 2 ^ (k + 1)) a = P) := hm
        clear hm hbit hb0
        go_wp2
        go_round
        case rel => exact ⟨k + 1, _, by omega, hP, HM.out.symm, rfl, by go_num⟩
        case measure => simp [intOf]; omega
    · have hk8 : k = 8 := by omega
      subst hk8
      have e8 : b % 2 ^ 8 = b := Nat.mod_eq_of_lt hb
      have HM : Hid (P = mul b a) := by
        have h := HE.out
        rw [e8] at h
        exact h
      clear e8
      go_wp2
      go_loop [5, 7] (fun p i => ∃ k A : Nat, 8 ≤ k ∧ k ≤ 15 ∧ A < 65536 ∧ len A ≤ k ∧ pmod A 285 = fm 285 a b ∧ p = .int .i64 A ∧ i = .int .i64 ((k : Int) - 1)) (fun _ i => (intOf i + 1).toNat)
      case atStart =>
        refine ⟨15, P, by decide, by decide, hP, ?_, ?_, rfl, rfl⟩
        · rw [HM.out]; exact HL.out
        · rw [HM.out, mul_comm]; rfl
      case round =>
        obtain ⟨j, A, hj1, hj2, hA, hlA, he, rfl, rfl⟩ := hrel
        have HR : Hid (pmod A 285 = fm 285 a b) := he
        clear he
        by_cases hgt : 8 < j
        · obtain ⟨i, rfl⟩ : ∃ i, j = i + 1 := ⟨j - 1, by omega⟩
          have hi1 : (((i + 1 : Nat) : Int) - 1) = (i : Int) := by omega
          rw [hi1]
          have A1 := and64 A i (by omega)
          by_cases hbit : A / 2 ^ i % 2 = 1
          · obtain ⟨r1, r2⟩ := red_step (b := 285) (by decide) hlA (by rw [show len 285 = 9 by decide]; omega) HR.out hbit
            rw [show len 285 = 9 by decide, show i + 1 - 9 = i - 8 by omega] at r1 r2
            obtain ⟨X1, X2⟩ := shl_xor (P := A) (a := 285) (k := i - 8) hA (shl_285 (by omega))
            have X1 : bits BinOp.xor IntKind.i64 (A : Int) (wrap64 (285 * 2 ^ (i - 8))) = ((A ^^^ 285 * 2 ^ (i - 8) : Nat) : Int) := X1
            rw [hbit] at A1
            have H1 : Hid (pmod (A ^^^ 285 * 2 ^ (i - 8)) 285 = fm 285 a b ∧ len (A ^^^ 285 * 2 ^ (i - 8)) ≤ i) := ⟨r1, r2⟩
            have hd : ((i : Int) - 8) = ((i - 8 : Nat) : Int) := by omega
            clear r1 r2 hbit
            go_wp2
            go_round
            case rel => exact ⟨i, _, by omega, by omega, X2, H1.out.2, H1.out.1, rfl, by go_num⟩
            case measure => simp [intOf]
          · have h0 : A / 2 ^ i % 2 = 0 := by omega
            have r2 := red_not hlA hbit
            rw [h0] at A1
            clear hbit h0
            go_wp2
            go_round
            case rel => exact ⟨i, _, by omega, by omega, hA, r2, HR.out, rfl, by go_num⟩
            case measure => simp [intOf]
        · have hj8 : j = 8 := by omega
          subst hj8
          have hA8 : A < 256 := (len_le (n := 8)).1 hlA
          go_wp2
          go_ret
          exact ⟨ret_int (by rw [← HR.out, fld8.small hA8]), rfl⟩
end Go.Proofs.Ytdeophhcbkahgaa
