import Derived.Test.YtfhgamaakkoplaaMvad
import Derived.Test.YtfhgamaakkoplaaMvaa
import Derived.Test.YtfhgamaakkoplaaMvae
namespace Go.Proofs.Ytfhgamaakkoplaa
open Go.RowKit Gf2

theorem fm8_lt (a b : Nat) : fm 285 a b < 256 := fld8.fm_lt a b
theorem fp8_lt (a b : Nat) : fp 285 a b < 256 := fld8.fp_lt a b
theorem fi8_lt {a : Nat} (ha : a < 256) (h0 : a ≠ 0) : fi 285 a < 256 := fld8.fi_lt ha h0

theorem mulmod8 (a b : Nat) (w : World) (ha : a < 256) (hb : b < 256) :
    Calls Try.prog 70 #[.int .u64 (a : Int), .int .u64 (b : Int), .int .u64 285] w fun e w' => e = .returned (.tuple #[.int .u64 (fm 285 a b : Nat), .int .i64 0]) ∧ w' = w := by
  have h := mulmod_yes a b 285 w (by omega) (by omega) (by decide) (by decide)
  rw [fld8.small ha, fld8.small hb, prod_eq' (n := 8) (m := 8) ha hb (by decide)] at h
  exact h

set_option maxHeartbeats 400000 in
theorem gmul_nat (a b : Nat) (w : World) (ha : a < 256) (hb : b < 256) :
    Calls Try.prog 61 #[.int .u8 (a : Int), .int .u8 (b : Int)] w fun e w' => e = .returned (.int .u8 (fm 285 a b : Nat)) ∧ w' = w := by
  have c1 := mulmod8 a b w ha hb
  have l1 := fm8_lt a b
  go_enter Try.func61, Try.ntmps61
  go_wp2_with (go_at_call 70; with_reducible refine c1.mono ?_; rintro e w' ⟨rfl, rfl⟩)
  go_ret
  exact ⟨rfl, rfl⟩

/-- the exponent: n less a multiple of 255. -/
def er (n : Int) : Nat := (n % 255).toNat
/-- what Pow answers. -/
def gp (a : Nat) (n : Int) : Nat := if a = 0 then (if n = 0 then 1 else 0) else fp 285 a (er n)
def ge (a : Nat) (n : Int) : Nat := if a = 0 ∧ n < 0 then 20 else 0
theorem i64_xor_nat (a b : Nat) (ha : a < 9223372036854775808) (hb : b < 9223372036854775808) : bits .xor .i64 (a : Int) (b : Int) = ((a ^^^ b : Nat) : Int) := by
  have hx : a ^^^ b < 2 ^ 63 := Nat.xor_lt_two_pow (by omega) (by omega)
  show IntKind.i64.wrap ((BitVec.ofInt 64 (a : Int) ^^^ BitVec.ofInt 64 (b : Int)).toNat : Int) = _
  rw [BitVec.toNat_xor, ofInt_u64 a (by omega), ofInt_u64 b (by omega), IntKind.wrap_i64]
  omega
theorem i64_and_nat (a b : Nat) (ha : a < 9223372036854775808) (hb : b < 9223372036854775808) : bits .and .i64 (a : Int) (b : Int) = ((a &&& b : Nat) : Int) := by
  have hx : a &&& b < 2 ^ 63 := Nat.and_lt_two_pow _ (by omega)
  show IntKind.i64.wrap ((BitVec.ofInt 64 (a : Int) &&& BitVec.ofInt 64 (b : Int)).toNat : Int) = _
  rw [BitVec.toNat_and, ofInt_u64 a (by omega), ofInt_u64 b (by omega), IntKind.wrap_i64]
  omega

end Go.Proofs.Ytfhgamaakkoplaa
namespace Go.Proofs.Ytfhgamaakkoplaa
open Go.RowKit Gf2

theorem bit8_eq (a i : Nat) : a / 2 ^ i % 2 = (a.testBit i).toNat := by
  rw [Nat.testBit_eq_decide_div_mod_eq]
  have := Nat.mod_two_eq_zero_or_one (a / 2 ^ i)
  rcases this with h | h <;> simp [h]
theorem low_step (b k : Nat) : b % 2 ^ (k + 1) = b % 2 ^ k ^^^ (if b / 2 ^ k % 2 = 1 then 2 ^ k else 0) := by
  apply Nat.eq_of_testBit_eq
  intro i
  rw [Nat.testBit_xor, Nat.testBit_mod_two_pow, Nat.testBit_mod_two_pow, bit8_eq]
  by_cases h : i = k
  · subst h
    cases hb : b.testBit i <;> simp
  · have h3 : (if (b.testBit k).toNat = 1 then 2 ^ k else 0).testBit i = false := by
      split
      · rw [Nat.testBit_two_pow]; simp; omega
      · simp
    rw [h3]
    by_cases h1 : i < k
    · simp [h1, show i < k + 1 by omega]
    · simp [h1, show ¬ i < k + 1 by omega]
theorem mul_low (a b k : Nat) : mul (b % 2 ^ (k + 1)) a = mul (b % 2 ^ k) a ^^^ (if b / 2 ^ k % 2 = 1 then a * 2 ^ k else 0) := by
  rw [low_step, xor_mul]
  congr 1
  split
  · exact mul_shift k a
  · exact zero_mul a
theorem red_step {A b i c : Nat} (hb : b ≠ 0) (hl : len A ≤ i + 1) (hd : len b ≤ i + 1) (e : pmod A b = c) (hbit : A / 2 ^ i % 2 = 1) :
    pmod (A ^^^ b * 2 ^ (i + 1 - len b)) b = c ∧ len (A ^^^ b * 2 ^ (i + 1 - len b)) ≤ i := by
  have hbl := len_pos.2 hb
  have hA1 : i < len A := by
    apply lt_len_of_testBit
    rw [bit8_eq] at hbit
    cases hc : A.testBit i with
    | true => rfl
    | false => rw [hc] at hbit; cases hbit
  have el : len (b * 2 ^ (i + 1 - len b)) = i + 1 := by
    rw [← mul_shift, len_mul (by have := Nat.two_pow_pos (i + 1 - len b); omega) hb, len_two_pow]; omega
  have hne : b * 2 ^ (i + 1 - len b) ≠ 0 := by intro h0; rw [h0, len_zero] at el; omega
  refine ⟨?_, ?_⟩
  · rw [pmod_xor_dist _ _ hb, e]
    have : pmod (b * 2 ^ (i + 1 - len b)) b = 0 := (pmod_eq_zero hb).2 ⟨2 ^ (i + 1 - len b), (mul_shift _ _).symm⟩
    rw [this, Nat.xor_zero]
  · have := len_xor_eq (a := A) (b := b * 2 ^ (i + 1 - len b)) (by omega) hne
    omega
theorem red_not {A i : Nat} (hl : len A ≤ i + 1) (hbit : A / 2 ^ i % 2 ≠ 1) : len A ≤ i := by
  rcases Nat.lt_or_ge i (len A) with h2 | h2
  · exfalso; apply hbit
    rw [bit8_eq, testBit_top (by omega)]; rfl
  · exact h2

theorem and8 (b k : Nat) (hb : b < 256) : bits BinOp.and IntKind.u8 ((b : Int) / 2 ^ k) 1 = ((b / 2 ^ k % 2 : Nat) : Int) := by
  have e : ((b : Int) / 2 ^ k) = ((b / 2 ^ k : Nat) : Int) := by simp
  rw [e]
  have h := u8_and_nat (b / 2 ^ k) 1 (Nat.lt_of_le_of_lt (Nat.div_le_self _ _) hb) (by decide)
  rw [nat_mask1] at h
  exact h
theorem and64 (b k : Nat) (hb : b < 9223372036854775808) : bits BinOp.and IntKind.i64 ((b : Int) / 2 ^ k) 1 = ((b / 2 ^ k % 2 : Nat) : Int) := by
  have e : ((b : Int) / 2 ^ k) = ((b / 2 ^ k : Nat) : Int) := by simp
  rw [e]
  have h := i64_and_nat (b / 2 ^ k) 1 (Nat.lt_of_le_of_lt (Nat.div_le_self _ _) hb) (by decide)
  rw [nat_mask1] at h
  exact h

theorem shl_xor {P a k : Nat} (hP : P < 65536) (hk : a * 2 ^ k < 65536) :
    bits BinOp.xor IntKind.i64 (P : Int) (wrap64 ((a : Int) * 2 ^ k)) = ((P ^^^ a * 2 ^ k : Nat) : Int) ∧ P ^^^ a * 2 ^ k < 65536 := by
  have e : ((a : Int) * 2 ^ k) = ((a * 2 ^ k : Nat) : Int) := by simp
  have e2 : wrap64 ((a * 2 ^ k : Nat) : Int) = ((a * 2 ^ k : Nat) : Int) := by unfold wrap64; omega
  rw [e, e2, i64_xor_nat _ _ (by omega) (by omega)]
  exact ⟨rfl, Nat.xor_lt_two_pow (n := 16) hP hk⟩
theorem shl_lt {a k : Nat} (ha : a < 256) (hk : k ≤ 8) : a * 2 ^ k < 65536 := by
  have h : 2 ^ k ≤ 2 ^ 8 := Nat.pow_le_pow_right (by decide) hk
  have : a * 2 ^ k ≤ 255 * 2 ^ 8 := Nat.mul_le_mul (by omega) h
  omega
theorem shl_285 {k : Nat} (hk : k ≤ 7) : 285 * 2 ^ k < 65536 := by
  have h : 2 ^ k ≤ 2 ^ 7 := Nat.pow_le_pow_right (by decide) hk
  have : 285 * 2 ^ k ≤ 285 * 2 ^ 7 := Nat.mul_le_mul (Nat.le_refl _) h
  omega

set_option maxHeartbeats 2000000 in
set_option maxRecDepth 10000 in
theorem refMul_nat (a b : Nat) (w : World) (ha : a < 256) (hb : b < 256) :
    Calls Try.prog 39 #[.int .u8 (a : Int), .int .u8 (b : Int)] w fun e w' => e = .returned (.int .u8 (fm 285 a b : Nat)) ∧ w' = w := by
  have hl2 : len (mul b a) ≤ 15 := by
    have h1 := len_mul_le b a
    have h2 : len a ≤ 8 := len_le.2 ha
    have h3 : len b ≤ 8 := len_le.2 hb
    omega
  have HL : Hid (len (mul b a) ≤ 15) := hl2
  clear hl2
  go_enter Try.func39, Try.ntmps39
  go_wp2
  go_loop [5, 6] (fun p i => ∃ k P : Nat, k ≤ 8 ∧ P < 65536 ∧ P = mul (b % 2 ^ k) a ∧ p = .int .i64 P ∧ i = .int .i64 k) (fun _ i => 8 - (intOf i).toNat)
  case atStart => exact ⟨0, 0, by decide, by decide, by simp [Nat.mod_one, zero_mul], rfl, rfl⟩
  case round =>
    obtain ⟨k, P, hk, hP, he, rfl, rfl⟩ := hrel
    have HE : Hid (P = mul (b % 2 ^ k) a) := he
    clear he
    by_cases hlt : k < 8
    · have A1 := and8 b k hb
      have hm := mul_low a b k
      by_cases hbit : b / 2 ^ k % 2 = 1
      · obtain ⟨X1, X2⟩ := shl_xor (k := k) hP (shl_lt ha (by omega))
        rw [hbit] at A1
        rw [if_pos hbit, ← HE.out] at hm
        have HM : Hid (mul (b % 2 ^ (k + 1)) a = P ^^^ a * 2 ^ k) := hm
        clear hm hbit
        go_wp2
        go_round
        case rel => exact ⟨k + 1, _, by omega, X2, HM.out.symm, rfl, by go_num⟩
        case measure => simp [intOf]; omega
      · have hb0 : b / 2 ^ k % 2 = 0 := by omega
        rw [hb0] at A1
        rw [if_neg hbit, Nat.xor_zero, ← HE.out] at hm
        have HM : Hid (mul (b % 2 ^ (k + 1)) a = P) := hm
        clear hm hbit hb0
        go_wp2
        go_round
        case rel => exact ⟨k + 1, _, by omega, hP, HM.out.symm, rfl, by go_num⟩
        case measure => simp [intOf]; omega
    · have hk8 : k = 8 := by omega
      subst hk8
      have e8 : b % 2 ^ 8 = b := Nat.mod_eq_of_lt hb
      have HM : Hid (P = mul b a) := by
        have h := HE.out
        rw [e8] at h
        exact h
      clear e8
      go_wp2
      go_loop [5, 7] (fun p i => ∃ k A : Nat, 8 ≤ k ∧ k ≤ 15 ∧ A < 65536 ∧ len A ≤ k ∧ pmod A 285 = fm 285 a b ∧ p = .int .i64 A ∧ i = .int .i64 ((k : Int) - 1)) (fun _ i => (intOf i + 1).toNat)
      case atStart =>
        refine ⟨15, P, by decide, by decide, hP, ?_, ?_, rfl, rfl⟩
        · rw [HM.out]; exact HL.out
        · rw [HM.out, mul_comm]; rfl
      case round =>
        obtain ⟨j, A, hj1, hj2, hA, hlA, he, rfl, rfl⟩ := hrel
        have HR : Hid (pmod A 285 = fm 285 a b) := he
        clear he
        by_cases hgt : 8 < j
        · obtain ⟨i, rfl⟩ : ∃ i, j = i + 1 := ⟨j - 1, by omega⟩
          have hi1 : (((i + 1 : Nat) : Int) - 1) = (i : Int) := by omega
          rw [hi1]
          have A1 := and64 A i (by omega)
          by_cases hbit : A / 2 ^ i % 2 = 1
          · obtain ⟨r1, r2⟩ := red_step (b := 285) (by decide) hlA (by rw [show len 285 = 9 by decide]; omega) HR.out hbit
            rw [show len 285 = 9 by decide, show i + 1 - 9 = i - 8 by omega] at r1 r2
            obtain ⟨X1, X2⟩ := shl_xor (P := A) (a := 285) (k := i - 8) hA (shl_285 (by omega))
            have X1 : bits BinOp.xor IntKind.i64 (A : Int) (wrap64 (285 * 2 ^ (i - 8))) = ((A ^^^ 285 * 2 ^ (i - 8) : Nat) : Int) := X1
            rw [hbit] at A1
            have H1 : Hid (pmod (A ^^^ 285 * 2 ^ (i - 8)) 285 = fm 285 a b ∧ len (A ^^^ 285 * 2 ^ (i - 8)) ≤ i) := ⟨r1, r2⟩
            have hd : ((i : Int) - 8) = ((i - 8 : Nat) : Int) := by omega
            clear r1 r2 hbit
            go_wp2
            go_round
            case rel => exact ⟨i, _, by omega, by omega, X2, H1.out.2, H1.out.1, rfl, by go_num⟩
            case measure => simp [intOf]
          · have h0 : A / 2 ^ i % 2 = 0 := by omega
            have r2 := red_not hlA hbit
            rw [h0] at A1
            clear hbit h0
            go_wp2
            go_round
            case rel => exact ⟨i, _, by omega, by omega, hA, r2, HR.out, rfl, by go_num⟩
            case measure => simp [intOf]
        · have hj8 : j = 8 := by omega
          subst hj8
          have hA8 : A < 256 := (len_le (n := 8)).1 hlA
          go_wp2
          go_ret
          exact ⟨ret_int (by rw [← HR.out, fld8.small hA8]), rfl⟩
end Go.Proofs.Ytfhgamaakkoplaa
namespace Go.Proofs.Ytfhgamaakkoplaa
open Go.RowKit Gf2

def gi4 (a : Nat) : Nat := if a = 0 then 0 else fi 285 a
def ge4 (a : Nat) : Nat := if a = 0 then 20 else 0
theorem inv_round4 {a : Nat} (i : Nat) : fm 285 (fp 285 a (2 ^ (i + 1) - 2)) (fp 285 a (2 ^ (i + 1))) = fp 285 a (2 ^ (i + 2) - 2) ∧ fm 285 (fp 285 a (2 ^ (i + 1))) (fp 285 a (2 ^ (i + 1))) = fp 285 a (2 ^ (i + 2)) := by
  have h : 2 ≤ 2 ^ (i + 1) := by
    have : 2 ^ 1 ≤ 2 ^ (i + 1) := Nat.pow_le_pow_right (by decide) (by omega)
    omega
  have h2 : 2 ^ (i + 2) = 2 ^ (i + 1) + 2 ^ (i + 1) := by rw [Nat.pow_succ 2 (i + 1)]; omega
  rw [← fld8.fp_add, ← fld8.fp_add, h2]
  exact ⟨by congr 1; omega, rfl⟩

set_option maxHeartbeats 400000 in
theorem refInv4_nat (a : Nat) (w : World) (ha : a < 256) :
    Calls Try.prog 58 #[.int .u8 (a : Int)] w fun e w' => e = .returned (.tuple #[.int .u8 (gi4 a : Nat), .int .i64 (ge4 a : Nat)]) ∧ w' = w := by
  by_cases h0 : a = 0
  · subst h0
    rw [show gi4 0 = 0 by decide, show ge4 0 = 20 by decide]
    go_enter Try.func58, Try.ntmps58
    go_wp2
    go_ret2
    exact ⟨rfl, rfl⟩
  · have e1 : gi4 a = fp 285 a 254 := by unfold gi4; rw [if_neg h0]; exact fld8.fi_fp ha h0
    have e2 : ge4 a = 0 := by unfold ge4; rw [if_neg h0]
    rw [e1, e2]
    have c1 := fun w => refMul_nat a a w ha ha
    rw [← fp_two] at c1
    clear e1 e2
    go_enter Try.func58, Try.ntmps58
    go_wp2_with (go_at_call 39; ((with_reducible refine (c1 _).mono ?_); rintro e w' ⟨rfl, rfl⟩))
    go_loop [4, 5, 6] (fun two p i => ∃ k : Nat, k ≤ 7 ∧ two = .int .u8 (fp 285 a (2 ^ (k + 1)) : Nat) ∧ p = .int .u8 (fp 285 a (2 ^ (k + 1) - 2) : Nat) ∧ i = .int .i64 k) (fun _ _ i => 7 - (intOf i).toNat)
    case atStart => exact ⟨0, by decide, rfl, by rw [show (2 ^ (0 + 1) - 2) = 0 by decide, fld8.fp_zero]; rfl, rfl⟩
    case round =>
      obtain ⟨k, hk, rfl, rfl, rfl⟩ := hrel
      by_cases hlt : k < 7
      · obtain ⟨r1, r2⟩ := inv_round4 (a := a) k
        have c2 := fun w => refMul_nat (fp 285 a (2 ^ (k + 1) - 2)) (fp 285 a (2 ^ (k + 1))) w (fp8_lt _ _) (fp8_lt _ _)
        have c3 := fun w => refMul_nat (fp 285 a (2 ^ (k + 1))) (fp 285 a (2 ^ (k + 1))) w (fp8_lt _ _) (fp8_lt _ _)
        rw [r1] at c2
        rw [r2] at c3
        clear r1 r2 c1
        obtain ⟨x, hx⟩ : ∃ x, x = fp 285 a (2 ^ (k + 1)) := ⟨_, rfl⟩
        obtain ⟨y, hy⟩ : ∃ y, y = fp 285 a (2 ^ (k + 1) - 2) := ⟨_, rfl⟩
        obtain ⟨x', hx'⟩ : ∃ x, x = fp 285 a (2 ^ (k + 2)) := ⟨_, rfl⟩
        obtain ⟨y', hy'⟩ : ∃ y, y = fp 285 a (2 ^ (k + 2) - 2) := ⟨_, rfl⟩
        rw [← hx, ← hy, ← hy'] at c2
        rw [← hx, ← hx'] at c3
        rw [← hx, ← hy]
        have HX : Hid (x' = fp 285 a (2 ^ (k + 2)) ∧ y' = fp 285 a (2 ^ (k + 2) - 2)) := ⟨hx', hy'⟩
        clear hx hy hx' hy'
        go_wp2_with (go_at_call 39; first | ((with_reducible refine (c2 _).mono ?_); rintro e w' ⟨rfl, rfl⟩) | ((with_reducible refine (c3 _).mono ?_); rintro e w' ⟨rfl, rfl⟩))
        go_round
        case rel => exact ⟨k + 1, by omega, by rw [HX.out.1], by rw [HX.out.2], by go_num⟩
        case measure => simp [intOf]; omega
      · have hk7 : k = 7 := by omega
        subst hk7
        go_wp2
        go_ret2
        exact ⟨rfl, rfl⟩

end Go.Proofs.Ytfhgamaakkoplaa
namespace Go.Proofs.Ytfhgamaakkoplaa
open Go.RowKit Gf2

theorem bit16_eq (a i : Nat) : a / 2 ^ i % 2 = (a.testBit i).toNat := by
  rw [Nat.testBit_eq_decide_div_mod_eq]
  have := Nat.mod_two_eq_zero_or_one (a / 2 ^ i)
  rcases this with h | h <;> simp [h]
theorem low_step16 (b k : Nat) : b % 2 ^ (k + 1) = b % 2 ^ k ^^^ (if b / 2 ^ k % 2 = 1 then 2 ^ k else 0) := by
  apply Nat.eq_of_testBit_eq
  intro i
  rw [Nat.testBit_xor, Nat.testBit_mod_two_pow, Nat.testBit_mod_two_pow, bit16_eq]
  by_cases h : i = k
  · subst h
    cases hb : b.testBit i <;> simp
  · have h3 : (if (b.testBit k).toNat = 1 then 2 ^ k else 0).testBit i = false := by
      split
      · rw [Nat.testBit_two_pow]; simp; omega
      · simp
    rw [h3]
    by_cases h1 : i < k
    · simp [h1, show i < k + 1 by omega]
    · simp [h1, show ¬ i < k + 1 by omega]
theorem mul_low16 (a b k : Nat) : mul (b % 2 ^ (k + 1)) a = mul (b % 2 ^ k) a ^^^ (if b / 2 ^ k % 2 = 1 then a * 2 ^ k else 0) := by
  rw [low_step16, xor_mul]
  congr 1
  split
  · exact mul_shift k a
  · exact zero_mul a
theorem red_step16 {A b i c : Nat} (hb : b ≠ 0) (hl : len A ≤ i + 1) (hd : len b ≤ i + 1) (e : pmod A b = c) (hbit : A / 2 ^ i % 2 = 1) :
    pmod (A ^^^ b * 2 ^ (i + 1 - len b)) b = c ∧ len (A ^^^ b * 2 ^ (i + 1 - len b)) ≤ i := by
  have hbl := len_pos.2 hb
  have hA1 : i < len A := by
    apply lt_len_of_testBit
    rw [bit16_eq] at hbit
    cases hc : A.testBit i with
    | true => rfl
    | false => rw [hc] at hbit; cases hbit
  have el : len (b * 2 ^ (i + 1 - len b)) = i + 1 := by
    rw [← mul_shift, len_mul (by have := Nat.two_pow_pos (i + 1 - len b); omega) hb, len_two_pow]; omega
  have hne : b * 2 ^ (i + 1 - len b) ≠ 0 := by intro h0; rw [h0, len_zero] at el; omega
  refine ⟨?_, ?_⟩
  · rw [pmod_xor_dist _ _ hb, e]
    have : pmod (b * 2 ^ (i + 1 - len b)) b = 0 := (pmod_eq_zero hb).2 ⟨2 ^ (i + 1 - len b), (mul_shift _ _).symm⟩
    rw [this, Nat.xor_zero]
  · have := len_xor_eq (a := A) (b := b * 2 ^ (i + 1 - len b)) (by omega) hne
    omega
theorem red_not16 {A i : Nat} (hl : len A ≤ i + 1) (hbit : A / 2 ^ i % 2 ≠ 1) : len A ≤ i := by
  rcases Nat.lt_or_ge i (len A) with h2 | h2
  · exfalso; apply hbit
    rw [bit16_eq, testBit_top (by omega)]; rfl
  · exact h2
theorem fm16_lt (a b : Nat) : fm 65581 a b < 65536 := fld16.fm_lt a b
theorem and16 (b k : Nat) (hb : b < 65536) : bits BinOp.and IntKind.u16 ((b : Int) / 2 ^ k) 1 = ((b / 2 ^ k % 2 : Nat) : Int) := by
  have e : ((b : Int) / 2 ^ k) = ((b / 2 ^ k : Nat) : Int) := by simp
  rw [e]
  have h := u16_and_nat (b / 2 ^ k) 1 (Nat.lt_of_le_of_lt (Nat.div_le_self _ _) hb) (by decide)
  rw [nat_mask1] at h
  exact h
theorem and32 (b k : Nat) (hb : b < 4294967296) : bits BinOp.and IntKind.u32 ((b : Int) / 2 ^ k) 1 = ((b / 2 ^ k % 2 : Nat) : Int) := by
  have e : ((b : Int) / 2 ^ k) = ((b / 2 ^ k : Nat) : Int) := by simp
  rw [e]
  have h := u32_and_nat (b / 2 ^ k) 1 (Nat.lt_of_le_of_lt (Nat.div_le_self _ _) hb) (by decide)
  rw [nat_mask1] at h
  exact h
theorem shl_xor32 {P a k : Nat} (hP : P < 4294967296) (hk : a * 2 ^ k < 4294967296) :
    bits BinOp.xor IntKind.u32 (P : Int) ((a : Int) * 2 ^ k % 4294967296) = ((P ^^^ a * 2 ^ k : Nat) : Int) ∧ P ^^^ a * 2 ^ k < 4294967296 := by
  have e : ((a : Int) * 2 ^ k) = ((a * 2 ^ k : Nat) : Int) := by simp
  have e2 : ((a * 2 ^ k : Nat) : Int) % 4294967296 = ((a * 2 ^ k : Nat) : Int) := by omega
  rw [e, e2, u32_xor_nat _ _ (by omega) (by omega)]
  exact ⟨rfl, Nat.xor_lt_two_pow (n := 32) hP hk⟩
theorem shl_lt32 {a k : Nat} (ha : a < 65536) (hk : k ≤ 15) : a * 2 ^ k < 4294967296 := by
  have h : 2 ^ k ≤ 2 ^ 15 := Nat.pow_le_pow_right (by decide) hk
  have : a * 2 ^ k ≤ 65535 * 2 ^ 15 := Nat.mul_le_mul (by omega) h
  omega
theorem shl_65581 {k : Nat} (hk : k ≤ 14) : 65581 * 2 ^ k < 4294967296 := by
  have h : 2 ^ k ≤ 2 ^ 14 := Nat.pow_le_pow_right (by decide) hk
  have : 65581 * 2 ^ k ≤ 65581 * 2 ^ 14 := Nat.mul_le_mul (Nat.le_refl _) h
  omega

set_option maxHeartbeats 2000000 in
set_option maxRecDepth 10000 in
theorem refMulH_nat (a b : Nat) (w : World) (ha : a < 65536) (hb : b < 65536) :
    Calls Try.prog 56 #[.int .u16 (a : Int), .int .u16 (b : Int)] w fun e w' => e = .returned (.int .u16 (fm 65581 a b : Nat)) ∧ w' = w := by
  have hl2 : len (mul b a) ≤ 31 := by
    have h1 := len_mul_le b a
    have h2 : len a ≤ 16 := len_le.2 ha
    have h3 : len b ≤ 16 := len_le.2 hb
    omega
  have HL : Hid (len (mul b a) ≤ 31) := hl2
  clear hl2
  go_enter Try.func56, Try.ntmps56
  go_wp2
  go_loop [5, 6] (fun p i => ∃ k P : Nat, k ≤ 16 ∧ P < 4294967296 ∧ P = mul (b % 2 ^ k) a ∧ p = .int .u32 P ∧ i = .int .i64 k) (fun _ i => 16 - (intOf i).toNat)
  case atStart => exact ⟨0, 0, by decide, by decide, by simp [Nat.mod_one, zero_mul], rfl, rfl⟩
  case round =>
    obtain ⟨k, P, hk, hP, he, rfl, rfl⟩ := hrel
    have HE : Hid (P = mul (b % 2 ^ k) a) := he
    clear he
    by_cases hlt : k < 16
    · have A1 := and16 b k hb
      have hm := mul_low16 a b k
      by_cases hbit : b / 2 ^ k % 2 = 1
      · obtain ⟨X1, X2⟩ := shl_xor32 (k := k) hP (shl_lt32 ha (by omega))
        rw [hbit] at A1
        rw [if_pos hbit, ← HE.out] at hm
        have HM : Hid (mul (b % 2 ^ (k + 1)) a = P ^^^ a * 2 ^ k) := hm
        clear hm hbit
        go_wp2
        go_round
        case rel => exact ⟨k + 1, _, by omega, X2, HM.out.symm, rfl, by go_num⟩
        case measure => simp [intOf]; omega
      · have hb0 : b / 2 ^ k % 2 = 0 := by omega
        rw [hb0] at A1
        rw [if_neg hbit, Nat.xor_zero, ← HE.out] at hm
        have HM : Hid (mul (b % 2 ^ (k + 1)) a = P) := hm
        clear hm hbit hb0
        go_wp2
        go_round
        case rel => exact ⟨k + 1, _, by omega, hP, HM.out.symm, rfl, by go_num⟩
        case measure => simp [intOf]; omega
    · have hk8 : k = 16 := by omega
      subst hk8
      have e8 : b % 2 ^ 16 = b := Nat.mod_eq_of_lt hb
      have HM : Hid (P = mul b a) := by
        have h := HE.out
        rw [e8] at h
        exact h
      clear e8
      go_wp2
      go_loop [5, 7] (fun p i => ∃ k A : Nat, 16 ≤ k ∧ k ≤ 31 ∧ A < 4294967296 ∧ len A ≤ k ∧ pmod A 65581 = fm 65581 a b ∧ p = .int .u32 A ∧ i = .int .i64 ((k : Int) - 1)) (fun _ i => (intOf i + 1).toNat)
      case atStart =>
        refine ⟨31, P, by decide, by decide, hP, ?_, ?_, rfl, rfl⟩
        · rw [HM.out]; exact HL.out
        · rw [HM.out, mul_comm]; rfl
      case round =>
        obtain ⟨j, A, hj1, hj2, hA, hlA, he, rfl, rfl⟩ := hrel
        have HR : Hid (pmod A 65581 = fm 65581 a b) := he
        clear he
        by_cases hgt : 16 < j
        · obtain ⟨i, rfl⟩ : ∃ i, j = i + 1 := ⟨j - 1, by omega⟩
          have hi1 : (((i + 1 : Nat) : Int) - 1) = (i : Int) := by omega
          rw [hi1]
          have A1 := and32 A i (by omega)
          by_cases hbit : A / 2 ^ i % 2 = 1
          · obtain ⟨r1, r2⟩ := red_step16 (b := 65581) (by decide) hlA (by rw [show len 65581 = 17 by decide]; omega) HR.out hbit
            rw [show len 65581 = 17 by decide, show i + 1 - 17 = i - 16 by omega] at r1 r2
            obtain ⟨X1, X2⟩ := shl_xor32 (P := A) (a := 65581) (k := i - 16) hA (shl_65581 (by omega))
            have X1 : bits BinOp.xor IntKind.u32 (A : Int) (65581 * 2 ^ (i - 16) % 4294967296) = ((A ^^^ 65581 * 2 ^ (i - 16) : Nat) : Int) := X1
            rw [hbit] at A1
            have H1 : Hid (pmod (A ^^^ 65581 * 2 ^ (i - 16)) 65581 = fm 65581 a b ∧ len (A ^^^ 65581 * 2 ^ (i - 16)) ≤ i) := ⟨r1, r2⟩
            have hd : ((i : Int) - 16) = ((i - 16 : Nat) : Int) := by omega
            clear r1 r2 hbit
            go_wp2
            go_round
            case rel => exact ⟨i, _, by omega, by omega, X2, H1.out.2, H1.out.1, rfl, by go_num⟩
            case measure => simp [intOf]
          · have h0 : A / 2 ^ i % 2 = 0 := by omega
            have r2 := red_not16 hlA hbit
            rw [h0] at A1
            clear hbit h0
            go_wp2
            go_round
            case rel => exact ⟨i, _, by omega, by omega, hA, r2, HR.out, rfl, by go_num⟩
            case measure => simp [intOf]
        · have hj8 : j = 16 := by omega
          subst hj8
          have hA8 : A < 65536 := (len_le (n := 16)).1 hlA
          go_wp2
          go_ret
          exact ⟨ret_int (by rw [← HR.out, fld16.small hA8]), rfl⟩
end Go.Proofs.Ytfhgamaakkoplaa
namespace Go.Proofs.Ytfhgamaakkoplaa
open Go.RowKit Gf2

/-- powers by squares: one round. -/
theorem pow_round {a p r : Nat} : (if r % 2 = 1 then fm 65581 (fm 65581 p a) (fp 65581 (fm 65581 a a) (r / 2)) else fm 65581 p (fp 65581 (fm 65581 a a) (r / 2))) = fm 65581 p (fp 65581 a r) := by
  have e : fp 65581 (fm 65581 a a) (r / 2) = fp 65581 a (2 * (r / 2)) := by rw [fld16.fp_mul, fp_two]
  rw [e]
  split
  · next h =>
    have h2 : r = 1 + 2 * (r / 2) := by omega
    conv => rhs; rw [h2, fld16.fp_add]
    rw [fld16.fm_assoc]
    congr 1
    unfold fp fm
    rw [pw_one, pmod_mul_left _ _ fld16.ne]
  · next h =>
    have h2 : r = 2 * (r / 2) := by omega
    rw [← h2]

set_option maxHeartbeats 1000000 in
theorem refPower_nat (a r : Nat) (w : World) (ha : a < 65536) (hr : r < 65536) :
    Calls Try.prog 68 #[.int .u16 (a : Int), .int .i64 (r : Int)] w fun e w' => e = .returned (.int .u16 (fp 65581 a r : Nat)) ∧ w' = w := by
  go_enter Try.func68, Try.ntmps68
  go_wp2
  go_loop [0, 1, 5] (fun x s p => ∃ A R P : Nat, A < 65536 ∧ R < 65536 ∧ P < 65536 ∧ fm 65581 P (fp 65581 A R) = fp 65581 a r ∧ x = .int .u16 A ∧ s = .int .i64 R ∧ p = .int .u16 P) (fun _ s _ => (intOf s).toNat)
  case atStart => exact ⟨a, r, 1, ha, hr, by decide, fld16.one_fm (fld16.fp_lt _ _), rfl, rfl, rfl⟩
  case round =>
    obtain ⟨A, R, P, hA, hR, hP, he, rfl, rfl, rfl⟩ := hrel
    have HE : Hid (fm 65581 P (fp 65581 A R) = fp 65581 a r) := he
    clear he
    by_cases h0 : R = 0
    · subst h0
      go_wp2
      go_ret
      refine ⟨ret_int ?_, rfl⟩
      rw [← HE.out, fld16.fp_zero, fld16.fm_one hP]
    · have c1 := fun w => refMulH_nat P A w hP hA
      have c2 := fun w => refMulH_nat A A w hA hA
      have l1 := fm16_lt P A
      have l2 := fm16_lt A A
      have PR := pow_round (a := A) (p := P) (r := R)
      have hR0 : 0 < R := by omega
      have e2 : (R : Int).tmod 2 = ((R % 2 : Nat) : Int) := by rw [Int.tmod_eq_emod_of_nonneg (by omega)]; omega
      have e3 : (R : Int).tdiv 2 = ((R / 2 : Nat) : Int) := by rw [Int.tdiv_eq_ediv_of_nonneg (by omega)]; omega
      by_cases h1 : R % 2 = 1
      · rw [if_pos h1] at PR
        have HP : Hid (fm 65581 (fm 65581 P A) (fp 65581 (fm 65581 A A) (R / 2)) = fm 65581 P (fp 65581 A R)) := PR
        have T : ((R : Int) % 2 == 1) = true := by simp; omega
        clear PR
        go_wp2_with (go_at_call 56; first | ((with_reducible refine (c1 _).mono ?_); rintro e w' ⟨rfl, rfl⟩) | ((with_reducible refine (c2 _).mono ?_); rintro e w' ⟨rfl, rfl⟩))
        go_round
        case rel => exact ⟨_, R / 2, _, l2, by omega, l1, by rw [HP.out, HE.out], rfl, by go_num, rfl⟩
        case measure => simp [intOf]; omega
      · rw [if_neg h1] at PR
        have HP : Hid (fm 65581 P (fp 65581 (fm 65581 A A) (R / 2)) = fm 65581 P (fp 65581 A R)) := PR
        have T : ((R : Int) % 2 == 1) = false := by simp; omega
        clear PR
        go_wp2_with (go_at_call 56; first | ((with_reducible refine (c1 _).mono ?_); rintro e w' ⟨rfl, rfl⟩) | ((with_reducible refine (c2 _).mono ?_); rintro e w' ⟨rfl, rfl⟩))
        go_round
        case rel => exact ⟨_, R / 2, _, l2, by omega, hP, by rw [HP.out, HE.out], rfl, by go_num, rfl⟩
        case measure => simp [intOf]; omega

/-- the exponent modulo 65535. -/
def eh (n : Int) : Nat := (n % 65535).toNat
/-- what Inv, Div, Pow, Log answer, 0 too. -/
def hi (a : Nat) : Nat := if a = 0 then 0 else fi 65581 a
def he (a : Nat) : Nat := if a = 0 then 20 else 0
def hd (a b : Nat) : Nat := if b = 0 then 0 else fm 65581 a (fi 65581 b)
def hp (a : Nat) (n : Int) : Nat := if a = 0 then (if n = 0 then 1 else 0) else fp 65581 a (eh n)
def l16 (a : Nat) : Nat := lg 65581 16 a
def hl (a : Nat) : Nat := if a = 0 then 0 else l16 a
theorem fi_fp16 {a : Nat} (ha : a < 65536) (h0 : a ≠ 0) : fi 65581 a = fp 65581 a 65534 := fld16.fi_fp ha h0

set_option maxHeartbeats 400000 in
set_option maxRecDepth 10000 in
theorem refInvH_nat (a : Nat) (w : World) (ha : a < 65536) :
    Calls Try.prog 57 #[.int .u16 (a : Int)] w fun e w' => e = .returned (.tuple #[.int .u16 (hi a : Nat), .int .i64 (he a : Nat)]) ∧ w' = w := by
  by_cases h0 : a = 0
  · subst h0
    rw [show hi 0 = 0 by decide, show he 0 = 20 by decide]
    go_enter Try.func57, Try.ntmps57
    go_wp2
    go_ret2
    exact ⟨rfl, rfl⟩
  · have e1 : hi a = fp 65581 a 65534 := by unfold hi; rw [if_neg h0]; exact fi_fp16 ha h0
    have e2 : he a = 0 := by unfold he; rw [if_neg h0]
    rw [e1, e2]
    have c1 : ∀ w, Calls Try.prog 68 #[.int .u16 (a : Int), .int .i64 65534] w fun e w' => e = .returned (.int .u16 (fp 65581 a 65534 : Nat)) ∧ w' = w := fun w => refPower_nat a 65534 w ha (by decide)
    clear e1 e2
    go_enter Try.func57, Try.ntmps57
    go_wp2_with (go_at_call 68; ((with_reducible refine (c1 _).mono ?_); rintro e w' ⟨rfl, rfl⟩))
    go_ret2
    exact ⟨rfl, rfl⟩

end Go.Proofs.Ytfhgamaakkoplaa
