import Derived.Test.YtaepcecjblojjaaWalkc
import Derived.Test.YtaepcecjblojjaaGfc
namespace Go.Proofs.Ytaepcecjblojjaa
open Go.RowKit Gf2

set_option maxHeartbeats 400000 in
theorem gcd_nat (a b : Nat) (w : World) (ha : a < 18446744073709551616) (hb : b < 18446744073709551616) :
    Calls Try.prog 11 #[.int .u64 (a : Int), .int .u64 (b : Int)] w fun e w' => e = .returned (.int .u64 (pgcd a b : Nat)) ∧ w' = w := by
  go_enter Try.func11, Try.ntmps11
  go_wp2
  go_loop [0, 1] (fun x y => ∃ A B n : Nat, A < 18446744073709551616 ∧ B < 18446744073709551616 ∧ len B ≤ n ∧ gcdF n A B = pgcd a b ∧ x = .int .u64 A ∧ y = .int .u64 B) (fun _ y => len (intOf y).toNat)
  case atStart => exact ⟨a, b, len b, ha, hb, Nat.le_refl _, rfl, rfl, rfl⟩
  case round =>
    obtain ⟨A, B, n, hA, hB, hn, hg, rfl, rfl⟩ := hrel
    have HG : Hid (gcdF n A B = pgcd a b) := hg
    clear hg
    by_cases h0 : B = 0
    · subst h0
      go_wp2
      go_ret
      exact ⟨ret_int (by rw [← HG.out]; cases n <;> simp [gcdF]), rfl⟩
    · have h1 := len_pmod A h0
      have h2 := pmod_lt A h0 hB
      go_wp2_with (go_at_call 8; refine (remainder_nat _ _ _ hA hB h0).mono ?_; rintro e w' ⟨rfl, rfl⟩)
      go_round
      case rel =>
        cases n with
        | zero => omega
        | succ n => exact ⟨B, pmod A B, n, hB, h2, by omega, by rw [← HG.out]; simp [gcdF, h0], rfl, rfl⟩
      case measure => simp only [intOf, Int.toNat_natCast]; exact h1

theorem tm_lt (a b : Nat) {p : Nat} (hp0 : p ≠ 0) (hp : p < 18446744073709551616) : tm a b p < 18446744073709551616 := pmod_lt _ hp0 hp

theorem times_tm (a b p : Nat) (w : World) (ha : a < 18446744073709551616) (hb : b < 18446744073709551616) (hp : p < 18446744073709551616) (hp0 : p ≠ 0) :
    Calls Try.prog 10 #[.int .u64 (a : Int), .int .u64 (b : Int), .int .u64 (p : Int)] w fun e w' => e = .returned (.int .u64 (tm a b p : Nat)) ∧ w' = w := times_nat a b p w ha hb hp hp0

set_option maxHeartbeats 400000 in
theorem irreducible_no (p : Nat) (w : World) (hp : p < 18446744073709551616) (h : isMod p 32 = false) :
    Calls Try.prog 4 #[.int .u64 (p : Int)] w fun e w' => e = .returned (.tuple #[.bool false, .int .i64 11]) ∧ w' = w := by
  go_enter Try.func4, Try.ntmps4
  go_wp2_with (go_at_call 7; refine (isModulus_nat _ 32 _ hp (by decide)).mono ?_; rw [h]; rintro e w' ⟨rfl, rfl⟩)
  go_ret2
  exact ⟨rfl, rfl⟩

set_option maxHeartbeats 400000 in
theorem irreducible_yes (p : Nat) (w : World) (hp : p < 18446744073709551616) (h : isMod p 32 = true) :
    Calls Try.prog 4 #[.int .u64 (p : Int)] w fun e w' => e = .returned (.tuple #[.bool (irr p), .int .i64 0]) ∧ w' = w := by
  have hp0 := isMod_ne h
  have h1 := pmod_lt 2 hp0 hp
  have hlp : len p ≤ 64 := len_le.2 hp
  go_enter Try.func4, Try.ntmps4
  have c1 := remainder_nat 2 p w (by decide) hp hp0
  go_wp2_with (first | (go_at_call 7; refine (isModulus_nat _ 32 _ hp (by decide)).mono ?_; rw [h]; rintro e w' ⟨rfl, rfl⟩) | (go_at_call 8; refine c1.mono ?_; rintro e w' ⟨rfl, rfl⟩))
  go_loop [4, 5] (fun z i => ∃ z' i' k : Nat, z' < 18446744073709551616 ∧ i' ≤ 65 ∧ len p ≤ k + i' ∧ irrF k i' z' p = irr p ∧ z = .int .u64 z' ∧ i = .int .i64 i') (fun _ i => 65 - (intOf i).toNat)
  case atStart => exact ⟨pmod 2 p, 1, len p, h1, by decide, by omega, rfl, rfl, rfl⟩
  case round =>
    obtain ⟨z, i, k, hz, hi, hk, hg, rfl, rfl⟩ := hrel
    have HG : Hid (irrF k i z p = irr p) := hg
    clear hg
    by_cases hc : 2 * i + 1 ≤ len p
    · obtain ⟨k, rfl⟩ : ∃ m, k = m + 1 := ⟨k - 1, by omega⟩
      have t := tm_lt z z hp0 hp
      have X := u64_xor_nat (tm z z p) 2 t (by decide)
      have X' : bits BinOp.xor IntKind.u64 ((tm z z p : Nat) : Int) 2 = ((tm z z p ^^^ 2 : Nat) : Int) := X
      clear X
      have hx := xor_lt64 t (show 2 < 18446744073709551616 by decide)
      by_cases hd : pgcd (tm z z p ^^^ 2) p = 1
      · have T1 : (((pgcd (tm z z p ^^^ 2) p : Nat) : Int) != 1) = false := by rw [hd]; rfl
        have HD : Hid (pgcd (tm z z p ^^^ 2) p = 1) := hd
        clear hd
        go_wp2_with (first | (go_at_call 9; refine (degree_nat _ _ hp).mono ?_; rintro e w' ⟨rfl, rfl⟩) | (go_at_call 10; refine (times_tm _ _ _ _ hz hz hp hp0).mono ?_; rintro e w' ⟨rfl, rfl⟩) | (go_at_call 11; refine (gcd_nat _ _ _ hx hp).mono ?_; rintro e w' ⟨rfl, rfl⟩))
        go_round
        case rel => exact ⟨tm z z p, i + 1, k, t, by omega, by omega, by rw [← HG.out]; simp [irrF, hc, HD.out], rfl, by go_num⟩
        case measure => simp [intOf]; omega
      · have T1 : (((pgcd (tm z z p ^^^ 2) p : Nat) : Int) != 1) = true := by simp; omega
        have HD : Hid (¬ pgcd (tm z z p ^^^ 2) p = 1) := hd
        clear hd
        go_wp2_with (first | (go_at_call 9; refine (degree_nat _ _ hp).mono ?_; rintro e w' ⟨rfl, rfl⟩) | (go_at_call 10; refine (times_tm _ _ _ _ hz hz hp hp0).mono ?_; rintro e w' ⟨rfl, rfl⟩) | (go_at_call 11; refine (gcd_nat _ _ _ hx hp).mono ?_; rintro e w' ⟨rfl, rfl⟩))
        go_ret2
        rw [← HG.out]
        have e : irrF (k + 1) i z p = false := by simp only [irrF, if_pos hc, if_neg HD.out]
        rw [e]
        exact ⟨rfl, rfl⟩
    · go_wp2_with (go_at_call 9; refine (degree_nat _ _ hp).mono ?_; rintro e w' ⟨rfl, rfl⟩)
      go_ret2
      rw [← HG.out]
      have e : irrF k i z p = true := by
        cases k with
        | zero => rfl
        | succ k => simp only [irrF, if_neg hc]
      rw [e]
      exact ⟨rfl, rfl⟩
end Go.Proofs.Ytaepcecjblojjaa
