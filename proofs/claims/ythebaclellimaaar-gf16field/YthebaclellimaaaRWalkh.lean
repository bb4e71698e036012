import Derived.Test.YthebaclellimaaaRWfer
import Derived.Test.YthebaclellimaaaRDhfr
namespace Go.Proofs.YthebaclellimaaaR
open Go.RowKit Gf2

-- the contracts of gf16's plain calls
theorem nat_u16 {a : Int} (h : (Lit.int .u16 a).wf = true) : ∃ n : Nat, a = n ∧ n < 65536 := by
  have := bounds_u16 h
  exact ⟨a.toNat, by omega, by omega⟩
theorem fi16_lt {a : Nat} (ha : a < 65536) (h0 : a ≠ 0) : fi 65581 a < 65536 := fld16.fi_lt ha h0
theorem hi_lt {a : Nat} (ha : a < 65536) : hi a < 65536 := by
  unfold hi; split
  · decide
  · next h => exact fi16_lt ha h

theorem mulmod16 (a b : Nat) (w : World) (ha : a < 65536) (hb : b < 65536) :
    Calls Try.prog 15 #[.int .u64 (a : Int), .int .u64 (b : Int), .int .u64 65581] w fun e w' => e = .returned (.tuple #[.int .u64 (fm 65581 a b : Nat), .int .i64 0]) ∧ w' = w := by
  have h := mulmod_yes a b 65581 w (by omega) (by omega) (by decide) (by decide)
  rw [fld16.small ha, fld16.small hb, prod_eq' (n := 16) (m := 16) ha hb (by decide)] at h
  exact h

set_option maxHeartbeats 400000 in
set_option maxRecDepth 10000 in
theorem hmul_nat (a b : Nat) (w : World) (ha : a < 65536) (hb : b < 65536) :
    Calls Try.prog 7 #[.int .u16 (a : Int), .int .u16 (b : Int)] w fun e w' => e = .returned (.int .u16 (fm 65581 a b : Nat)) ∧ w' = w := by
  have c1 := mulmod16 a b w ha hb
  have l1 := fm16_lt a b
  go_enter Try.func7, Try.ntmps7
  go_wp2_with (go_at_call 15; ((with_reducible refine (c1).mono ?_); rintro e w' ⟨rfl, rfl⟩))
  go_ret
  exact ⟨rfl, rfl⟩

theorem invmod16 (a : Nat) (w : World) (ha : a < 65536) (h0 : a ≠ 0) :
    Calls Try.prog 16 #[.int .u64 (a : Int), .int .u64 65581] w fun e w' => e = .returned (.tuple #[.int .u64 (fi 65581 a : Nat), .int .i64 0]) ∧ w' = w :=
  invmod_yes a 65581 w (by omega) (by decide) (by decide) (fld16.gcd_one ha h0)

set_option maxHeartbeats 400000 in
set_option maxRecDepth 10000 in
theorem hinv_nat (a : Nat) (w : World) (ha : a < 65536) :
    Calls Try.prog 8 #[.int .u16 (a : Int)] w fun e w' => e = .returned (.tuple #[.int .u16 (hi a : Nat), .int .i64 (he a : Nat)]) ∧ w' = w := by
  by_cases h0 : a = 0
  · subst h0
    rw [show hi 0 = 0 by decide, show he 0 = 20 by decide]
    go_enter Try.func8, Try.ntmps8
    go_wp2
    go_ret2
    exact ⟨rfl, rfl⟩
  · have e1 : hi a = fi 65581 a := by unfold hi; rw [if_neg h0]
    have e2 : he a = 0 := by unfold he; rw [if_neg h0]
    rw [e1, e2]
    have c1 := invmod16 a w ha h0
    have l1 := fi16_lt ha h0
    clear e1 e2
    go_enter Try.func8, Try.ntmps8
    go_wp2_with (go_at_call 16; ((with_reducible refine (c1).mono ?_); rintro e w' ⟨rfl, rfl⟩))
    go_ret2
    exact ⟨rfl, rfl⟩

set_option maxHeartbeats 400000 in
set_option maxRecDepth 10000 in
theorem hdiv_nat (a b : Nat) (w : World) (ha : a < 65536) (hb : b < 65536) :
    Calls Try.prog 9 #[.int .u16 (a : Int), .int .u16 (b : Int)] w fun e w' => e = .returned (.tuple #[.int .u16 (hd a b : Nat), .int .i64 (he b : Nat)]) ∧ w' = w := by
  have c1 := hinv_nat b w hb
  by_cases h0 : b = 0
  · subst h0
    rw [show hd a 0 = 0 by unfold hd; rw [if_pos rfl], show he 0 = 20 by decide]
    rw [show hi 0 = 0 by decide, show he 0 = 20 by decide] at c1
    have c1 : Calls Try.prog 8 #[.int .u16 0] w fun e w' => e = .returned (.tuple #[.int .u16 0, .int .i64 20]) ∧ w' = w := c1
    go_enter Try.func9, Try.ntmps9
    go_wp2_with (go_at_call 8; ((with_reducible refine (c1).mono ?_); rintro e w' ⟨rfl, rfl⟩))
    go_ret2
    exact ⟨rfl, rfl⟩
  · have e1 : hi b = fi 65581 b := by unfold hi; rw [if_neg h0]
    have e2 : he b = 0 := by unfold he; rw [if_neg h0]
    have e3 : hd a b = fm 65581 a (fi 65581 b) := by unfold hd; rw [if_neg h0]
    rw [e2, e3]
    rw [e1, e2] at c1
    have c1 : Calls Try.prog 8 #[.int .u16 (b : Int)] w fun e w' => e = .returned (.tuple #[.int .u16 (fi 65581 b : Nat), .int .i64 0]) ∧ w' = w := c1
    have c2 := hmul_nat a (fi 65581 b) w ha (fi16_lt hb h0)
    clear e1 e2 e3
    go_enter Try.func9, Try.ntmps9
    go_wp2_with (first | (go_at_call 8; ((with_reducible refine (c1).mono ?_); rintro e w' ⟨rfl, rfl⟩)) | (go_at_call 7; ((with_reducible refine (c2).mono ?_); rintro e w' ⟨rfl, rfl⟩)))
    go_ret2
    exact ⟨rfl, rfl⟩

set_option maxHeartbeats 400000 in
set_option maxRecDepth 10000 in
theorem hexponent_int (n : Int) (w : World) :
    Calls Try.prog 19 #[.int .i64 n] w fun e w' => e = .returned (.int .i64 (eh n : Nat)) ∧ w' = w := by
  go_enter Try.func19, Try.ntmps19
  go_wp2
  · next h =>
    go_ret
    exact ⟨ret_int (eh_neg h), rfl⟩
  · next h =>
    go_ret
    exact ⟨ret_int (eh_pos h), rfl⟩

theorem powmod16 (a n : Nat) (w : World) (ha : a < 65536) (hn : n < 65535) :
    Calls Try.prog 18 #[.int .u64 (a : Int), .int .u64 (n : Int), .int .u64 65581] w fun e w' => e = .returned (.tuple #[.int .u64 (fp 65581 a n : Nat), .int .i64 0]) ∧ w' = w := by
  have h := powmod_yes a n 65581 w (by omega) (by omega) (by decide) (by decide)
  rw [powM_spec (by decide) (by decide)] at h
  exact h

set_option maxHeartbeats 400000 in
set_option maxRecDepth 10000 in
theorem hpow_int (a : Nat) (n : Int) (w : World) (ha : a < 65536) :
    Calls Try.prog 13 #[.int .u16 (a : Int), .int .i64 n] w fun e w' => e = .returned (.tuple #[.int .u16 (hp a n : Nat), .int .i64 (hpe a n : Nat)]) ∧ w' = w := by
  have c1 := hexponent_int n w
  have c2 := powmod16 a (eh n) w ha (eh_lt n)
  have l1 := fp16_lt a (eh n)
  have l2 := eh_lt n
  by_cases h0 : a = 0
  · subst h0
    rcases Int.lt_trichotomy n 0 with h | h | h
    · rw [show hp 0 n = 0 by simp [hp]; omega, show hpe 0 n = 20 by simp [hpe]; omega]
      go_enter Try.func13, Try.ntmps13
      go_wp2
      go_ret2
      exact ⟨rfl, rfl⟩
    · subst h
      rw [show hp 0 0 = 1 by decide, show hpe 0 0 = 0 by decide]
      rw [show eh 0 = 0 by decide, show fp 65581 0 0 = 1 by decide] at c2
      rw [show eh 0 = 0 by decide] at c1
      have c1 : Calls Try.prog 19 #[.int .i64 0] w fun e w' => e = .returned (.int .i64 0) ∧ w' = w := c1
      have c2 : Calls Try.prog 18 #[.int .u64 0, .int .u64 0, .int .u64 65581] w fun e w' => e = .returned (.tuple #[.int .u64 1, .int .i64 0]) ∧ w' = w := c2
      clear l1 l2
      go_enter Try.func13, Try.ntmps13
      go_wp2_with (first | (go_at_call 19; ((with_reducible refine (c1).mono ?_); rintro e w' ⟨rfl, rfl⟩)) | (go_at_call 18; ((with_reducible refine (c2).mono ?_); rintro e w' ⟨rfl, rfl⟩)))
      go_ret2
      exact ⟨rfl, rfl⟩
    · rw [show hp 0 n = 0 by simp [hp]; omega, show hpe 0 n = 0 by simp [hpe]; omega]
      go_enter Try.func13, Try.ntmps13
      go_wp2
      go_ret2
      exact ⟨rfl, rfl⟩
  · rw [show hp a n = fp 65581 a (eh n) by unfold hp; rw [if_neg h0], show hpe a n = 0 by unfold hpe; rw [if_neg (fun e => h0 e.1)]]
    go_enter Try.func13, Try.ntmps13
    go_wp2_with (first | (go_at_call 19; ((with_reducible refine (c1).mono ?_); rintro e w' ⟨rfl, rfl⟩)) | (go_at_call 18; ((with_reducible refine (c2).mono ?_); rintro e w' ⟨rfl, rfl⟩)))
    go_ret2
    exact ⟨rfl, rfl⟩
end Go.Proofs.YthebaclellimaaaR
