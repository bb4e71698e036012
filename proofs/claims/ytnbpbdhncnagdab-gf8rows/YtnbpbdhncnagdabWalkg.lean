import Derived.Test.YtnbpbdhncnagdabWfer
import Derived.Test.YtnbpbdhncnagdabGfm
namespace Go.Proofs.Ytnbpbdhncnagdab
open Go.RowKit Gf2

theorem nat_u8 {a : Int} (h : (Lit.int .u8 a).wf = true) : ∃ n : Nat, a = n ∧ n < 256 := by
  have := bounds_u8 h
  exact ⟨a.toNat, by omega, by omega⟩
theorem fm8_lt (a b : Nat) : fm 285 a b < 256 := fld8.fm_lt a b
theorem fp8_lt (a b : Nat) : fp 285 a b < 256 := fld8.fp_lt a b
theorem fi8_lt {a : Nat} (ha : a < 256) (h0 : a ≠ 0) : fi 285 a < 256 := fld8.fi_lt ha h0

theorem mulmod8 (a b : Nat) (w : World) (ha : a < 256) (hb : b < 256) :
    Calls Try.prog 22 #[.int .u64 (a : Int), .int .u64 (b : Int), .int .u64 285] w fun e w' => e = .returned (.tuple #[.int .u64 (fm 285 a b : Nat), .int .i64 0]) ∧ w' = w := by
  have h := mulmod_yes a b 285 w (by omega) (by omega) (by decide) (by decide)
  rw [fld8.small ha, fld8.small hb, prod_eq' (n := 8) (m := 8) ha hb (by decide)] at h
  exact h

set_option maxHeartbeats 400000 in
theorem gmul_nat (a b : Nat) (w : World) (ha : a < 256) (hb : b < 256) :
    Calls Try.prog 8 #[.int .u8 (a : Int), .int .u8 (b : Int)] w fun e w' => e = .returned (.int .u8 (fm 285 a b : Nat)) ∧ w' = w := by
  have c1 := mulmod8 a b w ha hb
  have l1 := fm8_lt a b
  go_enter Try.func8, Try.ntmps8
  go_wp2_with (go_at_call 22; with_reducible refine c1.mono ?_; rintro e w' ⟨rfl, rfl⟩)
  go_ret
  exact ⟨rfl, rfl⟩

theorem invmod8 (a : Nat) (w : World) (ha : a < 256) (h0 : a ≠ 0) :
    Calls Try.prog 23 #[.int .u64 (a : Int), .int .u64 285] w fun e w' => e = .returned (.tuple #[.int .u64 (fi 285 a : Nat), .int .i64 0]) ∧ w' = w :=
  invmod_yes a 285 w (by omega) (by decide) (by decide) (fld8.gcd_one ha h0)

set_option maxHeartbeats 400000 in
theorem ginv_nat (a : Nat) (w : World) (ha : a < 256) (h0 : a ≠ 0) :
    Calls Try.prog 10 #[.int .u8 (a : Int)] w fun e w' => e = .returned (.tuple #[.int .u8 (fi 285 a : Nat), .int .i64 0]) ∧ w' = w := by
  have c1 := invmod8 a w ha h0
  have l1 := fi8_lt ha h0
  go_enter Try.func10, Try.ntmps10
  go_wp2_with (go_at_call 23; with_reducible refine c1.mono ?_; rintro e w' ⟨rfl, rfl⟩)
  go_ret2
  exact ⟨rfl, rfl⟩

set_option maxHeartbeats 400000 in
theorem ginv_zero (w : World) :
    Calls Try.prog 10 #[.int .u8 0] w fun e w' => e = .returned (.tuple #[.int .u8 0, .int .i64 20]) ∧ w' = w := by
  go_enter Try.func10, Try.ntmps10
  go_wp2
  go_ret2
  exact ⟨rfl, rfl⟩

set_option maxHeartbeats 400000 in
theorem gdiv_nat (a b : Nat) (w : World) (ha : a < 256) (hb : b < 256) (h0 : b ≠ 0) :
    Calls Try.prog 12 #[.int .u8 (a : Int), .int .u8 (b : Int)] w fun e w' => e = .returned (.tuple #[.int .u8 (fm 285 a (fi 285 b) : Nat), .int .i64 0]) ∧ w' = w := by
  have c1 := ginv_nat b w hb h0
  have c2 := gmul_nat a (fi 285 b) w ha (fi8_lt hb h0)
  go_enter Try.func12, Try.ntmps12
  go_wp2_with (first | (go_at_call 10; with_reducible refine c1.mono ?_; rintro e w' ⟨rfl, rfl⟩) | (go_at_call 8; with_reducible refine c2.mono ?_; rintro e w' ⟨rfl, rfl⟩))
  go_ret2
  exact ⟨rfl, rfl⟩

set_option maxHeartbeats 400000 in
theorem gdiv_zero (a : Nat) (w : World) :
    Calls Try.prog 12 #[.int .u8 (a : Int), .int .u8 0] w fun e w' => e = .returned (.tuple #[.int .u8 0, .int .i64 20]) ∧ w' = w := by
  have c1 := ginv_zero w
  go_enter Try.func12, Try.ntmps12
  go_wp2_with (go_at_call 10; with_reducible refine c1.mono ?_; rintro e w' ⟨rfl, rfl⟩)
  go_ret2
  exact ⟨rfl, rfl⟩

/-- the exponent: n less a multiple of 255. -/
def er (n : Int) : Nat := (n % 255).toNat
theorem er_lt (n : Int) : er n < 255 := by unfold er; omega

theorem tmod_255 (n : Int) : n.tmod 255 = if 0 ≤ n then n % 255 else -((-n) % 255) := by
  split
  · next h => exact Int.tmod_eq_emod_of_nonneg h
  · next h =>
    have : n.tmod 255 = -((-n).tmod 255) := by rw [Int.neg_tmod, Int.neg_neg]
    rw [this, Int.tmod_eq_emod_of_nonneg (by omega)]
theorem er_neg {n : Int} (h : n.tmod 255 < 0) : wrap64 (n.tmod 255 + 255) = (er n : Nat) := by
  rw [tmod_255] at h ⊢
  unfold er wrap64
  split at h <;> split <;> omega
theorem er_pos {n : Int} (h : 0 ≤ n.tmod 255) : n.tmod 255 = (er n : Nat) := by
  rw [tmod_255] at h ⊢
  unfold er
  split at h <;> split <;> omega

set_option maxHeartbeats 400000 in
theorem exponent_int (n : Int) (w : World) :
    Calls Try.prog 25 #[.int .i64 n] w fun e w' => e = .returned (.int .i64 (er n : Nat)) ∧ w' = w := by
  go_enter Try.func25, Try.ntmps25
  go_wp2
  · next h =>
    go_ret
    exact ⟨ret_int (er_neg h), rfl⟩
  · next h =>
    go_ret
    exact ⟨ret_int (er_pos h), rfl⟩

theorem powmod8 (a n : Nat) (w : World) (ha : a < 256) (hn : n < 255) :
    Calls Try.prog 24 #[.int .u64 (a : Int), .int .u64 (n : Int), .int .u64 285] w fun e w' => e = .returned (.tuple #[.int .u64 (fp 285 a n : Nat), .int .i64 0]) ∧ w' = w := by
  have h := powmod_yes a n 285 w (by omega) (by omega) (by decide) (by decide)
  rw [powM_spec (by decide) (by decide)] at h
  exact h

/-- what Pow answers. -/
def gp (a : Nat) (n : Int) : Nat := if a = 0 then (if n = 0 then 1 else 0) else fp 285 a (er n)
def ge (a : Nat) (n : Int) : Nat := if a = 0 ∧ n < 0 then 20 else 0
theorem gp_lt (a : Nat) (n : Int) : gp a n < 256 := by
  unfold gp
  have := fp8_lt a (er n)
  split
  · split <;> omega
  · exact this
theorem gp_ne {a : Nat} (n : Int) (h : a ≠ 0) : gp a n = fp 285 a (er n) := by unfold gp; rw [if_neg h]
theorem ge_ne {a : Nat} (n : Int) (h : a ≠ 0) : ge a n = 0 := by unfold ge; rw [if_neg (fun e => h e.1)]

set_option maxHeartbeats 400000 in
theorem gpow_int (a : Nat) (n : Int) (w : World) (ha : a < 256) :
    Calls Try.prog 13 #[.int .u8 (a : Int), .int .i64 n] w fun e w' => e = .returned (.tuple #[.int .u8 (gp a n : Nat), .int .i64 (ge a n : Nat)]) ∧ w' = w := by
  have c1 := exponent_int n w
  have c2 := powmod8 a (er n) w ha (er_lt n)
  have l1 := fp8_lt a (er n)
  have l2 := er_lt n
  by_cases h0 : a = 0
  · subst h0
    rcases Int.lt_trichotomy n 0 with h | h | h
    · rw [show gp 0 n = 0 by simp [gp]; omega, show ge 0 n = 20 by simp [ge]; omega]
      go_enter Try.func13, Try.ntmps13
      go_wp2
      go_ret2
      exact ⟨rfl, rfl⟩
    · subst h
      rw [show gp 0 0 = 1 by decide, show ge 0 0 = 0 by decide]
      rw [show fp 285 0 (er 0) = 1 by decide] at c2
      go_enter Try.func13, Try.ntmps13
      go_wp2_with (first | (go_at_call 25; with_reducible refine c1.mono ?_; rintro e w' ⟨rfl, rfl⟩) | (go_at_call 24; refine c2.mono ?_; rintro e w' ⟨rfl, rfl⟩))
      go_ret2
      exact ⟨rfl, rfl⟩
    · rw [show gp 0 n = 0 by simp [gp]; omega, show ge 0 n = 0 by simp [ge]; omega]
      go_enter Try.func13, Try.ntmps13
      go_wp2
      go_ret2
      exact ⟨rfl, rfl⟩
  · rw [gp_ne n h0, ge_ne n h0]
    go_enter Try.func13, Try.ntmps13
    go_wp2_with (first | (go_at_call 25; with_reducible refine c1.mono ?_; rintro e w' ⟨rfl, rfl⟩) | (go_at_call 24; with_reducible refine c2.mono ?_; rintro e w' ⟨rfl, rfl⟩))
    go_ret2
    exact ⟨rfl, rfl⟩

set_option maxHeartbeats 400000 in
theorem awake2_any (w : World) :
    Calls Try.prog 6 #[] w fun e w' => e = .returned (.bool true) ∧ w' = w := by
  have c1 : Calls Try.prog 10 #[.int .u8 2] w fun e w' => e = .returned (.tuple #[.int .u8 142, .int .i64 0]) ∧ w' = w := by
    have h := ginv_nat 2 w (by decide) (by decide)
    rw [show fi 285 2 = 142 by decide] at h
    exact h
  have c2 : Calls Try.prog 8 #[.int .u8 3, .int .u8 7] w fun e w' => e = .returned (.int .u8 9) ∧ w' = w := by
    have h := gmul_nat 3 7 w (by decide) (by decide)
    rw [show fm 285 3 7 = 9 by decide] at h
    exact h
  have c3 : Calls Try.prog 8 #[.int .u8 2, .int .u8 128] w fun e w' => e = .returned (.int .u8 29) ∧ w' = w := by
    have h := gmul_nat 2 128 w (by decide) (by decide)
    rw [show fm 285 2 128 = 29 by decide] at h
    exact h
  go_enter Try.func6, Try.ntmps6
  go_wp2_with (first | (go_at_call 10; with_reducible refine c1.mono ?_; rintro e w' ⟨rfl, rfl⟩) | (go_at_call 8; first | (with_reducible refine c2.mono ?_; rintro e w' ⟨rfl, rfl⟩) | (with_reducible refine c3.mono ?_; rintro e w' ⟨rfl, rfl⟩)))
  go_ret
  exact ⟨rfl, rfl⟩

/-- 2 times a by the shift. -/
def tw (a : Nat) : Nat := if 256 ≤ 2 * a then 2 * a ^^^ 285 else 2 * a
theorem tw_fm {a : Nat} (ha : a < 256) : fm 285 2 a = tw a := fld8.twice ha
theorem tw_lt {a : Nat} (ha : a < 256) : tw a < 256 := by rw [← tw_fm ha]; exact fm8_lt _ _

theorem i64_xor_nat (a b : Nat) (ha : a < 9223372036854775808) (hb : b < 9223372036854775808) : bits .xor .i64 (a : Int) (b : Int) = ((a ^^^ b : Nat) : Int) := by
  have hx : a ^^^ b < 2 ^ 63 := Nat.xor_lt_two_pow (by omega) (by omega)
  show IntKind.i64.wrap ((BitVec.ofInt 64 (a : Int) ^^^ BitVec.ofInt 64 (b : Int)).toNat : Int) = _
  rw [BitVec.toNat_xor, ofInt_u64 a (by omega), ofInt_u64 b (by omega), IntKind.wrap_i64]
  omega
theorem i64_and_nat (a b : Nat) (ha : a < 9223372036854775808) (hb : b < 9223372036854775808) : bits .and .i64 (a : Int) (b : Int) = ((a &&& b : Nat) : Int) := by
  have hx : a &&& b < 2 ^ 63 := Nat.and_lt_two_pow _ (by omega)
  show IntKind.i64.wrap ((BitVec.ofInt 64 (a : Int) &&& BitVec.ofInt 64 (b : Int)).toNat : Int) = _
  rw [BitVec.toNat_and, ofInt_u64 a (by omega), ofInt_u64 b (by omega), IntKind.wrap_i64]
  omega

set_option maxHeartbeats 400000 in
theorem twice_nat (a : Nat) (w : World) (ha : a < 256) :
    Calls Try.prog 16 #[.int .u8 (a : Int)] w fun e w' => e = .returned (.int .u8 (tw a : Nat)) ∧ w' = w := by
  have l := tw_lt ha
  by_cases h : 256 ≤ 2 * a
  · have e : tw a = 2 * a ^^^ 285 := by unfold tw; rw [if_pos h]
    rw [e] at l ⊢
    have X : bits BinOp.xor IntKind.i64 ((a : Int) * 2) 285 = ((2 * a ^^^ 285 : Nat) : Int) := by
      have := i64_xor_nat (2 * a) 285 (by omega) (by decide)
      rw [← this]
      congr 1
      omega
    generalize 2 * a ^^^ 285 = t at *
    go_enter Try.func16, Try.ntmps16
    go_wp2
    go_ret
    exact ⟨rfl, rfl⟩
  · have e : tw a = 2 * a := by unfold tw; rw [if_neg h]
    rw [e] at l ⊢
    go_enter Try.func16, Try.ntmps16
    go_wp2
    go_ret
    exact ⟨ret_int (by omega), rfl⟩
end Go.Proofs.Ytnbpbdhncnagdab
