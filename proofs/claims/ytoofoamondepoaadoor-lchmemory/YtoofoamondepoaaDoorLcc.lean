import Derived.Test.YtoofoamondepoaaDoorLcb
namespace Go.Proofs.YtoofoamondepoaaDoor
open Go.RowKit Gf2
set_option linter.unusedVariables false

-- the table of trailing zeros
def tzl : List Nat := [0, 1, 56, 2, 57, 49, 28, 3, 61, 58, 42, 50, 38, 29, 17, 4, 62, 47, 59, 36, 45, 43, 51, 22, 53, 39, 33, 30, 24, 18, 12, 5, 63, 55, 48, 27, 60, 41, 37, 16, 46, 35, 44, 21, 52, 32, 23, 11, 54, 26, 40, 15, 34, 20, 31, 10, 25, 14, 19, 9, 13, 8, 7, 6]
def rT : Array Value := (tzl.map (fun n => Value.int .u8 ((n : Nat) : Int))).toArray
theorem rT_size : rT.size = 64 := by decide +kernel
/-- the table stands as it was laid. -/
def Tzt (w : World) : Prop := ∃ ty fr, w.heap[3]? = some (.cells rT ty fr)
theorem Tzt.below {w w' : World} (h : Tzt w) (hb : Below w.heap.size w w') : Tzt w' := by
  obtain ⟨t1, f1, h1⟩ := h
  exact ⟨t1, f1, by rw [hb.block _ (Array.getElem?_eq_some_iff.1 h1).1]; exact h1⟩
def tzi (k : Nat) : Nat := 2 ^ k * 285870213051353865 % 18446744073709551616 / 288230376151711744
theorem tz_and : ∀ k, k < 18 → bits BinOp.and IntKind.u64 ((2 ^ k : Nat) : Int) (IntKind.u64.wrap (-((2 ^ k : Nat) : Int))) = ((2 ^ k : Nat) : Int) := by decide +kernel
theorem tz_mul : ∀ k, k < 18 → IntKind.u64.wrap (((2 ^ k : Nat) : Int) * 285870213051353865) / 288230376151711744 = (tzi k : Nat) := by decide +kernel
theorem tz_get : ∀ k, k < 18 → tzi k < 64 ∧ tzl[tzi k]? = some k := by decide +kernel
set_option maxHeartbeats 2000000 in
set_option maxRecDepth 100000 in
theorem tz64 (k : Nat) (hk : k < 18) (w : World) (hT : Tzt w) :
    Calls Tryd.prog 53 #[.int .u64 ((2 ^ k : Nat) : Int)] w fun e w' => e = .returned (.int .i64 k) ∧ w' = w := by
  obtain ⟨ty, fr, hg⟩ := hT
  have A1 := tz_and k hk
  have M1 := tz_mul k hk
  obtain ⟨hi, hl⟩ := tz_get k hk
  have q : w.cell? ⟨3, tzi k, none⟩ = some (.int .u8 (k : Nat)) := by
    rw [cell_of_row w _ _ _ _ _ hg]
    unfold rT
    rw [List.getElem?_toArray, List.getElem?_map, hl]
    rfl
  have hp := Nat.two_pow_pos k
  have hp2 : 2 ^ k ≤ 2 ^ 17 := Nat.pow_le_pow_right (by decide) (by omega)
  obtain ⟨X, hX⟩ : ∃ X, X = 2 ^ k := ⟨_, rfl⟩
  obtain ⟨I, hI⟩ : ∃ I, I = tzi k := ⟨_, rfl⟩
  rw [← hX] at A1 M1 hp hp2 ⊢
  rw [← hI] at M1 hi q
  have D1 : ((X : Int) == 0) = false := by simp; omega
  have i0 : ((I : Nat) : Int) < 64 := by omega
  clear hX hI hg hl hp hp2
  go_enter Tryd.func53, Tryd.ntmps53
  go_wp2
  go_ret
  exact ⟨rfl, rfl⟩
set_option maxHeartbeats 2000000 in
set_option maxRecDepth 100000 in
theorem tz (k : Nat) (hk : k < 18) (w : World) (hT : Tzt w) :
    Calls Tryd.prog 36 #[.int .u64 ((2 ^ k : Nat) : Int)] w fun e w' => e = .returned (.int .i64 k) ∧ w' = w := by
  have c := tz64 k hk w hT
  have hp2 : 2 ^ k ≤ 2 ^ 17 := Nat.pow_le_pow_right (by decide) (by omega)
  obtain ⟨X, hX⟩ : ∃ X, X = 2 ^ k := ⟨_, rfl⟩
  rw [← hX] at c hp2 ⊢
  clear hX
  go_enter Tryd.func36, Tryd.ntmps36
  go_wp2_with (go_at_call 53; ((with_reducible refine (c).mono ?_); rintro e w' ⟨rfl, rfl⟩))
  go_ret
  exact ⟨rfl, rfl⟩
set_option maxHeartbeats 2000000 in
set_option maxRecDepth 100000 in
theorem levels13 (k n : Nat) (hk : k < 18) (hn : n = 2 ^ k) (a : Option Addr) (cap : Nat) (w : World) (hT : Tzt w) :
    Calls Tryd.prog 26 #[.slice a n cap] w fun e w' => e = .returned (.int .i64 k) ∧ w' = w := by
  have c := tz k hk w hT
  have hp2 : 2 ^ k ≤ 2 ^ 17 := Nat.pow_le_pow_right (by decide) (by omega)
  rw [← hn] at c hp2
  clear hn
  go_enter Tryd.func26, Tryd.ntmps26
  go_wp2_with (go_at_call 36; ((with_reducible refine (c).mono ?_); rintro e w' ⟨rfl, rfl⟩))
  go_ret
  exact ⟨rfl, rfl⟩

/-- a power of two, most at most. -/
def pw2 (n most : Nat) : Prop := ∃ k, n = 2 ^ k ∧ n ≤ most
theorem pow_and {n : Nat} (h0 : 0 < n) (h : n &&& (n - 1) = 0) : ∃ k, n = 2 ^ k := by
  induction n using Nat.strongRecOn with
  | _ n ih =>
    rcases Nat.mod_two_eq_zero_or_one n with h2 | h2
    · obtain ⟨m, rfl⟩ : ∃ m, n = 2 * m := ⟨n / 2, by omega⟩
      have hm : m &&& (m - 1) = 0 := by
        apply Nat.eq_of_testBit_eq
        intro i
        have hb : (2 * m &&& (2 * m - 1)).testBit (i + 1) = false := by rw [h]; exact Nat.zero_testBit _
        rw [Nat.testBit_and, Nat.testBit_succ, Nat.testBit_succ, show 2 * m / 2 = m by omega, show (2 * m - 1) / 2 = m - 1 by omega, ← Nat.testBit_and] at hb
        rw [hb, Nat.zero_testBit]
      obtain ⟨k, hk⟩ := ih m (by omega) (by omega) hm
      exact ⟨k + 1, by rw [hk, Nat.pow_succ, Nat.mul_comm]⟩
    · refine ⟨0, ?_⟩
      obtain ⟨m, rfl⟩ : ∃ m, n = 2 * m + 1 := ⟨n / 2, by omega⟩
      have hm : m = 0 := by
        apply Nat.eq_of_testBit_eq
        intro i
        have hb : ((2 * m + 1) &&& (2 * m + 1 - 1)).testBit (i + 1) = false := by rw [h]; exact Nat.zero_testBit _
        rw [Nat.testBit_and, Nat.testBit_succ, Nat.testBit_succ, show (2 * m + 1) / 2 = m by omega, show (2 * m + 1 - 1) / 2 = m by omega, Bool.and_self] at hb
        rw [hb, Nat.zero_testBit]
      rw [hm]
theorem and_pow (k : Nat) : 2 ^ k &&& (2 ^ k - 1) = 0 := by
  rw [Nat.and_two_pow_sub_one_eq_mod, Nat.mod_self]
theorem i64_and13 (a b : Nat) (ha : a < 9223372036854775808) (hb : b < 9223372036854775808) : bits .and .i64 (a : Int) (b : Int) = ((a &&& b : Nat) : Int) := by
  have hx : a &&& b < 2 ^ 63 := Nat.lt_of_le_of_lt Nat.and_le_left (by omega)
  show IntKind.i64.wrap ((BitVec.ofInt 64 (a : Int) &&& BitVec.ofInt 64 (b : Int)).toNat : Int) = _
  rw [BitVec.toNat_and, ofInt_u64 a (by omega), ofInt_u64 b (by omega), IntKind.wrap_i64]
  omega
set_option maxHeartbeats 2000000 in
set_option maxRecDepth 100000 in
theorem isPower_yes (k n most : Nat) (hn : n = 2 ^ k) (hm : n ≤ most) (hb : most ≤ 65536) (w : World) :
    Calls Tryd.prog 24 #[.int .i64 (n : Int), .int .i64 (most : Int)] w fun e w' => e = .returned (.bool true) ∧ w' = w := by
  have h0 : 0 < n := by rw [hn]; exact Nat.two_pow_pos k
  have A1 : bits .and .i64 (n : Int) ((n : Int) - 1) = 0 := by
    have := i64_and13 n (n - 1) (by omega) (by omega)
    rw [hn, and_pow, ← hn] at this
    rw [show ((n : Int) - 1) = ((n - 1 : Nat) : Int) by omega, this]; rfl
  have W1 : wrap64 ((n : Int) - 1) = (n : Int) - 1 := by unfold wrap64; omega
  have D1 : decide ((0 : Int) < (n : Int)) = true := by simp; omega
  have D2 : (n : Int) ≤ (most : Int) := by omega
  clear hn hm
  go_enter Tryd.func24, Tryd.ntmps24
  go_wp2
  go_ret
  exact ⟨rfl, rfl⟩
set_option maxHeartbeats 2000000 in
set_option maxRecDepth 100000 in
theorem isPower_no (n most : Nat) (hn : ¬ pw2 n most) (hb : most ≤ 65536) (hnb : n ≤ 9223372036854775807) (w : World) :
    Calls Tryd.prog 24 #[.int .i64 (n : Int), .int .i64 (most : Int)] w fun e w' => e = .returned (.bool false) ∧ w' = w := by
  by_cases h0 : n = 0
  · subst h0
    go_enter Tryd.func24, Tryd.ntmps24
    go_wp2
    go_ret
    exact ⟨rfl, rfl⟩
  · have D1 : (0 : Int) < (n : Int) := by omega
    by_cases h1 : n ≤ most
    · have D2 : (n : Int) ≤ (most : Int) := by omega
      have W1 : wrap64 ((n : Int) - 1) = (n : Int) - 1 := by unfold wrap64; omega
      have A0 := i64_and13 n (n - 1) (by omega) (by omega)
      have hz : n &&& (n - 1) ≠ 0 := fun e => by
        obtain ⟨k, hk⟩ := pow_and (by omega) e
        exact hn ⟨k, hk, h1⟩
      obtain ⟨Z, hZ⟩ : ∃ Z, Z = n &&& (n - 1) := ⟨_, rfl⟩
      rw [← hZ] at hz A0
      rw [show ((n - 1 : Nat) : Int) = (n : Int) - 1 by omega] at A0
      have D3 : ((Z : Int) == 0) = false := by simp; omega
      clear hZ hz hn h0 h1
      go_enter Tryd.func24, Tryd.ntmps24
      go_wp2
      go_ret
      exact ⟨rfl, rfl⟩
    · have D2 : ¬ (n : Int) ≤ (most : Int) := by omega
      clear h0 h1 hn
      go_enter Tryd.func24, Tryd.ntmps24
      go_wp2
      go_ret
      exact ⟨rfl, rfl⟩

set_option maxHeartbeats 2000000 in
set_option maxRecDepth 100000 in
theorem outside13 (i : Int) (w : World) :
    Calls Tryd.prog 33 #[.int .i64 i] w fun e w' => e = .returned (.bool (decide (i < 0 ∨ 16 < i))) ∧ w' = w := by
  by_cases h : i < 0
  · have D1 : decide (i < 0) = true := by simpa using h
    rw [show decide (i < 0 ∨ 16 < i) = true by simp [h]]
    clear h
    go_enter Tryd.func33, Tryd.ntmps33
    go_wp2
    go_ret
    exact ⟨rfl, rfl⟩
  · have D1 : decide (i < 0) = false := by simpa using h
    by_cases h2 : 16 < i
    · have D2 : decide (16 < i) = true := by simpa using h2
      rw [show decide (i < 0 ∨ 16 < i) = true by simp [h2]]
      clear h h2
      go_enter Tryd.func33, Tryd.ntmps33
      go_wp2
      go_ret
      exact ⟨rfl, rfl⟩
    · have D2 : decide (16 < i) = false := by simpa using h2
      rw [show decide (i < 0 ∨ 16 < i) = false by simp; omega]
      clear h h2
      go_enter Tryd.func33, Tryd.ntmps33
      go_wp2
      go_ret
      exact ⟨rfl, rfl⟩
theorem andn13 : ∀ t, t ≤ 16 → ∀ i, i ≤ 16 → decide (bits BinOp.andNot IntKind.i64 ((t : Nat) : Int) ((i : Nat) : Int) = 0) = decide (oc t i = 1) := by decide +kernel
set_option maxHeartbeats 2000000 in
set_option maxRecDepth 100000 in
theorem occurs13 (t i : Nat) (ht : t ≤ 16) (hi : i ≤ 16) (w : World) :
    Calls Tryd.prog 34 #[.int .i64 (t : Int), .int .i64 (i : Int)] w fun e w' => e = .returned (.bool (decide (oc t i = 1))) ∧ w' = w := by
  have A1 := andn13 t ht i hi
  rw [← A1]
  clear A1
  go_enter Tryd.func34, Tryd.ntmps34
  go_wp2
  go_ret
  exact ⟨rfl, rfl⟩
end Go.Proofs.YtoofoamondepoaaDoor
