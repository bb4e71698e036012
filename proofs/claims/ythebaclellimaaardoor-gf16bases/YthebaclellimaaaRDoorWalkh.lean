import Derived.Test.YthebaclellimaaaRDoorWfer
import Derived.Test.YthebaclellimaaaRDoorDhfr
namespace Go.Proofs.YthebaclellimaaaRDoor
open Go.RowKit Gf2

-- the contracts of gf16's plain calls
theorem nat_u16 {a : Int} (h : (Lit.int .u16 a).wf = true) : ∃ n : Nat, a = n ∧ n < 65536 := by
  have := bounds_u16 h
  exact ⟨a.toNat, by omega, by omega⟩
theorem fi16_lt {a : Nat} (ha : a < 65536) (h0 : a ≠ 0) : fi 65581 a < 65536 := fld16.fi_lt ha h0
theorem hi_lt {a : Nat} (ha : a < 65536) : hi a < 65536 := by
  unfold hi; split
  · decide
  · next h => exact fi16_lt ha h

theorem mulmod16 (a b : Nat) (w : World) (ha : a < 65536) (hb : b < 65536) :
    Calls Tryd.prog 25 #[.int .u64 (a : Int), .int .u64 (b : Int), .int .u64 65581] w fun e w' => e = .returned (.tuple #[.int .u64 (fm 65581 a b : Nat), .int .i64 0]) ∧ w' = w := by
  have h := mulmod_yes a b 65581 w (by omega) (by omega) (by decide) (by decide)
  rw [fld16.small ha, fld16.small hb, prod_eq' (n := 16) (m := 16) ha hb (by decide)] at h
  exact h

set_option maxHeartbeats 400000 in
set_option maxRecDepth 10000 in
theorem hmul_nat (a b : Nat) (w : World) (ha : a < 65536) (hb : b < 65536) :
    Calls Tryd.prog 12 #[.int .u16 (a : Int), .int .u16 (b : Int)] w fun e w' => e = .returned (.int .u16 (fm 65581 a b : Nat)) ∧ w' = w := by
  have c1 := mulmod16 a b w ha hb
  have l1 := fm16_lt a b
  go_enter Tryd.func12, Tryd.ntmps12
  go_wp2_with (go_at_call 25; ((with_reducible refine (c1).mono ?_); rintro e w' ⟨rfl, rfl⟩))
  go_ret
  exact ⟨rfl, rfl⟩

theorem invmod16 (a : Nat) (w : World) (ha : a < 65536) (h0 : a ≠ 0) :
    Calls Tryd.prog 28 #[.int .u64 (a : Int), .int .u64 65581] w fun e w' => e = .returned (.tuple #[.int .u64 (fi 65581 a : Nat), .int .i64 0]) ∧ w' = w :=
  invmod_yes a 65581 w (by omega) (by decide) (by decide) (fld16.gcd_one ha h0)

set_option maxHeartbeats 400000 in
set_option maxRecDepth 10000 in
theorem hinv_nat (a : Nat) (w : World) (ha : a < 65536) :
    Calls Tryd.prog 24 #[.int .u16 (a : Int)] w fun e w' => e = .returned (.tuple #[.int .u16 (hi a : Nat), .int .i64 (he a : Nat)]) ∧ w' = w := by
  by_cases h0 : a = 0
  · subst h0
    rw [show hi 0 = 0 by decide, show he 0 = 20 by decide]
    go_enter Tryd.func24, Tryd.ntmps24
    go_wp2
    go_ret2
    exact ⟨rfl, rfl⟩
  · have e1 : hi a = fi 65581 a := by unfold hi; rw [if_neg h0]
    have e2 : he a = 0 := by unfold he; rw [if_neg h0]
    rw [e1, e2]
    have c1 := invmod16 a w ha h0
    have l1 := fi16_lt ha h0
    clear e1 e2
    go_enter Tryd.func24, Tryd.ntmps24
    go_wp2_with (go_at_call 28; ((with_reducible refine (c1).mono ?_); rintro e w' ⟨rfl, rfl⟩))
    go_ret2
    exact ⟨rfl, rfl⟩

set_option maxHeartbeats 1000000 in
theorem htrace_nat (a : Nat) (w : World) (ha : a < 65536) :
    Calls Tryd.prog 10 #[.int .u16 (a : Int)] w fun e w' => e = .returned (.int .i64 (tr 65581 16 a : Nat)) ∧ w' = w := by
  go_enter Tryd.func10, Tryd.ntmps10
  go_wp2
  go_loop [0, 3, 4] (fun x t i => ∃ A T k : Nat, A < 65536 ∧ T < 65536 ∧ k ≤ 16 ∧ T ^^^ trF 65581 (16 - k) A = tr 65581 16 a ∧ x = .int .u16 A ∧ t = .int .u16 T ∧ i = .int .i64 k) (fun _ _ i => 16 - (intOf i).toNat)
  case atStart => exact ⟨a, 0, 0, ha, by decide, by decide, by rw [Nat.zero_xor]; rfl, rfl, rfl, rfl⟩
  case round =>
    obtain ⟨A, T, k, hA, hT, hk, he, rfl, rfl, rfl⟩ := hrel
    have HE : Hid (T ^^^ trF 65581 (16 - k) A = tr 65581 16 a) := he
    clear he
    by_cases hlt : k < 16
    · have c1 := fun w => hmul_nat A A w hA hA
      have X := u16_xor_nat T A hT hA
      have hx : T ^^^ A < 65536 := Nat.xor_lt_two_pow (n := 16) hT hA
      have HM : Hid (T ^^^ A ^^^ trF 65581 (16 - (k + 1)) (fm 65581 A A) = tr 65581 16 a) := by
        have h := HE.out
        rw [show 16 - k = (16 - (k + 1)) + 1 by omega] at h
        rw [Nat.xor_assoc]
        exact h
      go_wp2_with (go_at_call 12; ((with_reducible refine (c1 _).mono ?_); rintro e w' ⟨rfl, rfl⟩))
      go_round
      case rel => exact ⟨_, _, k + 1, fm16_lt _ _, hx, by omega, HM.out, rfl, rfl, by go_num⟩
      case measure => simp [intOf]; omega
    · have hk6 : k = 16 := by omega
      subst hk6
      go_wp2
      go_ret
      refine ⟨ret_int ?_, rfl⟩
      rw [← HE.out]
      simp [trF]
end Go.Proofs.YthebaclellimaaaRDoor
