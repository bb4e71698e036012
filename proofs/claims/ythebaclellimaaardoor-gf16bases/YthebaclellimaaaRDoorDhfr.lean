import Derived.Test.YthebaclellimaaaRDoorDhfm
namespace Go.Proofs.YthebaclellimaaaRDoor
open Go.RowKit Gf2

/-- powers by squares: one round. -/
theorem pow_round {a p r : Nat} : (if r % 2 = 1 then fm 65581 (fm 65581 p a) (fp 65581 (fm 65581 a a) (r / 2)) else fm 65581 p (fp 65581 (fm 65581 a a) (r / 2))) = fm 65581 p (fp 65581 a r) := by
  have e : fp 65581 (fm 65581 a a) (r / 2) = fp 65581 a (2 * (r / 2)) := by rw [fld16.fp_mul, fp_two]
  rw [e]
  split
  · next h =>
    have h2 : r = 1 + 2 * (r / 2) := by omega
    conv => rhs; rw [h2, fld16.fp_add]
    rw [fld16.fm_assoc]
    congr 1
    unfold fp fm
    rw [pw_one, pmod_mul_left _ _ fld16.ne]
  · next h =>
    have h2 : r = 2 * (r / 2) := by omega
    rw [← h2]

/-- the exponent modulo 65535. -/
def eh (n : Int) : Nat := (n % 65535).toNat
theorem eh_lt (n : Int) : eh n < 65535 := by unfold eh; omega
theorem tmod_65535 (n : Int) : n.tmod 65535 = if 0 ≤ n then n % 65535 else -((-n) % 65535) := by
  split
  · next h => exact Int.tmod_eq_emod_of_nonneg h
  · next h =>
    have : n.tmod 65535 = -((-n).tmod 65535) := by rw [Int.neg_tmod, Int.neg_neg]
    rw [this, Int.tmod_eq_emod_of_nonneg (by omega)]
theorem eh_neg {n : Int} (h : n.tmod 65535 < 0) : wrap64 (n.tmod 65535 + 65535) = (eh n : Nat) := by
  rw [tmod_65535] at h ⊢
  unfold eh wrap64
  split at h <;> split <;> omega
theorem eh_pos {n : Int} (h : 0 ≤ n.tmod 65535) : n.tmod 65535 = (eh n : Nat) := by
  rw [tmod_65535] at h ⊢
  unfold eh
  split at h <;> split <;> omega

/-- what Inv, Div, Pow, Log answer, 0 too. -/
def hi (a : Nat) : Nat := if a = 0 then 0 else fi 65581 a
def he (a : Nat) : Nat := if a = 0 then 20 else 0
def hd (a b : Nat) : Nat := if b = 0 then 0 else fm 65581 a (fi 65581 b)
def hp (a : Nat) (n : Int) : Nat := if a = 0 then (if n = 0 then 1 else 0) else fp 65581 a (eh n)
def hpe (a : Nat) (n : Int) : Nat := if a = 0 ∧ n < 0 then 20 else 0
def l16 (a : Nat) : Nat := lg 65581 16 a
def hl (a : Nat) : Nat := if a = 0 then 0 else l16 a
theorem fi_fp16 {a : Nat} (ha : a < 65536) (h0 : a ≠ 0) : fi 65581 a = fp 65581 a 65534 := fld16.fi_fp ha h0

set_option maxHeartbeats 1000000 in
theorem refTrace_nat (a : Nat) (w : World) (ha : a < 65536) :
    Calls Tryd.prog 17 #[.int .u16 (a : Int)] w fun e w' => e = .returned (.int .i64 (tr 65581 16 a : Nat)) ∧ w' = w := by
  go_enter Tryd.func17, Tryd.ntmps17
  go_wp2
  go_loop [0, 3, 4] (fun x t i => ∃ A T k : Nat, A < 65536 ∧ T < 65536 ∧ k ≤ 16 ∧ T ^^^ trF 65581 (16 - k) A = tr 65581 16 a ∧ x = .int .u16 A ∧ t = .int .u16 T ∧ i = .int .i64 k) (fun _ _ i => 16 - (intOf i).toNat)
  case atStart => exact ⟨a, 0, 0, ha, by decide, by decide, by rw [Nat.zero_xor]; rfl, rfl, rfl, rfl⟩
  case round =>
    obtain ⟨A, T, k, hA, hT, hk, he, rfl, rfl, rfl⟩ := hrel
    have HE : Hid (T ^^^ trF 65581 (16 - k) A = tr 65581 16 a) := he
    clear he
    by_cases hlt : k < 16
    · have c1 := fun w => refMulH_nat A A w hA hA
      have X := u16_xor_nat T A hT hA
      have hx : T ^^^ A < 65536 := Nat.xor_lt_two_pow (n := 16) hT hA
      have HM : Hid (T ^^^ A ^^^ trF 65581 (16 - (k + 1)) (fm 65581 A A) = tr 65581 16 a) := by
        have h := HE.out
        rw [show 16 - k = (16 - (k + 1)) + 1 by omega] at h
        rw [Nat.xor_assoc]
        exact h
      go_wp2_with (go_at_call 26; ((with_reducible refine (c1 _).mono ?_); rintro e w' ⟨rfl, rfl⟩))
      go_round
      case rel => exact ⟨_, _, k + 1, fm16_lt _ _, hx, by omega, HM.out, rfl, rfl, by go_num⟩
      case measure => simp [intOf]; omega
    · have hk6 : k = 16 := by omega
      subst hk6
      go_wp2
      go_ret
      refine ⟨ret_int ?_, rfl⟩
      rw [← HE.out]
      simp [trF]
end Go.Proofs.YthebaclellimaaaRDoor
