import Derived.Test.YthebaclellimaaaRDhfm
namespace Go.Proofs.YthebaclellimaaaR
open Go.RowKit Gf2

/-- powers by squares: one round. -/
theorem pow_round {a p r : Nat} : (if r % 2 = 1 then fm 65581 (fm 65581 p a) (fp 65581 (fm 65581 a a) (r / 2)) else fm 65581 p (fp 65581 (fm 65581 a a) (r / 2))) = fm 65581 p (fp 65581 a r) := by
  have e : fp 65581 (fm 65581 a a) (r / 2) = fp 65581 a (2 * (r / 2)) := by rw [fld16.fp_mul, fp_two]
  rw [e]
  split
  · next h =>
    have h2 : r = 1 + 2 * (r / 2) := by omega
    conv => rhs; rw [h2, fld16.fp_add]
    rw [fld16.fm_assoc]
    congr 1
    unfold fp fm
    rw [pw_one, pmod_mul_left _ _ fld16.ne]
  · next h =>
    have h2 : r = 2 * (r / 2) := by omega
    rw [← h2]

set_option maxHeartbeats 1000000 in
theorem refPower_nat (a r : Nat) (w : World) (ha : a < 65536) (hr : r < 65536) :
    Calls Try.prog 17 #[.int .u16 (a : Int), .int .i64 (r : Int)] w fun e w' => e = .returned (.int .u16 (fp 65581 a r : Nat)) ∧ w' = w := by
  go_enter Try.func17, Try.ntmps17
  go_wp2
  go_loop [0, 1, 5] (fun x s p => ∃ A R P : Nat, A < 65536 ∧ R < 65536 ∧ P < 65536 ∧ fm 65581 P (fp 65581 A R) = fp 65581 a r ∧ x = .int .u16 A ∧ s = .int .i64 R ∧ p = .int .u16 P) (fun _ s _ => (intOf s).toNat)
  case atStart => exact ⟨a, r, 1, ha, hr, by decide, fld16.one_fm (fld16.fp_lt _ _), rfl, rfl, rfl⟩
  case round =>
    obtain ⟨A, R, P, hA, hR, hP, he, rfl, rfl, rfl⟩ := hrel
    have HE : Hid (fm 65581 P (fp 65581 A R) = fp 65581 a r) := he
    clear he
    by_cases h0 : R = 0
    · subst h0
      go_wp2
      go_ret
      refine ⟨ret_int ?_, rfl⟩
      rw [← HE.out, fld16.fp_zero, fld16.fm_one hP]
    · have c1 := fun w => refMulH_nat P A w hP hA
      have c2 := fun w => refMulH_nat A A w hA hA
      have l1 := fm16_lt P A
      have l2 := fm16_lt A A
      have PR := pow_round (a := A) (p := P) (r := R)
      have hR0 : 0 < R := by omega
      have e2 : (R : Int).tmod 2 = ((R % 2 : Nat) : Int) := by rw [Int.tmod_eq_emod_of_nonneg (by omega)]; omega
      have e3 : (R : Int).tdiv 2 = ((R / 2 : Nat) : Int) := by rw [Int.tdiv_eq_ediv_of_nonneg (by omega)]; omega
      by_cases h1 : R % 2 = 1
      · rw [if_pos h1] at PR
        have HP : Hid (fm 65581 (fm 65581 P A) (fp 65581 (fm 65581 A A) (R / 2)) = fm 65581 P (fp 65581 A R)) := PR
        have T : ((R : Int) % 2 == 1) = true := by simp; omega
        clear PR
        go_wp2_with (go_at_call 10; first | ((with_reducible refine (c1 _).mono ?_); rintro e w' ⟨rfl, rfl⟩) | ((with_reducible refine (c2 _).mono ?_); rintro e w' ⟨rfl, rfl⟩))
        go_round
        case rel => exact ⟨_, R / 2, _, l2, by omega, l1, by rw [HP.out, HE.out], rfl, by go_num, rfl⟩
        case measure => simp [intOf]; omega
      · rw [if_neg h1] at PR
        have HP : Hid (fm 65581 P (fp 65581 (fm 65581 A A) (R / 2)) = fm 65581 P (fp 65581 A R)) := PR
        have T : ((R : Int) % 2 == 1) = false := by simp; omega
        clear PR
        go_wp2_with (go_at_call 10; first | ((with_reducible refine (c1 _).mono ?_); rintro e w' ⟨rfl, rfl⟩) | ((with_reducible refine (c2 _).mono ?_); rintro e w' ⟨rfl, rfl⟩))
        go_round
        case rel => exact ⟨_, R / 2, _, l2, by omega, hP, by rw [HP.out, HE.out], rfl, by go_num, rfl⟩
        case measure => simp [intOf]; omega

/-- the exponent modulo 65535. -/
def eh (n : Int) : Nat := (n % 65535).toNat
theorem eh_lt (n : Int) : eh n < 65535 := by unfold eh; omega
theorem tmod_65535 (n : Int) : n.tmod 65535 = if 0 ≤ n then n % 65535 else -((-n) % 65535) := by
  split
  · next h => exact Int.tmod_eq_emod_of_nonneg h
  · next h =>
    have : n.tmod 65535 = -((-n).tmod 65535) := by rw [Int.neg_tmod, Int.neg_neg]
    rw [this, Int.tmod_eq_emod_of_nonneg (by omega)]
theorem eh_neg {n : Int} (h : n.tmod 65535 < 0) : wrap64 (n.tmod 65535 + 65535) = (eh n : Nat) := by
  rw [tmod_65535] at h ⊢
  unfold eh wrap64
  split at h <;> split <;> omega
theorem eh_pos {n : Int} (h : 0 ≤ n.tmod 65535) : n.tmod 65535 = (eh n : Nat) := by
  rw [tmod_65535] at h ⊢
  unfold eh
  split at h <;> split <;> omega

set_option maxHeartbeats 400000 in
set_option maxRecDepth 10000 in
theorem refMod_int (n : Int) (w : World) :
    Calls Try.prog 20 #[.int .i64 n] w fun e w' => e = .returned (.int .i64 (eh n : Nat)) ∧ w' = w := by
  go_enter Try.func20, Try.ntmps20
  go_wp2
  · next h =>
    go_ret
    exact ⟨ret_int (eh_neg h), rfl⟩
  · next h =>
    go_ret
    exact ⟨ret_int (eh_pos h), rfl⟩

/-- what Inv, Div, Pow, Log answer, 0 too. -/
def hi (a : Nat) : Nat := if a = 0 then 0 else fi 65581 a
def he (a : Nat) : Nat := if a = 0 then 20 else 0
def hd (a b : Nat) : Nat := if b = 0 then 0 else fm 65581 a (fi 65581 b)
def hp (a : Nat) (n : Int) : Nat := if a = 0 then (if n = 0 then 1 else 0) else fp 65581 a (eh n)
def hpe (a : Nat) (n : Int) : Nat := if a = 0 ∧ n < 0 then 20 else 0
def l16 (a : Nat) : Nat := lg 65581 16 a
def hl (a : Nat) : Nat := if a = 0 then 0 else l16 a
theorem fi_fp16 {a : Nat} (ha : a < 65536) (h0 : a ≠ 0) : fi 65581 a = fp 65581 a 65534 := fld16.fi_fp ha h0

set_option maxHeartbeats 400000 in
set_option maxRecDepth 10000 in
theorem refInvH_nat (a : Nat) (w : World) (ha : a < 65536) :
    Calls Try.prog 11 #[.int .u16 (a : Int)] w fun e w' => e = .returned (.tuple #[.int .u16 (hi a : Nat), .int .i64 (he a : Nat)]) ∧ w' = w := by
  by_cases h0 : a = 0
  · subst h0
    rw [show hi 0 = 0 by decide, show he 0 = 20 by decide]
    go_enter Try.func11, Try.ntmps11
    go_wp2
    go_ret2
    exact ⟨rfl, rfl⟩
  · have e1 : hi a = fp 65581 a 65534 := by unfold hi; rw [if_neg h0]; exact fi_fp16 ha h0
    have e2 : he a = 0 := by unfold he; rw [if_neg h0]
    rw [e1, e2]
    have c1 : ∀ w, Calls Try.prog 17 #[.int .u16 (a : Int), .int .i64 65534] w fun e w' => e = .returned (.int .u16 (fp 65581 a 65534 : Nat)) ∧ w' = w := fun w => refPower_nat a 65534 w ha (by decide)
    clear e1 e2
    go_enter Try.func11, Try.ntmps11
    go_wp2_with (go_at_call 17; ((with_reducible refine (c1 _).mono ?_); rintro e w' ⟨rfl, rfl⟩))
    go_ret2
    exact ⟨rfl, rfl⟩

set_option maxHeartbeats 400000 in
set_option maxRecDepth 10000 in
theorem refDivH_nat (a b : Nat) (w : World) (ha : a < 65536) (hb : b < 65536) :
    Calls Try.prog 12 #[.int .u16 (a : Int), .int .u16 (b : Int)] w fun e w' => e = .returned (.tuple #[.int .u16 (hd a b : Nat), .int .i64 (he b : Nat)]) ∧ w' = w := by
  by_cases h0 : b = 0
  · subst h0
    rw [show hd a 0 = 0 by unfold hd; rw [if_pos rfl], show he 0 = 20 by decide]
    go_enter Try.func12, Try.ntmps12
    go_wp2
    go_ret2
    exact ⟨rfl, rfl⟩
  · have e1 : hd a b = fm 65581 a (fp 65581 b 65534) := by unfold hd; rw [if_neg h0, fi_fp16 hb h0]
    have e2 : he b = 0 := by unfold he; rw [if_neg h0]
    rw [e1, e2]
    have c1 : ∀ w, Calls Try.prog 17 #[.int .u16 (b : Int), .int .i64 65534] w fun e w' => e = .returned (.int .u16 (fp 65581 b 65534 : Nat)) ∧ w' = w := fun w => refPower_nat b 65534 w hb (by decide)
    have c2 := fun w => refMulH_nat a (fp 65581 b 65534) w ha (fp16_lt _ _)
    clear e1 e2
    go_enter Try.func12, Try.ntmps12
    go_wp2_with (first | (go_at_call 17; ((with_reducible refine (c1 _).mono ?_); rintro e w' ⟨rfl, rfl⟩)) | (go_at_call 10; ((with_reducible refine (c2 _).mono ?_); rintro e w' ⟨rfl, rfl⟩)))
    go_ret2
    exact ⟨rfl, rfl⟩

set_option maxHeartbeats 400000 in
set_option maxRecDepth 10000 in
theorem refPowH_int (a : Nat) (n : Int) (w : World) (ha : a < 65536) :
    Calls Try.prog 14 #[.int .u16 (a : Int), .int .i64 n] w fun e w' => e = .returned (.tuple #[.int .u16 (hp a n : Nat), .int .i64 (hpe a n : Nat)]) ∧ w' = w := by
  by_cases h0 : a = 0
  · subst h0
    rcases Int.lt_trichotomy n 0 with h | h | h
    · rw [show hp 0 n = 0 by simp [hp]; omega, show hpe 0 n = 20 by simp [hpe]; omega]
      go_enter Try.func14, Try.ntmps14
      go_wp2
      go_ret2
      exact ⟨rfl, rfl⟩
    · subst h
      rw [show hp 0 0 = 1 by decide, show hpe 0 0 = 0 by decide]
      go_enter Try.func14, Try.ntmps14
      go_wp2
      go_ret2
      exact ⟨rfl, rfl⟩
    · rw [show hp 0 n = 0 by simp [hp]; omega, show hpe 0 n = 0 by simp [hpe]; omega]
      go_enter Try.func14, Try.ntmps14
      go_wp2
      go_ret2
      exact ⟨rfl, rfl⟩
  · have e1 : hp a n = fp 65581 a (eh n) := by unfold hp; rw [if_neg h0]
    have e2 : hpe a n = 0 := by unfold hpe; rw [if_neg (fun e => h0 e.1)]
    rw [e1, e2]
    have l1 := eh_lt n
    have c1 := fun w => refMod_int n w
    have c2 := fun w => refPower_nat a (eh n) w ha (by omega)
    clear e1 e2
    go_enter Try.func14, Try.ntmps14
    go_wp2_with (first | (go_at_call 20; ((with_reducible refine (c1 _).mono ?_); rintro e w' ⟨rfl, rfl⟩)) | (go_at_call 17; ((with_reducible refine (c2 _).mono ?_); rintro e w' ⟨rfl, rfl⟩)))
    go_ret2
    exact ⟨rfl, rfl⟩

end Go.Proofs.YthebaclellimaaaR
