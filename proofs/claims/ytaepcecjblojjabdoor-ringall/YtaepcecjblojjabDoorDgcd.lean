import Derived.Test.YtaepcecjblojjabDoorDdiv
import Derived.Test.YtaepcecjblojjabDoorGfh
namespace Go.Proofs.YtaepcecjblojjabDoor
open Go.RowKit Gf2

theorem beq0_true {n : Nat} (h : n % 2 = 0) : (((n % 2 : Nat) : Int) == 0) = true := by simp; omega

theorem gm_left {C D E F : Nat} (h1 : E = C ∨ 2 * len E < 2 * len C) (h2 : F = D ∨ 2 * len F < 2 * len D) (h3 : len E ≤ len C) (h4 : len F ≤ len D) (e1 : E % 2 = 1) (e2 : F % 2 = 1) (hp : (E ^^^ F) % 2 ≠ 1) (hd : len F ≤ len E) : gm (E ^^^ F) F < gm C D := by
  have hl : len (E ^^^ F) ≤ len E := by have := len_xor_le E F; omega
  unfold gm
  rw [if_neg (by omega)]
  rcases h1 with rfl | h1
  · rcases h2 with rfl | h2
    · rw [if_pos ⟨e1, e2⟩]; omega
    · split <;> omega
  · split <;> omega
theorem gm_right {C D E F : Nat} (h1 : E = C ∨ 2 * len E < 2 * len C) (h2 : F = D ∨ 2 * len F < 2 * len D) (h3 : len E ≤ len C) (h4 : len F ≤ len D) (e1 : E % 2 = 1) (e2 : F % 2 = 1) (hp : (F ^^^ E) % 2 ≠ 1) (hd : ¬ len F ≤ len E) : gm E (F ^^^ E) < gm C D := by
  have hl : len (F ^^^ E) ≤ len F := by have := len_xor_le F E; omega
  unfold gm
  rw [if_neg (by omega)]
  rcases h1 with rfl | h1
  · rcases h2 with rfl | h2
    · rw [if_pos ⟨e1, e2⟩]; omega
    · split <;> omega
  · split <;> omega

set_option maxHeartbeats 2000000 in
theorem refGcd_nat (a b : Nat) (w : World) (ha : a < 18446744073709551616) (hb : b < 18446744073709551616) :
    Calls Tryd.prog 26 #[.int .u64 (a : Int), .int .u64 (b : Int)] w fun e w' => e = .returned (.int .u64 (pgcd a b : Nat)) ∧ w' = w := by
  by_cases ha0 : a = 0
  · subst ha0
    rw [pgcd_zero_left]
    go_enter Tryd.func26, Tryd.ntmps26
    go_wp2
    go_ret
    exact ⟨rfl, rfl⟩
  by_cases hb0 : b = 0
  · subst hb0
    have T : ((a : Int) == 0) = false := by simp; omega
    rw [pgcd_zero]
    go_enter Tryd.func26, Tryd.ntmps26
    go_wp2
    go_ret
    exact ⟨rfl, rfl⟩
  have Ta : ((a : Int) == 0) = false := by simp; omega
  have Tb : ((b : Int) == 0) = false := by simp; omega
  have hg0 : pgcd a b ≠ 0 := pgcd_ne_zero (Or.inl ha0)
  have hgl : len (pgcd a b) ≤ 64 := by
    have := (dv_len (pgcd_dv a b).1 ha0).2
    have : len a ≤ 64 := len_le.2 ha
    omega
  have hg64 : pgcd a b < 18446744073709551616 := (len_le (n := 64)).1 hgl
  go_enter Tryd.func26, Tryd.ntmps26
  go_wp2
  go_loop [0, 1, 5] (fun x y t => ∃ A B n : Nat, A ≠ 0 ∧ B ≠ 0 ∧ A < 18446744073709551616 ∧ B < 18446744073709551616 ∧ n ≤ 64 ∧ pgcd a b = pgcd A B * 2 ^ n ∧ x = .int .u64 A ∧ y = .int .u64 B ∧ t = .int .i64 n) (fun x _ _ => (intOf x).toNat)
  case atStart => exact ⟨a, b, 0, ha0, hb0, ha, hb, by decide, by simp, rfl, rfl, rfl⟩
  case round =>
    obtain ⟨A, B, n, hA0, hB0, hA, hB, hn, hg, rfl, rfl, rfl⟩ := hrel
    have HG : Hid (pgcd a b = pgcd A B * 2 ^ n) := hg
    have hn63 : n < 64 := by
      have h1 : 2 ^ n ≤ pgcd a b := by
        rw [hg]
        have : 1 ≤ pgcd A B := by have := pgcd_ne_zero (a := A) (b := B) (Or.inl hA0); omega
        have := Nat.mul_le_mul_right (2 ^ n) this
        omega
      have h2 : n < len (pgcd a b) := lt_len.2 h1
      omega
    clear hg
    by_cases hev : A % 2 = 0 ∧ B % 2 = 0
    · obtain ⟨e1, e2⟩ := hev
      have T1 : (((A % 2 : Nat) : Int) == 0) = true := beq0_true e1
      have T2 : (((B % 2 : Nat) : Int) == 0) = true := beq0_true e2
      have HH : Hid (pgcd A B = 2 * pgcd (A / 2) (B / 2)) := by
        show pgcd A B = 2 * pgcd (A / 2) (B / 2)
        rw [← pgcd_both, show 2 * (A / 2) = A by omega, show 2 * (B / 2) = B by omega]
      go_wp2
      go_round
      case rel =>
        refine ⟨A / 2, B / 2, n + 1, by omega, by omega, by omega, by omega, by omega, ?_, by go_num, by go_num, by go_num⟩
        rw [HG.out, HH.out, Nat.pow_succ, Nat.mul_comm 2 (pgcd _ _), Nat.mul_assoc, Nat.mul_comm 2]
      case measure => simp [intOf]; omega
    · have hodd : Hid (A % 2 = 1 ∨ B % 2 = 1) := by show A % 2 = 1 ∨ B % 2 = 1; omega
      have hT : (A % 2 = 0 ∧ B % 2 = 1) ∨ A % 2 = 1 := by omega
      clear hev
      rcases hT with ⟨e1, e2⟩ | e1
      all_goals go_wp2
      all_goals
        clear e1
        go_loop [0, 1] (fun x y => ∃ C D : Nat, D ≠ 0 ∧ C < 18446744073709551616 ∧ D < 18446744073709551616 ∧ (C % 2 = 1 ∨ D % 2 = 1) ∧ pgcd C D = pgcd A B ∧ x = .int .u64 C ∧ y = .int .u64 D) (fun x y => gm (intOf x).toNat (intOf y).toNat)
        case atStart => exact ⟨A, B, hB0, hA, hB, hodd.out, rfl, rfl, rfl⟩
        case round =>
          obtain ⟨C, D, hD0, hC, hD, hcd, hg, rfl, rfl⟩ := hrel
          have HC : Hid (pgcd C D = pgcd A B) := hg
          have HO : Hid (C % 2 = 1 ∨ D % 2 = 1) := hcd
          clear hg hcd
          by_cases hC0 : C = 0
          · subst hC0
            have hD1 : D = pgcd A B := by rw [← HC.out, pgcd_zero_left]
            have hDn : D * 2 ^ n = pgcd a b := by rw [HG.out, hD1]
            have HX : IntKind.u64.wrap ((D : Int) * 2 ^ n) = ((pgcd a b : Nat) : Int) := by
              have e : ((D : Int) * 2 ^ n) = ((D * 2 ^ n : Nat) : Int) := by simp
              rw [e, hDn]; exact wrap_nat _ hg64
            clear hD1 hDn
            go_wp2
            go_ret
            exact ⟨rfl, rfl⟩
          · have TC : ((C : Int) != 0) = true := by simp; omega
            go_wp2
            go_loop [0] (fun x => ∃ E : Nat, E ≠ 0 ∧ E ≤ C ∧ (E % 2 = 1 ∨ D % 2 = 1) ∧ pgcd E D = pgcd A B ∧ (E = C ∨ (2 * len E < 2 * len C)) ∧ x = .int .u64 E) (fun x => (intOf x).toNat)
            case atStart => exact ⟨C, hC0, Nat.le_refl _, HO.out, HC.out, Or.inl rfl, rfl⟩
            case round =>
              obtain ⟨E, hE0, hEC, hcd, hg, hlen, rfl⟩ := hrel
              have HE : Hid (pgcd E D = pgcd A B) := hg
              have HO2 : Hid (E % 2 = 1 ∨ D % 2 = 1) := hcd
              have HL : Hid (E = C ∨ (2 * len E < 2 * len C)) := hlen
              clear hg hcd hlen
              by_cases e1 : E % 2 = 0
              · have T1 : (((E % 2 : Nat) : Int) == 0) = true := beq0_true e1
                go_wp2
                go_round
                case rel =>
                  have hd1 : D % 2 = 1 := by have := HO2.out; omega
                  have hh := @len_half E
                  have hp := len_pos.2 hE0
                  have hle := len_le_of_strip hEC
                  refine ⟨E / 2, by omega, by omega, Or.inr hd1, ?_, Or.inr (by omega), by go_num⟩
                  rw [← HE.out]
                  have := pgcd_two_odd (x := E / 2) hd1 hD
                  rw [show 2 * (E / 2) = E by omega] at this
                  exact this.symm
                case measure => simp [intOf]; omega
              · have T1 : (((E % 2 : Nat) : Int) == 0) = false := by simp; omega
                have hE : E < 18446744073709551616 := by omega
                go_wp2
                clear T1 TC
                go_loop [1] (fun y => ∃ F : Nat, F ≠ 0 ∧ F ≤ D ∧ pgcd E F = pgcd A B ∧ (F = D ∨ (2 * len F < 2 * len D)) ∧ y = .int .u64 F) (fun y => (intOf y).toNat)
                case atStart => exact ⟨D, hD0, Nat.le_refl _, HE.out, Or.inl rfl, rfl⟩
                case round =>
                  obtain ⟨F, hF0, hFD, hg, hlen, rfl⟩ := hrel
                  have HF : Hid (pgcd E F = pgcd A B) := hg
                  have HL2 : Hid (F = D ∨ (2 * len F < 2 * len D)) := hlen
                  clear hg hlen
                  by_cases e2 : F % 2 = 0
                  · have T1 : (((F % 2 : Nat) : Int) == 0) = true := beq0_true e2
                    go_wp2
                    go_round
                    case rel =>
                      have hh := @len_half F
                      have hp := len_pos.2 hF0
                      have hle := len_le_of_strip hFD
                      refine ⟨F / 2, by omega, by omega, ?_, Or.inr (by omega), by go_num⟩
                      rw [← HF.out]
                      have := pgcd_two_odd' (x := E) (y := F / 2) (by omega) hE
                      rw [show 2 * (F / 2) = F by omega] at this
                      exact this.symm
                    case measure => simp [intOf]; omega
                  · have T1 : (((F % 2 : Nat) : Int) == 0) = false := by simp; omega
                    have hF : F < 18446744073709551616 := by omega
                    have hle1 := len_le_of_strip hEC
                    have hle2 := len_le_of_strip hFD
                    have HLE : Hid (len E ≤ len C ∧ len F ≤ len D) := ⟨hle1, hle2⟩
                    have X1 := u64_xor_nat E F hE hF
                    have X2 := u64_xor_nat F E hF hE
                    have hx1 := xor_lt64 hE hF
                    have hx2 := xor_lt64 hF hE
                    have p1 : (E ^^^ F) % 2 ≠ 1 := by
                      have := Nat.xor_mod_two_eq_one (a := E) (b := F); omega
                    have p2 : (F ^^^ E) % 2 ≠ 1 := by rw [Nat.xor_comm]; exact p1
                    have HP : Hid ((E ^^^ F) % 2 ≠ 1 ∧ (F ^^^ E) % 2 ≠ 1) := ⟨p1, p2⟩
                    clear p1 p2 hle1 hle2
                    by_cases hd : len F ≤ len E
                    · have D1 : decide ((len F : Int) - 1 ≤ (len E : Int) - 1) = true := by simp; omega
                      go_wp2_with (go_at_call 22; refine (refDegree_nat _ _ (by assumption)).mono ?_; rintro e w1 ⟨rfl, rfl⟩)
                      go_round
                      case rel => exact ⟨E ^^^ F, F, hF0, hx1, hF, Or.inr (by omega), by rw [pgcd_xor_left]; exact HF.out, rfl, rfl⟩
                      case measure =>
                        simp only [intOf, Int.toNat_natCast]
                        exact gm_left HL.out HL2.out HLE.out.1 HLE.out.2 (by omega) (by omega) HP.out.1 hd
                    · have D1 : decide ((len F : Int) - 1 ≤ (len E : Int) - 1) = false := by simp; omega
                      go_wp2_with (go_at_call 22; refine (refDegree_nat _ _ (by assumption)).mono ?_; rintro e w1 ⟨rfl, rfl⟩)
                      go_round
                      case rel =>
                        refine ⟨E, F ^^^ E, ?_, hE, hx2, Or.inl (by omega), by rw [pgcd_xor_right]; exact HF.out, rfl, rfl⟩
                        intro h0
                        have := xor_eq_zero h0
                        rw [this] at hd; omega
                      case measure =>
                        simp only [intOf, Int.toNat_natCast]
                        exact gm_right HL.out HL2.out HLE.out.1 HLE.out.2 (by omega) (by omega) HP.out.2 hd
end Go.Proofs.YtaepcecjblojjabDoor
