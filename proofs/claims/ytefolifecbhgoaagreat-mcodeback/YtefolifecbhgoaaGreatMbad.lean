import Derived.Test.YtefolifecbhgoaaGreatMbac
import Derived.OpenShut
import Derived.Test.YtefolifecbhgoaaGreatMbaa
namespace Go.Proofs.YtefolifecbhgoaaGreat
open Go.RowKit Gf2

set_option maxHeartbeats 400000 in
theorem remainder_nat (a b : Nat) (w : World) (ha : a < 18446744073709551616) (hb : b < 18446744073709551616) (hb0 : b ≠ 0) :
    Calls Tryz.prog 157 #[.int .u64 (a : Int), .int .u64 (b : Int)] w fun e w' => e = .returned (.int .u64 (pmod a b : Nat)) ∧ w' = w := by
  go_enter Tryz.func157, Tryz.ntmps157
  go_wp2_with (go_at_call 164; refine (divide_nat _ _ _ ha hb hb0).mono ?_; rintro e w' ⟨rfl, rfl⟩)
  go_ret
  exact ⟨rfl, rfl⟩

set_option maxHeartbeats 400000 in
theorem times_nat (a b p : Nat) (w : World) (ha : a < 18446744073709551616) (hb : b < 18446744073709551616) (hp : p < 18446744073709551616) (hp0 : p ≠ 0) :
    Calls Tryz.prog 156 #[.int .u64 (a : Int), .int .u64 (b : Int), .int .u64 (p : Int)] w fun e w' => e = .returned (.int .u64 (pmod (prod a b) p : Nat)) ∧ w' = w := by
  go_enter Tryz.func156, Tryz.ntmps156
  go_wp2_with (first | (go_at_call 163; refine (product_nat _ _ _ ha hb).mono ?_; rintro e w' ⟨rfl, rfl⟩) | (go_at_call 157; refine (remainder_nat _ _ _ (prod_lt _ _) hp hp0).mono ?_; rintro e w' ⟨rfl, rfl⟩))
  go_ret
  exact ⟨rfl, rfl⟩

def isMod (p : Nat) (g : Nat) : Bool := decide (2 ≤ len p ∧ len p ≤ g + 1)

set_option maxHeartbeats 400000 in
theorem isModulus_nat (p g : Nat) (w : World) (hp : p < 18446744073709551616) (_hg : g ≤ 64) :
    Calls Tryz.prog 155 #[.int .u64 (p : Int), .int .i64 (g : Int)] w fun e w' => e = .returned (.bool (isMod p g)) ∧ w' = w := by
  have hlp : len p ≤ 64 := len_le.2 hp
  by_cases h1 : 2 ≤ len p
  · by_cases h2 : len p ≤ g + 1
    · have e : isMod p g = true := by simp [isMod, h1, h2]
      rw [e]; clear e
      go_enter Tryz.func155, Tryz.ntmps155
      go_wp2_with (go_at_call 162; refine (degree_nat _ _ hp).mono ?_; rintro e w' ⟨rfl, rfl⟩)
      go_ret
      exact ⟨ret_bool (by simp; omega), rfl⟩
    · have e : isMod p g = false := by simp [isMod, h2]
      rw [e]; clear e
      go_enter Tryz.func155, Tryz.ntmps155
      go_wp2_with (go_at_call 162; refine (degree_nat _ _ hp).mono ?_; rintro e w' ⟨rfl, rfl⟩)
      go_ret
      exact ⟨ret_bool (by simp; omega), rfl⟩
  · have e : isMod p g = false := by simp [isMod, h1]
    rw [e]; clear e
    go_enter Tryz.func155, Tryz.ntmps155
    go_wp2_with (go_at_call 162; refine (degree_nat _ _ hp).mono ?_; rintro e w' ⟨rfl, rfl⟩)
    go_ret
    exact ⟨rfl, rfl⟩

theorem isMod_true {p g : Nat} (h : isMod p g = true) : 2 ≤ len p ∧ len p ≤ g + 1 := by simpa [isMod] using h
theorem isMod_ne {p g : Nat} (h : isMod p g = true) : p ≠ 0 := by
  rintro rfl; have := isMod_true h; rw [len_zero] at this; omega

set_option maxHeartbeats 400000 in
theorem mulmod_yes (a b p : Nat) (w : World) (ha : a < 18446744073709551616) (hb : b < 18446744073709551616) (hp : p < 18446744073709551616) (h : isMod p 32 = true) :
    Calls Tryz.prog 142 #[.int .u64 (a : Int), .int .u64 (b : Int), .int .u64 (p : Int)] w fun e w' => e = .returned (.tuple #[.int .u64 (pmod (prod (pmod a p) (pmod b p)) p : Nat), .int .i64 0]) ∧ w' = w := by
  have hp0 := isMod_ne h
  have h1 := pmod_lt a hp0 hp
  have h2 := pmod_lt b hp0 hp
  go_enter Tryz.func142, Tryz.ntmps142
  go_wp2_with (first | (go_at_call 155; refine (isModulus_nat _ 32 _ hp (by decide)).mono ?_; rw [h]; rintro e w' ⟨rfl, rfl⟩) | (go_at_call 157; refine (remainder_nat _ _ _ (by assumption) hp hp0).mono ?_; rintro e w' ⟨rfl, rfl⟩) | (go_at_call 156; refine (times_nat _ _ _ _ h1 h2 hp hp0).mono ?_; rintro e w' ⟨rfl, rfl⟩))
  go_ret2
  exact ⟨rfl, rfl⟩

end Go.Proofs.YtefolifecbhgoaaGreat
namespace Go.Proofs.YtefolifecbhgoaaGreat
open Go.RowKit Gf2

theorem fm8_lt (a b : Nat) : fm 285 a b < 256 := fld8.fm_lt a b
theorem fp8_lt (a b : Nat) : fp 285 a b < 256 := fld8.fp_lt a b
theorem fi8_lt {a : Nat} (ha : a < 256) (h0 : a ≠ 0) : fi 285 a < 256 := fld8.fi_lt ha h0

theorem mulmod8 (a b : Nat) (w : World) (ha : a < 256) (hb : b < 256) :
    Calls Tryz.prog 142 #[.int .u64 (a : Int), .int .u64 (b : Int), .int .u64 285] w fun e w' => e = .returned (.tuple #[.int .u64 (fm 285 a b : Nat), .int .i64 0]) ∧ w' = w := by
  have h := mulmod_yes a b 285 w (by omega) (by omega) (by decide) (by decide)
  rw [fld8.small ha, fld8.small hb, prod_eq' (n := 8) (m := 8) ha hb (by decide)] at h
  exact h

set_option maxHeartbeats 400000 in
theorem gmul_nat (a b : Nat) (w : World) (ha : a < 256) (hb : b < 256) :
    Calls Tryz.prog 126 #[.int .u8 (a : Int), .int .u8 (b : Int)] w fun e w' => e = .returned (.int .u8 (fm 285 a b : Nat)) ∧ w' = w := by
  have c1 := mulmod8 a b w ha hb
  have l1 := fm8_lt a b
  go_enter Tryz.func126, Tryz.ntmps126
  go_wp2_with (go_at_call 142; with_reducible refine c1.mono ?_; rintro e w' ⟨rfl, rfl⟩)
  go_ret
  exact ⟨rfl, rfl⟩

def er (n : Int) : Nat := (n % 255).toNat
def ge (a : Nat) (n : Int) : Nat := if a = 0 ∧ n < 0 then 20 else 0
def tw (a : Nat) : Nat := if 256 ≤ 2 * a then 2 * a ^^^ 285 else 2 * a
end Go.Proofs.YtefolifecbhgoaaGreat
