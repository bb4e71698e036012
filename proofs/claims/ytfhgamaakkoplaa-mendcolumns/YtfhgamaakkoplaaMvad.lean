import Derived.Test.YtfhgamaakkoplaaMvac
import Derived.OpenShut
namespace Go.Proofs.Ytfhgamaakkoplaa
open Go.RowKit Gf2

set_option maxHeartbeats 400000 in
theorem remainder_nat (a b : Nat) (w : World) (ha : a < 18446744073709551616) (hb : b < 18446744073709551616) (hb0 : b ≠ 0) :
    Calls Try.prog 75 #[.int .u64 (a : Int), .int .u64 (b : Int)] w fun e w' => e = .returned (.int .u64 (pmod a b : Nat)) ∧ w' = w := by
  go_enter Try.func75, Try.ntmps75
  go_wp2_with (go_at_call 89; refine (divide_nat _ _ _ ha hb hb0).mono ?_; rintro e w' ⟨rfl, rfl⟩)
  go_ret
  exact ⟨rfl, rfl⟩

set_option maxHeartbeats 400000 in
theorem times_nat (a b p : Nat) (w : World) (ha : a < 18446744073709551616) (hb : b < 18446744073709551616) (hp : p < 18446744073709551616) (hp0 : p ≠ 0) :
    Calls Try.prog 74 #[.int .u64 (a : Int), .int .u64 (b : Int), .int .u64 (p : Int)] w fun e w' => e = .returned (.int .u64 (pmod (prod a b) p : Nat)) ∧ w' = w := by
  go_enter Try.func74, Try.ntmps74
  go_wp2_with (first | (go_at_call 88; refine (product_nat _ _ _ ha hb).mono ?_; rintro e w' ⟨rfl, rfl⟩) | (go_at_call 75; refine (remainder_nat _ _ _ (prod_lt _ _) hp hp0).mono ?_; rintro e w' ⟨rfl, rfl⟩))
  go_ret
  exact ⟨rfl, rfl⟩

/-- a degree from 1 to g? -/
def isMod (p : Nat) (g : Nat) : Bool := decide (2 ≤ len p ∧ len p ≤ g + 1)

set_option maxHeartbeats 400000 in
theorem isModulus_nat (p g : Nat) (w : World) (hp : p < 18446744073709551616) (_hg : g ≤ 64) :
    Calls Try.prog 73 #[.int .u64 (p : Int), .int .i64 (g : Int)] w fun e w' => e = .returned (.bool (isMod p g)) ∧ w' = w := by
  have hlp : len p ≤ 64 := len_le.2 hp
  by_cases h1 : 2 ≤ len p
  · by_cases h2 : len p ≤ g + 1
    · have e : isMod p g = true := by simp [isMod, h1, h2]
      rw [e]; clear e
      go_enter Try.func73, Try.ntmps73
      go_wp2_with (go_at_call 87; refine (degree_nat _ _ hp).mono ?_; rintro e w' ⟨rfl, rfl⟩)
      go_ret
      exact ⟨ret_bool (by simp; omega), rfl⟩
    · have e : isMod p g = false := by simp [isMod, h2]
      rw [e]; clear e
      go_enter Try.func73, Try.ntmps73
      go_wp2_with (go_at_call 87; refine (degree_nat _ _ hp).mono ?_; rintro e w' ⟨rfl, rfl⟩)
      go_ret
      exact ⟨ret_bool (by simp; omega), rfl⟩
  · have e : isMod p g = false := by simp [isMod, h1]
    rw [e]; clear e
    go_enter Try.func73, Try.ntmps73
    go_wp2_with (go_at_call 87; refine (degree_nat _ _ hp).mono ?_; rintro e w' ⟨rfl, rfl⟩)
    go_ret
    exact ⟨rfl, rfl⟩

theorem isMod_true {p g : Nat} (h : isMod p g = true) : 2 ≤ len p ∧ len p ≤ g + 1 := by simpa [isMod] using h
theorem isMod_ne {p g : Nat} (h : isMod p g = true) : p ≠ 0 := by
  rintro rfl; have := isMod_true h; rw [len_zero] at this; omega

set_option maxHeartbeats 400000 in
theorem mulmod_yes (a b p : Nat) (w : World) (ha : a < 18446744073709551616) (hb : b < 18446744073709551616) (hp : p < 18446744073709551616) (h : isMod p 32 = true) :
    Calls Try.prog 70 #[.int .u64 (a : Int), .int .u64 (b : Int), .int .u64 (p : Int)] w fun e w' => e = .returned (.tuple #[.int .u64 (pmod (prod (pmod a p) (pmod b p)) p : Nat), .int .i64 0]) ∧ w' = w := by
  have hp0 := isMod_ne h
  have h1 := pmod_lt a hp0 hp
  have h2 := pmod_lt b hp0 hp
  go_enter Try.func70, Try.ntmps70
  go_wp2_with (first | (go_at_call 73; refine (isModulus_nat _ 32 _ hp (by decide)).mono ?_; rw [h]; rintro e w' ⟨rfl, rfl⟩) | (go_at_call 75; refine (remainder_nat _ _ _ (by assumption) hp hp0).mono ?_; rintro e w' ⟨rfl, rfl⟩) | (go_at_call 74; refine (times_nat _ _ _ _ h1 h2 hp hp0).mono ?_; rintro e w' ⟨rfl, rfl⟩))
  go_ret2
  exact ⟨rfl, rfl⟩

end Go.Proofs.Ytfhgamaakkoplaa
