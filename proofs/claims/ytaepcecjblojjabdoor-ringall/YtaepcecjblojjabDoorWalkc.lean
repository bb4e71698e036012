import Derived.Test.YtaepcecjblojjabDoorWalkb
import Derived.OpenShut
namespace Go.Proofs.YtaepcecjblojjabDoor
open Go.RowKit Gf2

theorem nat_u64 {a : Int} (h : (Lit.int .u64 a).wf = true) : ∃ n : Nat, a = n ∧ n < 18446744073709551616 := by
  have := bounds_u64 h
  exact ⟨a.toNat, by omega, by omega⟩
theorem nat_u32 {a : Int} (h : (Lit.int .u32 a).wf = true) : ∃ n : Nat, a = n ∧ n < 4294967296 := by
  have := bounds_u32 h
  exact ⟨a.toNat, by omega, by omega⟩


set_option maxHeartbeats 400000 in
theorem remainder_nat (a b : Nat) (w : World) (ha : a < 18446744073709551616) (hb : b < 18446744073709551616) (hb0 : b ≠ 0) :
    Calls Tryd.prog 14 #[.int .u64 (a : Int), .int .u64 (b : Int)] w fun e w' => e = .returned (.int .u64 (pmod a b : Nat)) ∧ w' = w := by
  go_enter Tryd.func14, Tryd.ntmps14
  go_wp2_with (go_at_call 11; refine (divide_nat _ _ _ ha hb hb0).mono ?_; rintro e w' ⟨rfl, rfl⟩)
  go_ret
  exact ⟨rfl, rfl⟩

set_option maxHeartbeats 400000 in
theorem divmod_nat (a b : Nat) (w : World) (ha : a < 18446744073709551616) (hb : b < 18446744073709551616) (hb0 : b ≠ 0) :
    Calls Tryd.prog 6 #[.int .u64 (a : Int), .int .u64 (b : Int)] w fun e w' => e = .returned (.tuple #[.int .u64 (pdiv a b : Nat), .int .u64 (pmod a b : Nat), .int .i64 0]) ∧ w' = w := by
  go_enter Tryd.func6, Tryd.ntmps6
  go_wp2_with (go_at_call 11; refine (divide_nat _ _ _ ha hb hb0).mono ?_; rintro e w' ⟨rfl, rfl⟩)
  go_ret3
  exact ⟨rfl, rfl⟩

set_option maxHeartbeats 400000 in
theorem divmod_zero (a : Nat) (w : World) :
    Calls Tryd.prog 6 #[.int .u64 (a : Int), .int .u64 0] w fun e w' => e = .returned (.tuple #[.int .u64 0, .int .u64 0, .int .i64 10]) ∧ w' = w := by
  go_enter Tryd.func6, Tryd.ntmps6
  go_wp2
  go_ret3
  exact ⟨rfl, rfl⟩

set_option maxHeartbeats 400000 in
theorem mul_nat (a b : Nat) (w : World) (ha : a < 4294967296) (hb : b < 4294967296) :
    Calls Tryd.prog 9 #[.int .u32 (a : Int), .int .u32 (b : Int)] w fun e w' => e = .returned (.int .u64 (mul a b : Nat)) ∧ w' = w := by
  have e1 : prod a b = mul a b := prod_eq' (n := 32) (m := 32) ha hb (by decide)
  rw [← e1]
  clear e1
  go_enter Tryd.func9, Tryd.ntmps9
  go_wp2_with (go_at_call 16; refine (product_nat _ _ _ (by omega) (by omega)).mono ?_; rintro e w' ⟨rfl, rfl⟩)
  go_ret
  exact ⟨rfl, rfl⟩

set_option maxHeartbeats 400000 in
theorem times_nat (a b p : Nat) (w : World) (ha : a < 18446744073709551616) (hb : b < 18446744073709551616) (hp : p < 18446744073709551616) (hp0 : p ≠ 0) :
    Calls Tryd.prog 13 #[.int .u64 (a : Int), .int .u64 (b : Int), .int .u64 (p : Int)] w fun e w' => e = .returned (.int .u64 (pmod (prod a b) p : Nat)) ∧ w' = w := by
  go_enter Tryd.func13, Tryd.ntmps13
  go_wp2_with (first | (go_at_call 16; refine (product_nat _ _ _ ha hb).mono ?_; rintro e w' ⟨rfl, rfl⟩) | (go_at_call 14; refine (remainder_nat _ _ _ (prod_lt _ _) hp hp0).mono ?_; rintro e w' ⟨rfl, rfl⟩))
  go_ret
  exact ⟨rfl, rfl⟩

/-- a degree from 1 to g? -/
def isMod (p : Nat) (g : Nat) : Bool := decide (2 ≤ len p ∧ len p ≤ g + 1)

set_option maxHeartbeats 400000 in
theorem isModulus_nat (p g : Nat) (w : World) (hp : p < 18446744073709551616) (_hg : g ≤ 64) :
    Calls Tryd.prog 12 #[.int .u64 (p : Int), .int .i64 (g : Int)] w fun e w' => e = .returned (.bool (isMod p g)) ∧ w' = w := by
  have hlp : len p ≤ 64 := len_le.2 hp
  by_cases h1 : 2 ≤ len p
  · by_cases h2 : len p ≤ g + 1
    · have e : isMod p g = true := by simp [isMod, h1, h2]
      rw [e]; clear e
      go_enter Tryd.func12, Tryd.ntmps12
      go_wp2_with (go_at_call 8; refine (degree_nat _ _ hp).mono ?_; rintro e w' ⟨rfl, rfl⟩)
      go_ret
      exact ⟨ret_bool (by simp; omega), rfl⟩
    · have e : isMod p g = false := by simp [isMod, h2]
      rw [e]; clear e
      go_enter Tryd.func12, Tryd.ntmps12
      go_wp2_with (go_at_call 8; refine (degree_nat _ _ hp).mono ?_; rintro e w' ⟨rfl, rfl⟩)
      go_ret
      exact ⟨ret_bool (by simp; omega), rfl⟩
  · have e : isMod p g = false := by simp [isMod, h1]
    rw [e]; clear e
    go_enter Tryd.func12, Tryd.ntmps12
    go_wp2_with (go_at_call 8; refine (degree_nat _ _ hp).mono ?_; rintro e w' ⟨rfl, rfl⟩)
    go_ret
    exact ⟨rfl, rfl⟩

theorem isMod_true {p g : Nat} (h : isMod p g = true) : 2 ≤ len p ∧ len p ≤ g + 1 := by simpa [isMod] using h
theorem isMod_false {p g : Nat} (h : isMod p g = false) : ¬ (2 ≤ len p ∧ len p ≤ g + 1) := by simpa [isMod] using h
theorem isMod_mk {p g : Nat} (h : 2 ≤ len p ∧ len p ≤ g + 1) : isMod p g = true := by simpa [isMod] using h
theorem isMod_ne {p g : Nat} (h : isMod p g = true) : p ≠ 0 := by
  rintro rfl; have := isMod_true h; rw [len_zero] at this; omega

set_option maxHeartbeats 400000 in
theorem mulmod_yes (a b p : Nat) (w : World) (ha : a < 18446744073709551616) (hb : b < 18446744073709551616) (hp : p < 18446744073709551616) (h : isMod p 32 = true) :
    Calls Tryd.prog 7 #[.int .u64 (a : Int), .int .u64 (b : Int), .int .u64 (p : Int)] w fun e w' => e = .returned (.tuple #[.int .u64 (pmod (prod (pmod a p) (pmod b p)) p : Nat), .int .i64 0]) ∧ w' = w := by
  have hp0 := isMod_ne h
  have h1 := pmod_lt a hp0 hp
  have h2 := pmod_lt b hp0 hp
  go_enter Tryd.func7, Tryd.ntmps7
  go_wp2_with (first | (go_at_call 12; refine (isModulus_nat _ 32 _ hp (by decide)).mono ?_; rw [h]; rintro e w' ⟨rfl, rfl⟩) | (go_at_call 14; refine (remainder_nat _ _ _ (by assumption) hp hp0).mono ?_; rintro e w' ⟨rfl, rfl⟩) | (go_at_call 13; refine (times_nat _ _ _ _ h1 h2 hp hp0).mono ?_; rintro e w' ⟨rfl, rfl⟩))
  go_ret2
  exact ⟨rfl, rfl⟩

set_option maxHeartbeats 400000 in
theorem awake_any (w : World) :
    Calls Tryd.prog 4 #[] w fun e w' => e = .returned (.bool true) ∧ w' = w := by
  have c1 := divmod_nat 285 2 w (by decide) (by decide) (by decide)
  have c2 := mulmod_yes 128 2 285 w (by decide) (by decide) (by decide) (by decide)
  have c3 := degree_nat 5 w (by decide)
  have c4 := mul_nat 3 3 w (by decide) (by decide)
  rw [show pdiv 285 2 = 142 by decide, show pmod 285 2 = 1 by decide] at c1
  rw [show pmod (prod (pmod 128 285) (pmod 2 285)) 285 = 29 by decide] at c2
  rw [show len 5 = 3 by decide] at c3
  rw [show mul 3 3 = 5 by decide] at c4
  go_enter Tryd.func4, Tryd.ntmps4
  go_wp2_with (first | (go_at_call 6; refine c1.mono ?_; rintro e w' ⟨rfl, rfl⟩) | (go_at_call 7; refine c2.mono ?_; rintro e w' ⟨rfl, rfl⟩) | (go_at_call 8; refine c3.mono ?_; rintro e w' ⟨rfl, rfl⟩) | (go_at_call 9; refine c4.mono ?_; rintro e w' ⟨rfl, rfl⟩))
  go_ret
  exact ⟨rfl, rfl⟩
end Go.Proofs.YtaepcecjblojjabDoor
