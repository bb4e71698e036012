import Derived.Test.YtaepcecjblojjabDoorWgcd
namespace Go.Proofs.YtaepcecjblojjabDoor
open Go.RowKit Gf2

/-- what the program's third answer is. -/
def cov (a b : Nat) : Nat := pdiv (mul (cof a b) a ^^^ pgcd a b) b

theorem cof_lt32 {a b : Nat} (hb0 : b ≠ 0) (hb : b < 4294967296) : cof a b < 4294967296 ∧ len (cof a b) + len (pgcd a b) ≤ len b := by
  have h1 : len b ≤ 32 := len_le.2 hb
  have h := (cof_spec (a := a) hb0 (by omega)).2.1
  exact ⟨(len_le (n := 32)).1 (by omega), h⟩
theorem bez_eq {a b : Nat} (hb0 : b ≠ 0) (hb : b < 4294967296) : mul (cof a b) a ^^^ pgcd a b = mul (cov a b) b := by
  have h1 : len b ≤ 32 := len_le.2 hb
  obtain ⟨c, h⟩ := (cof_spec (a := a) hb0 (by omega)).2.2
  have e := div_spec (mul (cof a b) a ^^^ pgcd a b) hb0
  rw [(pmod_eq_zero hb0).2 ⟨c, h⟩, Nat.xor_zero] at e
  exact e
theorem cov_lt32 {a b : Nat} (ha : a < 4294967296) (hb0 : b ≠ 0) (hb : b < 4294967296) : cov a b < 4294967296 := by
  have h1 : len b ≤ 32 := len_le.2 hb
  have h0 : len a ≤ 32 := len_le.2 ha
  obtain ⟨_, h2⟩ := cof_lt32 (a := a) hb0 hb
  have hgb := (dv_len (pgcd_dv a b).2 hb0).2
  have hg := len_pos.2 (pgcd_ne_zero (a := a) (b := b) (Or.inr hb0))
  have e := bez_eq (a := a) hb0 hb
  apply (len_le (n := 32)).1
  by_cases hv : cov a b = 0
  · rw [hv, len_zero]; omega
  · have lv := len_mul hv hb0
    have := len_pos.2 hv
    have := len_pos.2 hb0
    have lx := len_xor_le (mul (cof a b) a) (pgcd a b)
    have lm := len_mul_le (cof a b) a
    rw [e] at lx
    omega

theorem tuple3 {x y z x' y' z' : Int} (h1 : x = x') (h2 : y = y') (h3 : z = z') : Ending.returned (.tuple #[.int .u32 x, .int .u32 y, .int .u32 z]) = .returned (.tuple #[.int .u32 x', .int .u32 y', .int .u32 z']) := by rw [h1, h2, h3]

set_option maxHeartbeats 1000000 in
theorem bezout_nat (a b : Nat) (w : World) (ha : a < 4294967296) (hb : b < 4294967296) (hb0 : b ≠ 0) :
    Calls Tryd.prog 27 #[.int .u32 (a : Int), .int .u32 (b : Int)] w fun e w' => e = .returned (.tuple #[.int .u32 (pgcd a b : Nat), .int .u32 (cof a b : Nat), .int .u32 (cov a b : Nat)]) ∧ w' = w := by
  have T0 : ((b : Int) == 0) = false := by simp; omega
  have hg := pgcd_lt32 ha hb
  obtain ⟨hc, -⟩ := cof_lt32 (a := a) hb0 hb
  have hv := cov_lt32 ha hb0 hb
  have hm := mul_lt64 hc ha
  have X := u64_xor_nat (mul (cof a b) a) (pgcd a b) hm (by omega)
  have hx := xor_lt64 hm (show pgcd a b < 18446744073709551616 by omega)
  have ep : prod (cof a b) a = mul (cof a b) a := prod_eq' (n := 32) (m := 32) hc ha (by decide)
  have c1 := cofactor_nat a b w (by omega) (by omega) hb0
  have c2 := product_nat (cof a b) a w (by omega) (by omega)
  have c3 := divide_nat (mul (cof a b) a ^^^ pgcd a b) b w hx (by omega) hb0
  rw [ep] at c2
  have c3 : Calls Tryd.prog 11 #[.int .u64 ((mul (cof a b) a ^^^ pgcd a b : Nat) : Int), .int .u64 (b : Int)] w fun e w' => e = .returned (.tuple #[.int .u64 (cov a b : Nat), .int .u64 (pmod (mul (cof a b) a ^^^ pgcd a b) b : Nat)]) ∧ w' = w := c3
  clear ep
  by_cases ha0 : a = 0
  · have T1 : ((a : Int) == 0) = true := by simp; omega
    clear ha0
    go_enter Tryd.func27, Tryd.ntmps27
    go_wp2_with (first | (go_at_call 46; with_reducible refine c1.mono ?_; rintro e w' ⟨rfl, rfl⟩) | (go_at_call 16; with_reducible refine c2.mono ?_; rintro e w' ⟨rfl, rfl⟩) | (go_at_call 11; with_reducible refine c3.mono ?_; rintro e w' ⟨rfl, rfl⟩))
    go_ret3
    exact ⟨rfl, rfl⟩
  · have T1 : ((a : Int) == 0) = false := by simp; omega
    clear ha0
    go_enter Tryd.func27, Tryd.ntmps27
    go_wp2_with (first | (go_at_call 46; with_reducible refine c1.mono ?_; rintro e w' ⟨rfl, rfl⟩) | (go_at_call 16; with_reducible refine c2.mono ?_; rintro e w' ⟨rfl, rfl⟩) | (go_at_call 11; with_reducible refine c3.mono ?_; rintro e w' ⟨rfl, rfl⟩))
    go_ret3
    exact ⟨rfl, rfl⟩

set_option maxHeartbeats 400000 in
theorem bezout_zero (w : World) :
    Calls Tryd.prog 27 #[.int .u32 0, .int .u32 0] w fun e w' => e = .returned (.tuple #[.int .u32 0, .int .u32 0, .int .u32 0]) ∧ w' = w := by
  go_enter Tryd.func27, Tryd.ntmps27
  go_wp2
  go_ret3
  exact ⟨rfl, rfl⟩

set_option maxHeartbeats 400000 in
theorem bezout_right (a : Nat) (w : World) (ha0 : a ≠ 0) :
    Calls Tryd.prog 27 #[.int .u32 (a : Int), .int .u32 0] w fun e w' => e = .returned (.tuple #[.int .u32 (a : Int), .int .u32 1, .int .u32 0]) ∧ w' = w := by
  have T1 : ((a : Int) == 0) = false := by simp; omega
  go_enter Tryd.func27, Tryd.ntmps27
  go_wp2
  go_ret3
  exact ⟨rfl, rfl⟩

end Go.Proofs.YtaepcecjblojjabDoor
