import Derived.Test.YtaepcecjblojjabDoorDcom
import Derived.Test.YtaepcecjblojjabDoorWbez
import Derived.Test.YtaepcecjblojjabDoorWfer
import Derived.Test.YtaepcecjblojjabDoorDpro
namespace Go.Proofs.YtaepcecjblojjabDoor
open Go.RowKit Gf2

theorem comb_cof {a b : Nat} (hb0 : b ≠ 0) (h33 : len b ≤ 33) (n : Nat) (hn : n + len (pgcd a b) = len b) : (comb a (pgcd a b) b n).1 = 0 ∧ (comb a (pgcd a b) b n).2 = cof a b := by
  obtain ⟨-, c1, c2⟩ := cof_spec (a := a) hb0 (by omega)
  have h0 := comb_finds (a := a) (want := pgcd a b) (n := n) (u := cof a b) hb0 (by omega) ((pmod_eq_iff hb0).2 c2)
  refine ⟨h0, ?_⟩
  have h1 := comb_solves (a := a) (want := pgcd a b) (n := n) hb0 h0
  have h2 := (comb_fits (a := a) (want := pgcd a b) (n := n) hb0).2
  exact cof_unique hb0 (by omega) (by omega) ((pmod_eq_iff hb0).1 h1)

theorem quot_one {a b : Nat} (hb0 : b ≠ 0) (h33 : len b ≤ 33) (hq : pdiv b (pgcd a b) = 1) : pgcd a b = b ∧ cof a b = 0 ∧ cov a b = 1 := by
  have hg0 : pgcd a b ≠ 0 := pgcd_ne_zero (Or.inr hb0)
  have h1 := div_spec b hg0
  rw [hq, one_mul, (pmod_eq_zero hg0).2 (pgcd_dv a b).2, Nat.xor_zero] at h1
  obtain ⟨-, c1, -⟩ := cof_spec (a := a) hb0 (by omega)
  rw [← h1] at c1
  have hc : cof a b = 0 := len_eq_zero.1 (by omega)
  refine ⟨h1.symm, hc, ?_⟩
  unfold cov
  rw [hc, zero_mul, Nat.zero_xor, ← h1]
  exact ((div_unique (a := b) (b := b) (q := 1) (r := 0) (by rw [one_mul, Nat.xor_zero]) (by rw [len_zero]; exact len_pos.2 hb0)).1).symm

theorem quot_len {a b : Nat} (hb0 : b ≠ 0) : len (pdiv b (pgcd a b)) + len (pgcd a b) = len b + 1 := by
  have hg0 : pgcd a b ≠ 0 := pgcd_ne_zero (Or.inr hb0)
  exact pdiv_len hg0 (dv_len (pgcd_dv a b).2 hb0).2

set_option maxHeartbeats 2000000 in
theorem refBezout_nat (a b : Nat) (w : World) (ha : a < 4294967296) (hb : b < 4294967296) (hb0 : b ≠ 0) :
    Calls Tryd.prog 28 #[.int .u32 (a : Int), .int .u32 (b : Int)] w fun e w' => e = .returned (.tuple #[.int .u32 (pgcd a b : Nat), .int .u32 (cof a b : Nat), .int .u32 (cov a b : Nat)]) ∧ Below w.heap.size w w' := by
  have T0 : ((b : Int) == 0) = false := by simp; omega
  have hlb : len b ≤ 32 := len_le.2 hb
  have hg0 : pgcd a b ≠ 0 := pgcd_ne_zero (Or.inr hb0)
  have hg := pgcd_lt32 ha hb
  have c1 := fun w => refGcd_nat a b w (by omega) (by omega)
  have c2 := fun w => refDivMod_nat b (pgcd a b) w (by omega) (by omega) hg0
  have hql := quot_len (a := a) hb0
  have hgp := len_pos.2 hg0
  have hglb := (dv_len (pgcd_dv a b).2 hb0).2
  have hq32 : pdiv b (pgcd a b) < 4294967296 := (len_le (n := 32)).1 (by omega)
  by_cases hq : pdiv b (pgcd a b) = 1
  · obtain ⟨e1, e2, e3⟩ := quot_one hb0 (by omega) hq
    rw [e2, e3]
    rw [hq] at c2
    clear hq e1 e2 e3 hql hq32
    go_enter Tryd.func28, Tryd.ntmps28
    go_wp2_with (first | (go_at_call 26; with_reducible refine (c1 _).mono ?_; rintro e w1 ⟨rfl, rfl⟩) | (go_at_call 24; with_reducible refine (c2 _).mono ?_; rintro e w2 ⟨rfl, hb2⟩))
    go_ret3
    exact ⟨rfl, hb2⟩
  · have Tq : (((pdiv b (pgcd a b) : Nat) : Int) == 1) = false := beq1_false hq
    obtain ⟨k1, k2⟩ := comb_cof (a := a) hb0 (by omega) (len (pdiv b (pgcd a b)) - 1) (by omega)
    have c3 := fun w => refDegree_nat (pdiv b (pgcd a b)) w (by omega)
    have c4 := fun w => combine_nat a (pgcd a b) b (len (pdiv b (pgcd a b)) - 1) w (by omega) (by omega) (by omega) hb0 (by omega) (by omega)
    rw [k1, k2] at c4
    obtain ⟨hc, -⟩ := cof_lt32 (a := a) hb0 hb
    have hv := cov_lt32 ha hb0 hb
    have hm := mul_lt64 hc ha
    have X := u64_xor_nat (mul (cof a b) a) (pgcd a b) hm (by omega)
    have hx := xor_lt64 hm (show pgcd a b < 18446744073709551616 by omega)
    have c5 := fun w => refMul_nat (cof a b) a w hc ha
    have c6 : ∀ w, Calls Tryd.prog 24 #[.int .u64 ((mul (cof a b) a ^^^ pgcd a b : Nat) : Int), .int .u64 (b : Int)] w fun e w' => e = .returned (.tuple #[.int .u64 (cov a b : Nat), .int .u64 (pmod (mul (cof a b) a ^^^ pgcd a b) b : Nat), .int .i64 0]) ∧ Below w.heap.size w w' :=
      fun w => refDivMod_nat (mul (cof a b) a ^^^ pgcd a b) b w hx (by omega) hb0
    have hql2 : 1 ≤ len (pdiv b (pgcd a b)) := by omega
    have hd : ((len (pdiv b (pgcd a b)) : Int) - 1) = ((len (pdiv b (pgcd a b)) - 1 : Nat) : Int) := by omega
    clear hq k1 k2 hql
    go_enter Tryd.func28, Tryd.ntmps28
    go_wp2_with (first | (go_at_call 26; with_reducible refine (c1 _).mono ?_; rintro e w1 ⟨rfl, rfl⟩) | (go_at_call 22; with_reducible refine (c3 _).mono ?_; rintro e w1 ⟨rfl, rfl⟩) | (go_at_call 47; with_reducible refine (c4 _).mono ?_; rintro e w3 ⟨rfl, hb3⟩) | (go_at_call 23; with_reducible refine (c5 _).mono ?_; rintro e w4 ⟨rfl, hb4⟩) | (go_at_call 24; first | (with_reducible refine (c2 _).mono ?_; rintro e w2 ⟨rfl, hb2⟩) | (with_reducible refine (c6 _).mono ?_; rintro e w5 ⟨rfl, hb5⟩)))
    go_ret3
    have h23 := hb2.trans (hb3.mono hb2.size)
    have h24 := h23.trans (hb4.mono h23.size)
    exact ⟨rfl, h24.trans (hb5.mono h24.size)⟩

set_option maxHeartbeats 400000 in
theorem refBezout_zero (w : World) :
    Calls Tryd.prog 28 #[.int .u32 0, .int .u32 0] w fun e w' => e = .returned (.tuple #[.int .u32 0, .int .u32 0, .int .u32 0]) ∧ w' = w := by
  go_enter Tryd.func28, Tryd.ntmps28
  go_wp2
  go_ret3
  exact ⟨rfl, rfl⟩
set_option maxHeartbeats 400000 in
theorem refBezout_right (a : Nat) (w : World) (ha0 : a ≠ 0) :
    Calls Tryd.prog 28 #[.int .u32 (a : Int), .int .u32 0] w fun e w' => e = .returned (.tuple #[.int .u32 (a : Int), .int .u32 1, .int .u32 0]) ∧ w' = w := by
  have T1 : ((a : Int) == 0) = false := by simp; omega
  go_enter Tryd.func28, Tryd.ntmps28
  go_wp2
  go_ret3
  exact ⟨rfl, rfl⟩


set_option maxHeartbeats 1000000 in
theorem common_gcd (x y z : Nat) (s : ByteArray) (w : World) (hx : x < 18446744073709551616) (hy : y < 18446744073709551616) :
    Calls Tryd.prog 18 #[.agg #[.int .i64 4, .int .u64 (x : Int), .int .u64 (y : Int), .int .u64 (z : Int), .string s]] w fun e w' => e = .returned (.bool true) ∧ Below w.heap.size w w' := by
  go_enter Tryd.func18, Tryd.ntmps18
  go_wp2
  go_region_held (fun w' => w'.cell? ⟨w.heap.size, 1, none⟩ = some (.int .u64 (x : Int)) ∧ w'.cell? ⟨w.heap.size, 2, none⟩ = some (.int .u64 (y : Int))) (go_keep) (first | (go_at_call 25; with_reducible refine (gcd_nat _ _ _ hx hy).mono ?_; rintro e w1 ⟨rfl, rfl⟩) | (go_at_call 26; with_reducible refine (refGcd_nat _ _ _ hx hy).mono ?_; rintro e w1 ⟨rfl, rfl⟩))
  all_goals
    go_wp2
    go_ret
    exact ⟨rfl, ((Below.refl _ _).alloc (Nat.le_refl _) _).drew⟩

set_option maxHeartbeats 1000000 in
theorem common_bezout (k : Int) (x y z : Nat) (s : ByteArray) (w : World) (h4 : (k == 4) = false) :
    Calls Tryd.prog 18 #[.agg #[.int .i64 k, .int .u64 (x : Int), .int .u64 (y : Int), .int .u64 (z : Int), .string s]] w fun e w' => e = .returned (.bool true) ∧ Below w.heap.size w w' := by
  have hx : x % 4294967296 < 4294967296 := Nat.mod_lt _ (by decide)
  have hy : y % 4294967296 < 4294967296 := Nat.mod_lt _ (by decide)
  have ex := u32_of x
  have ey := u32_of y
  generalize hxx : x % 4294967296 = x' at *
  generalize hyy : y % 4294967296 = y' at *
  clear hxx hyy
  have c12 : ∃ (g u v : Nat), (∀ w, Calls Tryd.prog 27 #[.int .u32 (x' : Int), .int .u32 (y' : Int)] w fun e w' => e = .returned (.tuple #[.int .u32 (g : Int), .int .u32 (u : Int), .int .u32 (v : Int)]) ∧ w' = w) ∧
      (∀ w, Calls Tryd.prog 28 #[.int .u32 (x' : Int), .int .u32 (y' : Int)] w fun e w' => e = .returned (.tuple #[.int .u32 (g : Int), .int .u32 (u : Int), .int .u32 (v : Int)]) ∧ Below w.heap.size w w') := by
    by_cases h0 : y' = 0
    · subst h0
      by_cases h1 : x' = 0
      · subst h1
        exact ⟨0, 0, 0, fun w => bezout_zero w, fun w => (refBezout_zero w).mono fun e w' ⟨he, hw⟩ => ⟨he, hw ▸ Below.refl _ _⟩⟩
      · exact ⟨x', 1, 0, fun w => bezout_right x' w h1, fun w => (refBezout_right x' w h1).mono fun e w' ⟨he, hw⟩ => ⟨he, hw ▸ Below.refl _ _⟩⟩
    · exact ⟨_, _, _, fun w => bezout_nat x' y' w hx hy h0, fun w => refBezout_nat x' y' w hx hy h0⟩
  obtain ⟨g, u, v, c1, c2⟩ := c12
  go_enter Tryd.func18, Tryd.ntmps18
  go_wp2_with (first | (go_at_call 27; with_reducible refine (c1 _).mono ?_; rintro e w1 ⟨rfl, rfl⟩) | (go_at_call 28; with_reducible refine (c2 _).mono ?_; rintro e w1 ⟨rfl, hb1⟩))
  go_ret
  exact ⟨ret_bool (by simp), ((Below.refl _ _).alloc (Nat.le_refl _) _).trans (hb1.mono (by simp))⟩
end Go.Proofs.YtaepcecjblojjabDoor
