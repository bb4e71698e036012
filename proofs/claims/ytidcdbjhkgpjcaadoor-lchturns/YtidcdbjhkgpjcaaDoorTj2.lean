import Derived.WalkKit
import Derived.WalkSpells
import Derived.WalkLawsBesides
import Derived.Test.YtidcdbjhkgpjcaaDoorWalka
import Derived.Test.YtidcdbjhkgpjcaaDoorTj1
import Derived.OpenShut
namespace Go.Proofs.YtidcdbjhkgpjcaaDoor
open Go.RowKit Gf2

theorem ret_int {k : IntKind} {a b : Int} (h : a = b) : Ending.returned (.int k a) = .returned (.int k b) := by rw [h]

theorem ret_bool {a b : Bool} (h : a = b) : Ending.returned (.bool a) = .returned (.bool b) := by rw [h]

theorem len64_nat (x : Nat) (w : World) (h : x < 18446744073709551616) :
    Calls Tryd.prog 58 #[.int .u64 (x : Int)] w fun e w' => e = .returned (.int .i64 (len x : Nat)) ∧ w' = w := by
  have h2 := len64_int (x : Int) w (by omega) (by omega)
  rw [Int.toNat_natCast] at h2
  exact h2

set_option maxHeartbeats 400000 in
theorem degree_nat (x : Nat) (w : World) (h : x < 18446744073709551616) :
    Calls Tryd.prog 62 #[.int .u64 (x : Int)] w fun e w' => e = .returned (.int .i64 ((len x : Int) - 1)) ∧ w' = w := by
  have hl : len x ≤ 64 := len_le.2 h
  go_enter Tryd.func62, Tryd.ntmps62
  go_wp2_with (go_at_call 58; refine (len64_nat _ _ h).mono ?_; rintro e w' ⟨rfl, rfl⟩)
  go_ret
  exact ⟨rfl, rfl⟩

theorem wrap_two (x : Nat) : IntKind.u64.wrap ((x : Int) * 2) = ((x * 2 % 18446744073709551616 : Nat) : Int) := by
  rw [IntKind.wrap_u64]; omega
theorem and_one (y : Nat) (hy : y < 18446744073709551616) : bits .and .u64 (y : Int) 1 = ((y % 2 : Nat) : Int) := by
  have := u64_and_nat y 1 hy (by decide)
  rw [nat_mask1] at this
  exact this

set_option maxHeartbeats 400000 in
theorem product_nat (a b : Nat) (w : World) (ha : a < 18446744073709551616) (hb : b < 18446744073709551616) :
    Calls Tryd.prog 63 #[.int .u64 (a : Int), .int .u64 (b : Int)] w fun e w' => e = .returned (.int .u64 (prod a b : Nat)) ∧ w' = w := by
  go_enter Tryd.func63, Tryd.ntmps63
  go_wp2
  go_loop [0, 1, 5] (fun x y p => ∃ x' y' p' : Nat, x' < 18446744073709551616 ∧ y' < 18446744073709551616 ∧ p' < 18446744073709551616 ∧ x = .int .u64 x' ∧ y = .int .u64 y' ∧ p = .int .u64 p' ∧ prod a b = (p' ^^^ mul y' x') % 18446744073709551616) (fun _ y _ => (intOf y).toNat)
  case atStart => exact ⟨a, b, 0, ha, hb, by decide, rfl, rfl, rfl, prod_start a b⟩
  case round =>
    obtain ⟨x, y, p, hx, hy, hp, rfl, rfl, rfl, hm⟩ := hrel
    have HM : Hid (prod a b = (p ^^^ mul y x) % 18446744073709551616) := hm
    clear hm
    have X1 := u64_xor_nat p x hp hx
    have X2 := and_one y hy
    have hlt := xor_lt64 hp hx
    by_cases h0 : y = 0
    · subst h0
      go_wp2
      go_ret
      exact ⟨ret_int (by rw [HM.out, prod_end hp]), rfl⟩
    · by_cases h1 : y % 2 = 1
      · have T1 : (((y % 2 : Nat) : Int) == 1) = true := by simp; omega
        go_wp2
        go_round
        case rel => exact ⟨x * 2 % 18446744073709551616, y / 2, p ^^^ x, by omega, by omega, hlt, by rw [wrap_two], by go_num, rfl, by rw [HM.out, prod_odd h1]⟩
        case measure => simp [intOf]; omega
      · have T1 : (((y % 2 : Nat) : Int) == 1) = false := by simp; omega
        go_wp2
        go_round
        case rel => exact ⟨x * 2 % 18446744073709551616, y / 2, p, by omega, by omega, hp, by rw [wrap_two], by go_num, rfl, by rw [HM.out, prod_even h1]⟩
        case measure => simp [intOf]; omega

theorem wrap_nat (x : Nat) (h : x < 18446744073709551616) : IntKind.u64.wrap (x : Int) = (x : Int) := by
  rw [IntKind.wrap_u64]; omega
theorem shift_xor (r b n : Nat) (hr : r < 18446744073709551616) (h : b * 2 ^ n < 18446744073709551616) :
    bits BinOp.xor IntKind.u64 (r : Int) (IntKind.u64.wrap ((b : Int) * 2 ^ n)) = ((r ^^^ b * 2 ^ n : Nat) : Int) := by
  have e : ((b : Int) * 2 ^ n) = ((b * 2 ^ n : Nat) : Int) := by simp
  rw [e, wrap_nat _ h, u64_xor_nat r _ hr h]
theorem shift_or (q n : Nat) (hr : q < 18446744073709551616) (h : 2 ^ n < 18446744073709551616) :
    bits BinOp.or IntKind.u64 (q : Int) (IntKind.u64.wrap (2 ^ n)) = ((q ||| 2 ^ n : Nat) : Int) := by
  have e : ((2 : Int) ^ n) = ((2 ^ n : Nat) : Int) := by simp
  rw [e, wrap_nat _ h, u64_or_nat q _ hr h]

set_option maxHeartbeats 400000 in
theorem divide_nat (a b : Nat) (w : World) (ha : a < 18446744073709551616) (hb : b < 18446744073709551616) (hb0 : b ≠ 0) :
    Calls Tryd.prog 64 #[.int .u64 (a : Int), .int .u64 (b : Int)] w fun e w' => e = .returned (.tuple #[.int .u64 (pdiv a b : Nat), .int .u64 (pmod a b : Nat)]) ∧ w' = w := by
  have hlb : len b ≤ 64 := len_le.2 hb
  have hlb0 := len_pos.2 hb0
  have hla : len a ≤ 64 := len_le.2 ha
  go_enter Tryd.func64, Tryd.ntmps64
  go_wp2_with (go_at_call 62; refine (degree_nat _ _ (by assumption)).mono ?_; rintro e w' ⟨rfl, rfl⟩)
  go_loop [4, 5, 6] (fun q r d => ∃ q' r' : Nat, DivRel a b q' r' ∧ q = .int .u64 q' ∧ r = .int .u64 r' ∧ d = .int .i64 ((len r' : Int) - len b)) (fun _ r _ => len (intOf r).toNat)
  case atStart => exact ⟨0, a, div_start ha, rfl, rfl, by go_num⟩
  case round =>
    obtain ⟨q, r, hr, rfl, rfl, rfl⟩ := hrel
    have hr3 := hr.2.2.1
    have hr4 := hr.2.2.2
    have hlr : len r ≤ 64 := len_le.2 hr4
    by_cases h : len b ≤ len r
    · obtain ⟨d1, d2, d3, d4⟩ := div_round hb0 hr h
      have hn : r ^^^ b * 2 ^ (len r - len b) < 18446744073709551616 := d1.2.2.2
      have X1 := shift_xor r b (len r - len b) hr4 d3
      have X2 := shift_or q (len r - len b) hr3 d4
      go_wp2_with (go_at_call 62; refine (degree_nat _ _ (by assumption)).mono ?_; rintro e w' ⟨rfl, rfl⟩)
      go_round
      case rel => exact ⟨_, _, d1, rfl, rfl, by go_num⟩
      case measure => simp only [intOf, Int.toNat_natCast]; exact d2
    · go_wp2
      go_ret2
      obtain ⟨e1, e2⟩ := div_end hr (by omega)
      rw [← e1, ← e2]
      exact ⟨rfl, rfl⟩
end Go.Proofs.YtidcdbjhkgpjcaaDoor
namespace Go.Proofs.YtidcdbjhkgpjcaaDoor
open Go.RowKit Gf2

theorem nat_u64 {a : Int} (h : (Lit.int .u64 a).wf = true) : ∃ n : Nat, a = n ∧ n < 18446744073709551616 := by
  have := bounds_u64 h
  exact ⟨a.toNat, by omega, by omega⟩
theorem nat_u32 {a : Int} (h : (Lit.int .u32 a).wf = true) : ∃ n : Nat, a = n ∧ n < 4294967296 := by
  have := bounds_u32 h
  exact ⟨a.toNat, by omega, by omega⟩


set_option maxHeartbeats 400000 in
theorem remainder_nat (a b : Nat) (w : World) (ha : a < 18446744073709551616) (hb : b < 18446744073709551616) (hb0 : b ≠ 0) :
    Calls Tryd.prog 56 #[.int .u64 (a : Int), .int .u64 (b : Int)] w fun e w' => e = .returned (.int .u64 (pmod a b : Nat)) ∧ w' = w := by
  go_enter Tryd.func56, Tryd.ntmps56
  go_wp2_with (go_at_call 64; refine (divide_nat _ _ _ ha hb hb0).mono ?_; rintro e w' ⟨rfl, rfl⟩)
  go_ret
  exact ⟨rfl, rfl⟩

set_option maxHeartbeats 400000 in
theorem times_nat (a b p : Nat) (w : World) (ha : a < 18446744073709551616) (hb : b < 18446744073709551616) (hp : p < 18446744073709551616) (hp0 : p ≠ 0) :
    Calls Tryd.prog 55 #[.int .u64 (a : Int), .int .u64 (b : Int), .int .u64 (p : Int)] w fun e w' => e = .returned (.int .u64 (pmod (prod a b) p : Nat)) ∧ w' = w := by
  go_enter Tryd.func55, Tryd.ntmps55
  go_wp2_with (first | (go_at_call 63; refine (product_nat _ _ _ ha hb).mono ?_; rintro e w' ⟨rfl, rfl⟩) | (go_at_call 56; refine (remainder_nat _ _ _ (prod_lt _ _) hp hp0).mono ?_; rintro e w' ⟨rfl, rfl⟩))
  go_ret
  exact ⟨rfl, rfl⟩

/-- a degree from 1 to g? -/
def isMod (p : Nat) (g : Nat) : Bool := decide (2 ≤ len p ∧ len p ≤ g + 1)

set_option maxHeartbeats 400000 in
theorem isModulus_nat (p g : Nat) (w : World) (hp : p < 18446744073709551616) (_hg : g ≤ 64) :
    Calls Tryd.prog 54 #[.int .u64 (p : Int), .int .i64 (g : Int)] w fun e w' => e = .returned (.bool (isMod p g)) ∧ w' = w := by
  have hlp : len p ≤ 64 := len_le.2 hp
  by_cases h1 : 2 ≤ len p
  · by_cases h2 : len p ≤ g + 1
    · have e : isMod p g = true := by simp [isMod, h1, h2]
      rw [e]; clear e
      go_enter Tryd.func54, Tryd.ntmps54
      go_wp2_with (go_at_call 62; refine (degree_nat _ _ hp).mono ?_; rintro e w' ⟨rfl, rfl⟩)
      go_ret
      exact ⟨ret_bool (by simp; omega), rfl⟩
    · have e : isMod p g = false := by simp [isMod, h2]
      rw [e]; clear e
      go_enter Tryd.func54, Tryd.ntmps54
      go_wp2_with (go_at_call 62; refine (degree_nat _ _ hp).mono ?_; rintro e w' ⟨rfl, rfl⟩)
      go_ret
      exact ⟨ret_bool (by simp; omega), rfl⟩
  · have e : isMod p g = false := by simp [isMod, h1]
    rw [e]; clear e
    go_enter Tryd.func54, Tryd.ntmps54
    go_wp2_with (go_at_call 62; refine (degree_nat _ _ hp).mono ?_; rintro e w' ⟨rfl, rfl⟩)
    go_ret
    exact ⟨rfl, rfl⟩

theorem isMod_true {p g : Nat} (h : isMod p g = true) : 2 ≤ len p ∧ len p ≤ g + 1 := by simpa [isMod] using h
theorem isMod_false {p g : Nat} (h : isMod p g = false) : ¬ (2 ≤ len p ∧ len p ≤ g + 1) := by simpa [isMod] using h
theorem isMod_mk {p g : Nat} (h : 2 ≤ len p ∧ len p ≤ g + 1) : isMod p g = true := by simpa [isMod] using h
theorem isMod_ne {p g : Nat} (h : isMod p g = true) : p ≠ 0 := by
  rintro rfl; have := isMod_true h; rw [len_zero] at this; omega

set_option maxHeartbeats 400000 in
theorem mulmod_yes (a b p : Nat) (w : World) (ha : a < 18446744073709551616) (hb : b < 18446744073709551616) (hp : p < 18446744073709551616) (h : isMod p 32 = true) :
    Calls Tryd.prog 45 #[.int .u64 (a : Int), .int .u64 (b : Int), .int .u64 (p : Int)] w fun e w' => e = .returned (.tuple #[.int .u64 (pmod (prod (pmod a p) (pmod b p)) p : Nat), .int .i64 0]) ∧ w' = w := by
  have hp0 := isMod_ne h
  have h1 := pmod_lt a hp0 hp
  have h2 := pmod_lt b hp0 hp
  go_enter Tryd.func45, Tryd.ntmps45
  go_wp2_with (first | (go_at_call 54; refine (isModulus_nat _ 32 _ hp (by decide)).mono ?_; rw [h]; rintro e w' ⟨rfl, rfl⟩) | (go_at_call 56; refine (remainder_nat _ _ _ (by assumption) hp hp0).mono ?_; rintro e w' ⟨rfl, rfl⟩) | (go_at_call 55; refine (times_nat _ _ _ _ h1 h2 hp hp0).mono ?_; rintro e w' ⟨rfl, rfl⟩))
  go_ret2
  exact ⟨rfl, rfl⟩

end Go.Proofs.YtidcdbjhkgpjcaaDoor
namespace Go.Proofs.YtidcdbjhkgpjcaaDoor
open Go.RowKit Gf2

theorem tm_lt (a b : Nat) {p : Nat} (hp0 : p ≠ 0) (hp : p < 18446744073709551616) : tm a b p < 18446744073709551616 := pmod_lt _ hp0 hp

theorem times_tm (a b p : Nat) (w : World) (ha : a < 18446744073709551616) (hb : b < 18446744073709551616) (hp : p < 18446744073709551616) (hp0 : p ≠ 0) :
    Calls Tryd.prog 55 #[.int .u64 (a : Int), .int .u64 (b : Int), .int .u64 (p : Int)] w fun e w' => e = .returned (.int .u64 (tm a b p : Nat)) ∧ w' = w := times_nat a b p w ha hb hp hp0

end Go.Proofs.YtidcdbjhkgpjcaaDoor
namespace Go.Proofs.YtidcdbjhkgpjcaaDoor
open Go.RowKit Gf2

theorem pgcd_lt32 {a b : Nat} (ha : a < 4294967296) (hb : b < 4294967296) : pgcd a b < 4294967296 := by
  have h1 : len a ≤ 32 := len_le.2 ha
  have h2 : len b ≤ 32 := len_le.2 hb
  apply (len_le (n := 32)).1
  by_cases h : a = 0
  · subst h
    by_cases h' : b = 0
    · subst h'; decide
    · have := (dv_len (pgcd_dv 0 b).2 h').2; omega
  · have := (dv_len (pgcd_dv a b).1 h).2; omega
theorem mul_lt64 {a b : Nat} (ha : a < 4294967296) (hb : b < 4294967296) : mul a b < 18446744073709551616 := by
  have h1 : len a ≤ 32 := len_le.2 ha
  have h2 : len b ≤ 32 := len_le.2 hb
  have := len_mul_le a b
  exact (len_le (n := 64)).1 (by omega)

end Go.Proofs.YtidcdbjhkgpjcaaDoor
namespace Go.Proofs.YtidcdbjhkgpjcaaDoor
open Go.RowKit Gf2

theorem pgcd_pmod {a p : Nat} (hp : p ≠ 0) : pgcd (pmod a p) p = pgcd a p := by
  rw [pgcd_comm (pmod a p) p, pgcd_step hp]

/-- the inverse is the power by two less than the field's number. -/
theorem inv_fermat {a p : Nat} (h : Irr p) (h33 : len p ≤ 33) (ha : ¬ dv p a) : cof (pmod a p) p = pmod (pw a (2 ^ (len p - 1) - 2)) p := by
  have hp := h.ne
  have h1 := h.1
  have hg : pgcd a p = 1 := by
    rcases irr_gcd h a with g | g
    · exact g
    · exact absurd g ha
  have hg' : pgcd (pmod a p) p = 1 := by rw [pgcd_pmod hp]; exact hg
  obtain ⟨e1, e2⟩ := inv_exists hp (by omega) hg'
  have hq : 2 ≤ 2 ^ (len p - 1) := by
    have : 2 ^ 1 ≤ 2 ^ (len p - 1) := Nat.pow_le_pow_right (by omega) (by omega)
    omega
  have f := fermat h (by omega) ha
  have e3 : 2 ^ (len p - 1) - 1 = (2 ^ (len p - 1) - 2) + 1 := by omega
  rw [e3] at f
  simp only [pw] at f
  have a1 : pmod (mul a (cof (pmod a p) p)) p = 1 := by
    have := (pmod_eq_iff hp).2 e1
    rw [mul_comm, pmod_mul_left _ _ hp] at this
    rw [this]; exact pmod_small (by rw [len_one]; omega)
  have a2 : dv p (mul a (cof (pmod a p) p) ^^^ mul a (pw a (2 ^ (len p - 1) - 2))) := (pmod_eq_iff hp).1 (by rw [a1, f])
  have a3 := (pmod_eq_iff hp).2 (cancel hp (by omega) hg a2)
  rw [pmod_small e2] at a3
  exact a3

theorem wrap_pow {d : Nat} (hd : d ≤ 32) : IntKind.u64.wrap (2 ^ d) = ((2 ^ d : Nat) : Int) := by
  have e : ((2 : Int) ^ d) = ((2 ^ d : Nat) : Int) := by simp
  rw [e]
  apply wrap_nat
  have : 2 ^ d ≤ 2 ^ 32 := Nat.pow_le_pow_right (by decide) hd
  have : (2 : Nat) ^ 32 = 4294967296 := rfl
  omega

theorem wrap_pow2 {d : Nat} (hd : d ≤ 32) (h2 : 2 ≤ 2 ^ d) : IntKind.u64.wrap (IntKind.u64.wrap (2 ^ d) - 2) = ((2 ^ d - 2 : Nat) : Int) := by
  rw [wrap_pow hd]
  have : 2 ^ d ≤ 2 ^ 32 := Nat.pow_le_pow_right (by decide) hd
  have e32 : (2 : Nat) ^ 32 = 4294967296 := rfl
  have e : ((2 ^ d : Nat) : Int) - 2 = ((2 ^ d - 2 : Nat) : Int) := by omega
  rw [e]
  apply wrap_nat
  omega

end Go.Proofs.YtidcdbjhkgpjcaaDoor
