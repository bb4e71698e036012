import Derived.WalkKit
import Derived.WalkSpells
import Derived.WalkLawsBesides
import Derived.Test.YtfhgamaakkoplaaMvab
import Derived.Test.YtfhgamaakkoplaaMvaa
namespace Go.Proofs.Ytfhgamaakkoplaa
open Go.RowKit Gf2

theorem ret_int {k : IntKind} {a b : Int} (h : a = b) : Ending.returned (.int k a) = .returned (.int k b) := by rw [h]

theorem ret_bool {a b : Bool} (h : a = b) : Ending.returned (.bool a) = .returned (.bool b) := by rw [h]

theorem len64_nat (x : Nat) (w : World) (h : x < 18446744073709551616) :
    Calls Try.prog 86 #[.int .u64 (x : Int)] w fun e w' => e = .returned (.int .i64 (len x : Nat)) ∧ w' = w := by
  have h2 := len64_int (x : Int) w (by omega) (by omega)
  rw [Int.toNat_natCast] at h2
  exact h2

set_option maxHeartbeats 400000 in
theorem degree_nat (x : Nat) (w : World) (h : x < 18446744073709551616) :
    Calls Try.prog 87 #[.int .u64 (x : Int)] w fun e w' => e = .returned (.int .i64 ((len x : Int) - 1)) ∧ w' = w := by
  have hl : len x ≤ 64 := len_le.2 h
  go_enter Try.func87, Try.ntmps87
  go_wp2_with (go_at_call 86; refine (len64_nat _ _ h).mono ?_; rintro e w' ⟨rfl, rfl⟩)
  go_ret
  exact ⟨rfl, rfl⟩

theorem wrap_two (x : Nat) : IntKind.u64.wrap ((x : Int) * 2) = ((x * 2 % 18446744073709551616 : Nat) : Int) := by
  rw [IntKind.wrap_u64]; omega
theorem and_one (y : Nat) (hy : y < 18446744073709551616) : bits .and .u64 (y : Int) 1 = ((y % 2 : Nat) : Int) := by
  have := u64_and_nat y 1 hy (by decide)
  rw [nat_mask1] at this
  exact this

set_option maxHeartbeats 400000 in
theorem product_nat (a b : Nat) (w : World) (ha : a < 18446744073709551616) (hb : b < 18446744073709551616) :
    Calls Try.prog 88 #[.int .u64 (a : Int), .int .u64 (b : Int)] w fun e w' => e = .returned (.int .u64 (prod a b : Nat)) ∧ w' = w := by
  go_enter Try.func88, Try.ntmps88
  go_wp2
  go_loop [0, 1, 5] (fun x y p => ∃ x' y' p' : Nat, x' < 18446744073709551616 ∧ y' < 18446744073709551616 ∧ p' < 18446744073709551616 ∧ x = .int .u64 x' ∧ y = .int .u64 y' ∧ p = .int .u64 p' ∧ prod a b = (p' ^^^ mul y' x') % 18446744073709551616) (fun _ y _ => (intOf y).toNat)
  case atStart => exact ⟨a, b, 0, ha, hb, by decide, rfl, rfl, rfl, prod_start a b⟩
  case round =>
    obtain ⟨x, y, p, hx, hy, hp, rfl, rfl, rfl, hm⟩ := hrel
    have HM : Hid (prod a b = (p ^^^ mul y x) % 18446744073709551616) := hm
    clear hm
    have X1 := u64_xor_nat p x hp hx
    have X2 := and_one y hy
    have hlt := xor_lt64 hp hx
    by_cases h0 : y = 0
    · subst h0
      go_wp2
      go_ret
      exact ⟨ret_int (by rw [HM.out, prod_end hp]), rfl⟩
    · by_cases h1 : y % 2 = 1
      · have T1 : (((y % 2 : Nat) : Int) == 1) = true := by simp; omega
        go_wp2
        go_round
        case rel => exact ⟨x * 2 % 18446744073709551616, y / 2, p ^^^ x, by omega, by omega, hlt, by rw [wrap_two], by go_num, rfl, by rw [HM.out, prod_odd h1]⟩
        case measure => simp [intOf]; omega
      · have T1 : (((y % 2 : Nat) : Int) == 1) = false := by simp; omega
        go_wp2
        go_round
        case rel => exact ⟨x * 2 % 18446744073709551616, y / 2, p, by omega, by omega, hp, by rw [wrap_two], by go_num, rfl, by rw [HM.out, prod_even h1]⟩
        case measure => simp [intOf]; omega

theorem wrap_nat (x : Nat) (h : x < 18446744073709551616) : IntKind.u64.wrap (x : Int) = (x : Int) := by
  rw [IntKind.wrap_u64]; omega
theorem shift_xor (r b n : Nat) (hr : r < 18446744073709551616) (h : b * 2 ^ n < 18446744073709551616) :
    bits BinOp.xor IntKind.u64 (r : Int) (IntKind.u64.wrap ((b : Int) * 2 ^ n)) = ((r ^^^ b * 2 ^ n : Nat) : Int) := by
  have e : ((b : Int) * 2 ^ n) = ((b * 2 ^ n : Nat) : Int) := by simp
  rw [e, wrap_nat _ h, u64_xor_nat r _ hr h]
theorem shift_or (q n : Nat) (hr : q < 18446744073709551616) (h : 2 ^ n < 18446744073709551616) :
    bits BinOp.or IntKind.u64 (q : Int) (IntKind.u64.wrap (2 ^ n)) = ((q ||| 2 ^ n : Nat) : Int) := by
  have e : ((2 : Int) ^ n) = ((2 ^ n : Nat) : Int) := by simp
  rw [e, wrap_nat _ h, u64_or_nat q _ hr h]

set_option maxHeartbeats 400000 in
theorem divide_nat (a b : Nat) (w : World) (ha : a < 18446744073709551616) (hb : b < 18446744073709551616) (hb0 : b ≠ 0) :
    Calls Try.prog 89 #[.int .u64 (a : Int), .int .u64 (b : Int)] w fun e w' => e = .returned (.tuple #[.int .u64 (pdiv a b : Nat), .int .u64 (pmod a b : Nat)]) ∧ w' = w := by
  have hlb : len b ≤ 64 := len_le.2 hb
  have hlb0 := len_pos.2 hb0
  have hla : len a ≤ 64 := len_le.2 ha
  go_enter Try.func89, Try.ntmps89
  go_wp2_with (go_at_call 87; refine (degree_nat _ _ (by assumption)).mono ?_; rintro e w' ⟨rfl, rfl⟩)
  go_loop [4, 5, 6] (fun q r d => ∃ q' r' : Nat, DivRel a b q' r' ∧ q = .int .u64 q' ∧ r = .int .u64 r' ∧ d = .int .i64 ((len r' : Int) - len b)) (fun _ r _ => len (intOf r).toNat)
  case atStart => exact ⟨0, a, div_start ha, rfl, rfl, by go_num⟩
  case round =>
    obtain ⟨q, r, hr, rfl, rfl, rfl⟩ := hrel
    have hr3 := hr.2.2.1
    have hr4 := hr.2.2.2
    have hlr : len r ≤ 64 := len_le.2 hr4
    by_cases h : len b ≤ len r
    · obtain ⟨d1, d2, d3, d4⟩ := div_round hb0 hr h
      have hn : r ^^^ b * 2 ^ (len r - len b) < 18446744073709551616 := d1.2.2.2
      have X1 := shift_xor r b (len r - len b) hr4 d3
      have X2 := shift_or q (len r - len b) hr3 d4
      go_wp2_with (go_at_call 87; refine (degree_nat _ _ (by assumption)).mono ?_; rintro e w' ⟨rfl, rfl⟩)
      go_round
      case rel => exact ⟨_, _, d1, rfl, rfl, by go_num⟩
      case measure => simp only [intOf, Int.toNat_natCast]; exact d2
    · go_wp2
      go_ret2
      obtain ⟨e1, e2⟩ := div_end hr (by omega)
      rw [← e1, ← e2]
      exact ⟨rfl, rfl⟩
end Go.Proofs.Ytfhgamaakkoplaa
