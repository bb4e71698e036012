import Derived.WalkKit
import Derived.WalkSpells
import Derived.WalkLawsBesides
import Derived.Test.YtdnhidachdjgaaaWalka
import Derived.Test.YtdnhidachdjgaaaMj1
import Derived.OpenShut
namespace Go.Proofs.Ytdnhidachdjgaaa
open Go.RowKit Gf2

theorem ret_int {k : IntKind} {a b : Int} (h : a = b) : Ending.returned (.int k a) = .returned (.int k b) := by rw [h]

theorem ret_bool {a b : Bool} (h : a = b) : Ending.returned (.bool a) = .returned (.bool b) := by rw [h]

theorem len64_nat (x : Nat) (w : World) (h : x < 18446744073709551616) :
    Calls Try.prog 84 #[.int .u64 (x : Int)] w fun e w' => e = .returned (.int .i64 (len x : Nat)) ∧ w' = w := by
  have h2 := len64_int (x : Int) w (by omega) (by omega)
  rw [Int.toNat_natCast] at h2
  exact h2

set_option maxHeartbeats 400000 in
theorem degree_nat (x : Nat) (w : World) (h : x < 18446744073709551616) :
    Calls Try.prog 81 #[.int .u64 (x : Int)] w fun e w' => e = .returned (.int .i64 ((len x : Int) - 1)) ∧ w' = w := by
  have hl : len x ≤ 64 := len_le.2 h
  go_enter Try.func81, Try.ntmps81
  go_wp2_with (go_at_call 84; refine (len64_nat _ _ h).mono ?_; rintro e w' ⟨rfl, rfl⟩)
  go_ret
  exact ⟨rfl, rfl⟩

theorem wrap_two (x : Nat) : IntKind.u64.wrap ((x : Int) * 2) = ((x * 2 % 18446744073709551616 : Nat) : Int) := by
  rw [IntKind.wrap_u64]; omega
theorem and_one (y : Nat) (hy : y < 18446744073709551616) : bits .and .u64 (y : Int) 1 = ((y % 2 : Nat) : Int) := by
  have := u64_and_nat y 1 hy (by decide)
  rw [nat_mask1] at this
  exact this

set_option maxHeartbeats 400000 in
theorem product_nat (a b : Nat) (w : World) (ha : a < 18446744073709551616) (hb : b < 18446744073709551616) :
    Calls Try.prog 82 #[.int .u64 (a : Int), .int .u64 (b : Int)] w fun e w' => e = .returned (.int .u64 (prod a b : Nat)) ∧ w' = w := by
  go_enter Try.func82, Try.ntmps82
  go_wp2
  go_loop [0, 1, 5] (fun x y p => ∃ x' y' p' : Nat, x' < 18446744073709551616 ∧ y' < 18446744073709551616 ∧ p' < 18446744073709551616 ∧ x = .int .u64 x' ∧ y = .int .u64 y' ∧ p = .int .u64 p' ∧ prod a b = (p' ^^^ mul y' x') % 18446744073709551616) (fun _ y _ => (intOf y).toNat)
  case atStart => exact ⟨a, b, 0, ha, hb, by decide, rfl, rfl, rfl, prod_start a b⟩
  case round =>
    obtain ⟨x, y, p, hx, hy, hp, rfl, rfl, rfl, hm⟩ := hrel
    have HM : Hid (prod a b = (p ^^^ mul y x) % 18446744073709551616) := hm
    clear hm
    have X1 := u64_xor_nat p x hp hx
    have X2 := and_one y hy
    have hlt := xor_lt64 hp hx
    by_cases h0 : y = 0
    · subst h0
      go_wp2
      go_ret
      exact ⟨ret_int (by rw [HM.out, prod_end hp]), rfl⟩
    · by_cases h1 : y % 2 = 1
      · have T1 : (((y % 2 : Nat) : Int) == 1) = true := by simp; omega
        go_wp2
        go_round
        case rel => exact ⟨x * 2 % 18446744073709551616, y / 2, p ^^^ x, by omega, by omega, hlt, by rw [wrap_two], by go_num, rfl, by rw [HM.out, prod_odd h1]⟩
        case measure => simp [intOf]; omega
      · have T1 : (((y % 2 : Nat) : Int) == 1) = false := by simp; omega
        go_wp2
        go_round
        case rel => exact ⟨x * 2 % 18446744073709551616, y / 2, p, by omega, by omega, hp, by rw [wrap_two], by go_num, rfl, by rw [HM.out, prod_even h1]⟩
        case measure => simp [intOf]; omega

theorem wrap_nat (x : Nat) (h : x < 18446744073709551616) : IntKind.u64.wrap (x : Int) = (x : Int) := by
  rw [IntKind.wrap_u64]; omega
theorem shift_xor (r b n : Nat) (hr : r < 18446744073709551616) (h : b * 2 ^ n < 18446744073709551616) :
    bits BinOp.xor IntKind.u64 (r : Int) (IntKind.u64.wrap ((b : Int) * 2 ^ n)) = ((r ^^^ b * 2 ^ n : Nat) : Int) := by
  have e : ((b : Int) * 2 ^ n) = ((b * 2 ^ n : Nat) : Int) := by simp
  rw [e, wrap_nat _ h, u64_xor_nat r _ hr h]
theorem shift_or (q n : Nat) (hr : q < 18446744073709551616) (h : 2 ^ n < 18446744073709551616) :
    bits BinOp.or IntKind.u64 (q : Int) (IntKind.u64.wrap (2 ^ n)) = ((q ||| 2 ^ n : Nat) : Int) := by
  have e : ((2 : Int) ^ n) = ((2 ^ n : Nat) : Int) := by simp
  rw [e, wrap_nat _ h, u64_or_nat q _ hr h]

set_option maxHeartbeats 400000 in
theorem divide_nat (a b : Nat) (w : World) (ha : a < 18446744073709551616) (hb : b < 18446744073709551616) (hb0 : b ≠ 0) :
    Calls Try.prog 83 #[.int .u64 (a : Int), .int .u64 (b : Int)] w fun e w' => e = .returned (.tuple #[.int .u64 (pdiv a b : Nat), .int .u64 (pmod a b : Nat)]) ∧ w' = w := by
  have hlb : len b ≤ 64 := len_le.2 hb
  have hlb0 := len_pos.2 hb0
  have hla : len a ≤ 64 := len_le.2 ha
  go_enter Try.func83, Try.ntmps83
  go_wp2_with (go_at_call 81; refine (degree_nat _ _ (by assumption)).mono ?_; rintro e w' ⟨rfl, rfl⟩)
  go_loop [4, 5, 6] (fun q r d => ∃ q' r' : Nat, DivRel a b q' r' ∧ q = .int .u64 q' ∧ r = .int .u64 r' ∧ d = .int .i64 ((len r' : Int) - len b)) (fun _ r _ => len (intOf r).toNat)
  case atStart => exact ⟨0, a, div_start ha, rfl, rfl, by go_num⟩
  case round =>
    obtain ⟨q, r, hr, rfl, rfl, rfl⟩ := hrel
    have hr3 := hr.2.2.1
    have hr4 := hr.2.2.2
    have hlr : len r ≤ 64 := len_le.2 hr4
    by_cases h : len b ≤ len r
    · obtain ⟨d1, d2, d3, d4⟩ := div_round hb0 hr h
      have hn : r ^^^ b * 2 ^ (len r - len b) < 18446744073709551616 := d1.2.2.2
      have X1 := shift_xor r b (len r - len b) hr4 d3
      have X2 := shift_or q (len r - len b) hr3 d4
      go_wp2_with (go_at_call 81; refine (degree_nat _ _ (by assumption)).mono ?_; rintro e w' ⟨rfl, rfl⟩)
      go_round
      case rel => exact ⟨_, _, d1, rfl, rfl, by go_num⟩
      case measure => simp only [intOf, Int.toNat_natCast]; exact d2
    · go_wp2
      go_ret2
      obtain ⟨e1, e2⟩ := div_end hr (by omega)
      rw [← e1, ← e2]
      exact ⟨rfl, rfl⟩
end Go.Proofs.Ytdnhidachdjgaaa
namespace Go.Proofs.Ytdnhidachdjgaaa
open Go.RowKit Gf2

theorem nat_u64 {a : Int} (h : (Lit.int .u64 a).wf = true) : ∃ n : Nat, a = n ∧ n < 18446744073709551616 := by
  have := bounds_u64 h
  exact ⟨a.toNat, by omega, by omega⟩
theorem nat_u32 {a : Int} (h : (Lit.int .u32 a).wf = true) : ∃ n : Nat, a = n ∧ n < 4294967296 := by
  have := bounds_u32 h
  exact ⟨a.toNat, by omega, by omega⟩


set_option maxHeartbeats 400000 in
theorem remainder_nat (a b : Nat) (w : World) (ha : a < 18446744073709551616) (hb : b < 18446744073709551616) (hb0 : b ≠ 0) :
    Calls Try.prog 80 #[.int .u64 (a : Int), .int .u64 (b : Int)] w fun e w' => e = .returned (.int .u64 (pmod a b : Nat)) ∧ w' = w := by
  go_enter Try.func80, Try.ntmps80
  go_wp2_with (go_at_call 83; refine (divide_nat _ _ _ ha hb hb0).mono ?_; rintro e w' ⟨rfl, rfl⟩)
  go_ret
  exact ⟨rfl, rfl⟩

set_option maxHeartbeats 400000 in
theorem times_nat (a b p : Nat) (w : World) (ha : a < 18446744073709551616) (hb : b < 18446744073709551616) (hp : p < 18446744073709551616) (hp0 : p ≠ 0) :
    Calls Try.prog 79 #[.int .u64 (a : Int), .int .u64 (b : Int), .int .u64 (p : Int)] w fun e w' => e = .returned (.int .u64 (pmod (prod a b) p : Nat)) ∧ w' = w := by
  go_enter Try.func79, Try.ntmps79
  go_wp2_with (first | (go_at_call 82; refine (product_nat _ _ _ ha hb).mono ?_; rintro e w' ⟨rfl, rfl⟩) | (go_at_call 80; refine (remainder_nat _ _ _ (prod_lt _ _) hp hp0).mono ?_; rintro e w' ⟨rfl, rfl⟩))
  go_ret
  exact ⟨rfl, rfl⟩

/-- a degree from 1 to g? -/
def isMod (p : Nat) (g : Nat) : Bool := decide (2 ≤ len p ∧ len p ≤ g + 1)

set_option maxHeartbeats 400000 in
theorem isModulus_nat (p g : Nat) (w : World) (hp : p < 18446744073709551616) (_hg : g ≤ 64) :
    Calls Try.prog 78 #[.int .u64 (p : Int), .int .i64 (g : Int)] w fun e w' => e = .returned (.bool (isMod p g)) ∧ w' = w := by
  have hlp : len p ≤ 64 := len_le.2 hp
  by_cases h1 : 2 ≤ len p
  · by_cases h2 : len p ≤ g + 1
    · have e : isMod p g = true := by simp [isMod, h1, h2]
      rw [e]; clear e
      go_enter Try.func78, Try.ntmps78
      go_wp2_with (go_at_call 81; refine (degree_nat _ _ hp).mono ?_; rintro e w' ⟨rfl, rfl⟩)
      go_ret
      exact ⟨ret_bool (by simp; omega), rfl⟩
    · have e : isMod p g = false := by simp [isMod, h2]
      rw [e]; clear e
      go_enter Try.func78, Try.ntmps78
      go_wp2_with (go_at_call 81; refine (degree_nat _ _ hp).mono ?_; rintro e w' ⟨rfl, rfl⟩)
      go_ret
      exact ⟨ret_bool (by simp; omega), rfl⟩
  · have e : isMod p g = false := by simp [isMod, h1]
    rw [e]; clear e
    go_enter Try.func78, Try.ntmps78
    go_wp2_with (go_at_call 81; refine (degree_nat _ _ hp).mono ?_; rintro e w' ⟨rfl, rfl⟩)
    go_ret
    exact ⟨rfl, rfl⟩

theorem isMod_true {p g : Nat} (h : isMod p g = true) : 2 ≤ len p ∧ len p ≤ g + 1 := by simpa [isMod] using h
theorem isMod_false {p g : Nat} (h : isMod p g = false) : ¬ (2 ≤ len p ∧ len p ≤ g + 1) := by simpa [isMod] using h
theorem isMod_mk {p g : Nat} (h : 2 ≤ len p ∧ len p ≤ g + 1) : isMod p g = true := by simpa [isMod] using h
theorem isMod_ne {p g : Nat} (h : isMod p g = true) : p ≠ 0 := by
  rintro rfl; have := isMod_true h; rw [len_zero] at this; omega

set_option maxHeartbeats 400000 in
theorem mulmod_yes (a b p : Nat) (w : World) (ha : a < 18446744073709551616) (hb : b < 18446744073709551616) (hp : p < 18446744073709551616) (h : isMod p 32 = true) :
    Calls Try.prog 77 #[.int .u64 (a : Int), .int .u64 (b : Int), .int .u64 (p : Int)] w fun e w' => e = .returned (.tuple #[.int .u64 (pmod (prod (pmod a p) (pmod b p)) p : Nat), .int .i64 0]) ∧ w' = w := by
  have hp0 := isMod_ne h
  have h1 := pmod_lt a hp0 hp
  have h2 := pmod_lt b hp0 hp
  go_enter Try.func77, Try.ntmps77
  go_wp2_with (first | (go_at_call 78; refine (isModulus_nat _ 32 _ hp (by decide)).mono ?_; rw [h]; rintro e w' ⟨rfl, rfl⟩) | (go_at_call 80; refine (remainder_nat _ _ _ (by assumption) hp hp0).mono ?_; rintro e w' ⟨rfl, rfl⟩) | (go_at_call 79; refine (times_nat _ _ _ _ h1 h2 hp hp0).mono ?_; rintro e w' ⟨rfl, rfl⟩))
  go_ret2
  exact ⟨rfl, rfl⟩

end Go.Proofs.Ytdnhidachdjgaaa
namespace Go.Proofs.Ytdnhidachdjgaaa
open Go.RowKit Gf2

theorem tm_lt (a b : Nat) {p : Nat} (hp0 : p ≠ 0) (hp : p < 18446744073709551616) : tm a b p < 18446744073709551616 := pmod_lt _ hp0 hp

theorem times_tm (a b p : Nat) (w : World) (ha : a < 18446744073709551616) (hb : b < 18446744073709551616) (hp : p < 18446744073709551616) (hp0 : p ≠ 0) :
    Calls Try.prog 79 #[.int .u64 (a : Int), .int .u64 (b : Int), .int .u64 (p : Int)] w fun e w' => e = .returned (.int .u64 (tm a b p : Nat)) ∧ w' = w := times_nat a b p w ha hb hp hp0

end Go.Proofs.Ytdnhidachdjgaaa
namespace Go.Proofs.Ytdnhidachdjgaaa
open Go.RowKit Gf2

theorem pgcd_lt32 {a b : Nat} (ha : a < 4294967296) (hb : b < 4294967296) : pgcd a b < 4294967296 := by
  have h1 : len a ≤ 32 := len_le.2 ha
  have h2 : len b ≤ 32 := len_le.2 hb
  apply (len_le (n := 32)).1
  by_cases h : a = 0
  · subst h
    by_cases h' : b = 0
    · subst h'; decide
    · have := (dv_len (pgcd_dv 0 b).2 h').2; omega
  · have := (dv_len (pgcd_dv a b).1 h).2; omega
theorem mul_lt64 {a b : Nat} (ha : a < 4294967296) (hb : b < 4294967296) : mul a b < 18446744073709551616 := by
  have h1 : len a ≤ 32 := len_le.2 ha
  have h2 : len b ≤ 32 := len_le.2 hb
  have := len_mul_le a b
  exact (len_le (n := 64)).1 (by omega)

end Go.Proofs.Ytdnhidachdjgaaa
namespace Go.Proofs.Ytdnhidachdjgaaa
open Go.RowKit Gf2

theorem pgcd_pmod {a p : Nat} (hp : p ≠ 0) : pgcd (pmod a p) p = pgcd a p := by
  rw [pgcd_comm (pmod a p) p, pgcd_step hp]

/-- the inverse is the power by two less than the field's number. -/
theorem inv_fermat {a p : Nat} (h : Irr p) (h33 : len p ≤ 33) (ha : ¬ dv p a) : cof (pmod a p) p = pmod (pw a (2 ^ (len p - 1) - 2)) p := by
  have hp := h.ne
  have h1 := h.1
  have hg : pgcd a p = 1 := by
    rcases irr_gcd h a with g | g
    · exact g
    · exact absurd g ha
  have hg' : pgcd (pmod a p) p = 1 := by rw [pgcd_pmod hp]; exact hg
  obtain ⟨e1, e2⟩ := inv_exists hp (by omega) hg'
  have hq : 2 ≤ 2 ^ (len p - 1) := by
    have : 2 ^ 1 ≤ 2 ^ (len p - 1) := Nat.pow_le_pow_right (by omega) (by omega)
    omega
  have f := fermat h (by omega) ha
  have e3 : 2 ^ (len p - 1) - 1 = (2 ^ (len p - 1) - 2) + 1 := by omega
  rw [e3] at f
  simp only [pw] at f
  have a1 : pmod (mul a (cof (pmod a p) p)) p = 1 := by
    have := (pmod_eq_iff hp).2 e1
    rw [mul_comm, pmod_mul_left _ _ hp] at this
    rw [this]; exact pmod_small (by rw [len_one]; omega)
  have a2 : dv p (mul a (cof (pmod a p) p) ^^^ mul a (pw a (2 ^ (len p - 1) - 2))) := (pmod_eq_iff hp).1 (by rw [a1, f])
  have a3 := (pmod_eq_iff hp).2 (cancel hp (by omega) hg a2)
  rw [pmod_small e2] at a3
  exact a3

theorem wrap_pow {d : Nat} (hd : d ≤ 32) : IntKind.u64.wrap (2 ^ d) = ((2 ^ d : Nat) : Int) := by
  have e : ((2 : Int) ^ d) = ((2 ^ d : Nat) : Int) := by simp
  rw [e]
  apply wrap_nat
  have : 2 ^ d ≤ 2 ^ 32 := Nat.pow_le_pow_right (by decide) hd
  have : (2 : Nat) ^ 32 = 4294967296 := rfl
  omega

theorem wrap_pow2 {d : Nat} (hd : d ≤ 32) (h2 : 2 ≤ 2 ^ d) : IntKind.u64.wrap (IntKind.u64.wrap (2 ^ d) - 2) = ((2 ^ d - 2 : Nat) : Int) := by
  rw [wrap_pow hd]
  have : 2 ^ d ≤ 2 ^ 32 := Nat.pow_le_pow_right (by decide) hd
  have e32 : (2 : Nat) ^ 32 = 4294967296 := rfl
  have e : ((2 ^ d : Nat) : Int) - 2 = ((2 ^ d - 2 : Nat) : Int) := by omega
  rw [e]
  apply wrap_nat
  omega

end Go.Proofs.Ytdnhidachdjgaaa
namespace Go.Proofs.Ytdnhidachdjgaaa
open Go.RowKit Gf2

theorem nat_u8 {a : Int} (h : (Lit.int .u8 a).wf = true) : ∃ n : Nat, a = n ∧ n < 256 := by
  have := bounds_u8 h
  exact ⟨a.toNat, by omega, by omega⟩
theorem fm8_lt (a b : Nat) : fm 285 a b < 256 := fld8.fm_lt a b
theorem fp8_lt (a b : Nat) : fp 285 a b < 256 := fld8.fp_lt a b
theorem fi8_lt {a : Nat} (ha : a < 256) (h0 : a ≠ 0) : fi 285 a < 256 := fld8.fi_lt ha h0

theorem mulmod8 (a b : Nat) (w : World) (ha : a < 256) (hb : b < 256) :
    Calls Try.prog 77 #[.int .u64 (a : Int), .int .u64 (b : Int), .int .u64 285] w fun e w' => e = .returned (.tuple #[.int .u64 (fm 285 a b : Nat), .int .i64 0]) ∧ w' = w := by
  have h := mulmod_yes a b 285 w (by omega) (by omega) (by decide) (by decide)
  rw [fld8.small ha, fld8.small hb, prod_eq' (n := 8) (m := 8) ha hb (by decide)] at h
  exact h

set_option maxHeartbeats 400000 in
theorem gmul_nat (a b : Nat) (w : World) (ha : a < 256) (hb : b < 256) :
    Calls Try.prog 65 #[.int .u8 (a : Int), .int .u8 (b : Int)] w fun e w' => e = .returned (.int .u8 (fm 285 a b : Nat)) ∧ w' = w := by
  have c1 := mulmod8 a b w ha hb
  have l1 := fm8_lt a b
  go_enter Try.func65, Try.ntmps65
  go_wp2_with (go_at_call 77; with_reducible refine c1.mono ?_; rintro e w' ⟨rfl, rfl⟩)
  go_ret
  exact ⟨rfl, rfl⟩

/-- the exponent: n less a multiple of 255. -/
def er (n : Int) : Nat := (n % 255).toNat
theorem er_lt (n : Int) : er n < 255 := by unfold er; omega

theorem tmod_255 (n : Int) : n.tmod 255 = if 0 ≤ n then n % 255 else -((-n) % 255) := by
  split
  · next h => exact Int.tmod_eq_emod_of_nonneg h
  · next h =>
    have : n.tmod 255 = -((-n).tmod 255) := by rw [Int.neg_tmod, Int.neg_neg]
    rw [this, Int.tmod_eq_emod_of_nonneg (by omega)]
theorem er_neg {n : Int} (h : n.tmod 255 < 0) : wrap64 (n.tmod 255 + 255) = (er n : Nat) := by
  rw [tmod_255] at h ⊢
  unfold er wrap64
  split at h <;> split <;> omega
theorem er_pos {n : Int} (h : 0 ≤ n.tmod 255) : n.tmod 255 = (er n : Nat) := by
  rw [tmod_255] at h ⊢
  unfold er
  split at h <;> split <;> omega

/-- what Pow answers. -/
def gp (a : Nat) (n : Int) : Nat := if a = 0 then (if n = 0 then 1 else 0) else fp 285 a (er n)
def ge (a : Nat) (n : Int) : Nat := if a = 0 ∧ n < 0 then 20 else 0
theorem gp_lt (a : Nat) (n : Int) : gp a n < 256 := by
  unfold gp
  have := fp8_lt a (er n)
  split
  · split <;> omega
  · exact this
theorem gp_ne {a : Nat} (n : Int) (h : a ≠ 0) : gp a n = fp 285 a (er n) := by unfold gp; rw [if_neg h]
theorem ge_ne {a : Nat} (n : Int) (h : a ≠ 0) : ge a n = 0 := by unfold ge; rw [if_neg (fun e => h e.1)]

/-- 2 times a by the shift. -/
def tw (a : Nat) : Nat := if 256 ≤ 2 * a then 2 * a ^^^ 285 else 2 * a
theorem tw_fm {a : Nat} (ha : a < 256) : fm 285 2 a = tw a := fld8.twice ha
theorem tw_lt {a : Nat} (ha : a < 256) : tw a < 256 := by rw [← tw_fm ha]; exact fm8_lt _ _

theorem i64_xor_nat (a b : Nat) (ha : a < 9223372036854775808) (hb : b < 9223372036854775808) : bits .xor .i64 (a : Int) (b : Int) = ((a ^^^ b : Nat) : Int) := by
  have hx : a ^^^ b < 2 ^ 63 := Nat.xor_lt_two_pow (by omega) (by omega)
  show IntKind.i64.wrap ((BitVec.ofInt 64 (a : Int) ^^^ BitVec.ofInt 64 (b : Int)).toNat : Int) = _
  rw [BitVec.toNat_xor, ofInt_u64 a (by omega), ofInt_u64 b (by omega), IntKind.wrap_i64]
  omega
theorem i64_and_nat (a b : Nat) (ha : a < 9223372036854775808) (hb : b < 9223372036854775808) : bits .and .i64 (a : Int) (b : Int) = ((a &&& b : Nat) : Int) := by
  have hx : a &&& b < 2 ^ 63 := Nat.and_lt_two_pow _ (by omega)
  show IntKind.i64.wrap ((BitVec.ofInt 64 (a : Int) &&& BitVec.ofInt 64 (b : Int)).toNat : Int) = _
  rw [BitVec.toNat_and, ofInt_u64 a (by omega), ofInt_u64 b (by omega), IntKind.wrap_i64]
  omega

end Go.Proofs.Ytdnhidachdjgaaa
namespace Go.Proofs.Ytdnhidachdjgaaa
open Go.RowKit Gf2

theorem bit8_eq (a i : Nat) : a / 2 ^ i % 2 = (a.testBit i).toNat := by
  rw [Nat.testBit_eq_decide_div_mod_eq]
  have := Nat.mod_two_eq_zero_or_one (a / 2 ^ i)
  rcases this with h | h <;> simp [h]
theorem low_step (b k : Nat) : b % 2 ^ (k + 1) = b % 2 ^ k ^^^ (if b / 2 ^ k % 2 = 1 then 2 ^ k else 0) := by
  apply Nat.eq_of_testBit_eq
  intro i
  rw [Nat.testBit_xor, Nat.testBit_mod_two_pow, Nat.testBit_mod_two_pow, bit8_eq]
  by_cases h : i = k
  · subst h
    cases hb : b.testBit i <;> simp
  · have h3 : (if (b.testBit k).toNat = 1 then 2 ^ k else 0).testBit i = false := by
      split
      · rw [Nat.testBit_two_pow]; simp; omega
      · simp
    rw [h3]
    by_cases h1 : i < k
    · simp [h1, show i < k + 1 by omega]
    · simp [h1, show ¬ i < k + 1 by omega]
theorem mul_low (a b k : Nat) : mul (b % 2 ^ (k + 1)) a = mul (b % 2 ^ k) a ^^^ (if b / 2 ^ k % 2 = 1 then a * 2 ^ k else 0) := by
  rw [low_step, xor_mul]
  congr 1
  split
  · exact mul_shift k a
  · exact zero_mul a
theorem red_step {A b i c : Nat} (hb : b ≠ 0) (hl : len A ≤ i + 1) (hd : len b ≤ i + 1) (e : pmod A b = c) (hbit : A / 2 ^ i % 2 = 1) :
    pmod (A ^^^ b * 2 ^ (i + 1 - len b)) b = c ∧ len (A ^^^ b * 2 ^ (i + 1 - len b)) ≤ i := by
  have hbl := len_pos.2 hb
  have hA1 : i < len A := by
    apply lt_len_of_testBit
    rw [bit8_eq] at hbit
    cases hc : A.testBit i with
    | true => rfl
    | false => rw [hc] at hbit; cases hbit
  have el : len (b * 2 ^ (i + 1 - len b)) = i + 1 := by
    rw [← mul_shift, len_mul (by have := Nat.two_pow_pos (i + 1 - len b); omega) hb, len_two_pow]; omega
  have hne : b * 2 ^ (i + 1 - len b) ≠ 0 := by intro h0; rw [h0, len_zero] at el; omega
  refine ⟨?_, ?_⟩
  · rw [pmod_xor_dist _ _ hb, e]
    have : pmod (b * 2 ^ (i + 1 - len b)) b = 0 := (pmod_eq_zero hb).2 ⟨2 ^ (i + 1 - len b), (mul_shift _ _).symm⟩
    rw [this, Nat.xor_zero]
  · have := len_xor_eq (a := A) (b := b * 2 ^ (i + 1 - len b)) (by omega) hne
    omega
theorem red_not {A i : Nat} (hl : len A ≤ i + 1) (hbit : A / 2 ^ i % 2 ≠ 1) : len A ≤ i := by
  rcases Nat.lt_or_ge i (len A) with h2 | h2
  · exfalso; apply hbit
    rw [bit8_eq, testBit_top (by omega)]; rfl
  · exact h2

theorem and8 (b k : Nat) (hb : b < 256) : bits BinOp.and IntKind.u8 ((b : Int) / 2 ^ k) 1 = ((b / 2 ^ k % 2 : Nat) : Int) := by
  have e : ((b : Int) / 2 ^ k) = ((b / 2 ^ k : Nat) : Int) := by simp
  rw [e]
  have h := u8_and_nat (b / 2 ^ k) 1 (Nat.lt_of_le_of_lt (Nat.div_le_self _ _) hb) (by decide)
  rw [nat_mask1] at h
  exact h
theorem and64 (b k : Nat) (hb : b < 9223372036854775808) : bits BinOp.and IntKind.i64 ((b : Int) / 2 ^ k) 1 = ((b / 2 ^ k % 2 : Nat) : Int) := by
  have e : ((b : Int) / 2 ^ k) = ((b / 2 ^ k : Nat) : Int) := by simp
  rw [e]
  have h := i64_and_nat (b / 2 ^ k) 1 (Nat.lt_of_le_of_lt (Nat.div_le_self _ _) hb) (by decide)
  rw [nat_mask1] at h
  exact h

theorem shl_xor {P a k : Nat} (hP : P < 65536) (hk : a * 2 ^ k < 65536) :
    bits BinOp.xor IntKind.i64 (P : Int) (wrap64 ((a : Int) * 2 ^ k)) = ((P ^^^ a * 2 ^ k : Nat) : Int) ∧ P ^^^ a * 2 ^ k < 65536 := by
  have e : ((a : Int) * 2 ^ k) = ((a * 2 ^ k : Nat) : Int) := by simp
  have e2 : wrap64 ((a * 2 ^ k : Nat) : Int) = ((a * 2 ^ k : Nat) : Int) := by unfold wrap64; omega
  rw [e, e2, i64_xor_nat _ _ (by omega) (by omega)]
  exact ⟨rfl, Nat.xor_lt_two_pow (n := 16) hP hk⟩
theorem shl_lt {a k : Nat} (ha : a < 256) (hk : k ≤ 8) : a * 2 ^ k < 65536 := by
  have h : 2 ^ k ≤ 2 ^ 8 := Nat.pow_le_pow_right (by decide) hk
  have : a * 2 ^ k ≤ 255 * 2 ^ 8 := Nat.mul_le_mul (by omega) h
  omega
theorem shl_285 {k : Nat} (hk : k ≤ 7) : 285 * 2 ^ k < 65536 := by
  have h : 2 ^ k ≤ 2 ^ 7 := Nat.pow_le_pow_right (by decide) hk
  have : 285 * 2 ^ k ≤ 285 * 2 ^ 7 := Nat.mul_le_mul (Nat.le_refl _) h
  omega

set_option maxHeartbeats 2000000 in
set_option maxRecDepth 10000 in
theorem refMul_nat (a b : Nat) (w : World) (ha : a < 256) (hb : b < 256) :
    Calls Try.prog 69 #[.int .u8 (a : Int), .int .u8 (b : Int)] w fun e w' => e = .returned (.int .u8 (fm 285 a b : Nat)) ∧ w' = w := by
  have hl2 : len (mul b a) ≤ 15 := by
    have h1 := len_mul_le b a
    have h2 : len a ≤ 8 := len_le.2 ha
    have h3 : len b ≤ 8 := len_le.2 hb
    omega
  have HL : Hid (len (mul b a) ≤ 15) := hl2
  clear hl2
  go_enter Try.func69, Try.ntmps69
  go_wp2
  go_loop [5, 6] (fun p i => ∃ k P : Nat, k ≤ 8 ∧ P < 65536 ∧ P = mul (b % 2 ^ k) a ∧ p = .int .i64 P ∧ i = .int .i64 k) (fun _ i => 8 - (intOf i).toNat)
  case atStart => exact ⟨0, 0, by decide, by decide, by simp [Nat.mod_one, zero_mul], rfl, rfl⟩
  case round =>
    obtain ⟨k, P, hk, hP, he, rfl, rfl⟩ := hrel
    have HE : Hid (P = mul (b % 2 ^ k) a) := he
    clear he
    by_cases hlt : k < 8
    · have A1 := and8 b k hb
      have hm := mul_low a b k
      by_cases hbit : b / 2 ^ k % 2 = 1
      · obtain ⟨X1, X2⟩ := shl_xor (k := k) hP (shl_lt ha (by omega))
        rw [hbit] at A1
        rw [if_pos hbit, ← HE.out] at hm
        have HM : Hid (mul (b % 2 ^ (k + 1)) a = P ^^^ a * 2 ^ k) := hm
        clear hm hbit
        go_wp2
        go_round
        case rel => exact ⟨k + 1, _, by omega, X2, HM.out.symm, rfl, by go_num⟩
        case measure => simp [intOf]; omega
      · have hb0 : b / 2 ^ k % 2 = 0 := by omega
        rw [hb0] at A1
        rw [if_neg hbit, Nat.xor_zero, ← HE.out] at hm
        have HM : Hid (mul (b % 2 ^ (k + 1)) a = P) := hm
        clear hm hbit hb0
        go_wp2
        go_round
        case rel => exact ⟨k + 1, _, by omega, hP, HM.out.symm, rfl, by go_num⟩
        case measure => simp [intOf]; omega
    · have hk8 : k = 8 := by omega
      subst hk8
      have e8 : b % 2 ^ 8 = b := Nat.mod_eq_of_lt hb
      have HM : Hid (P = mul b a) := by
        have h := HE.out
        rw [e8] at h
        exact h
      clear e8
      go_wp2
      go_loop [5, 7] (fun p i => ∃ k A : Nat, 8 ≤ k ∧ k ≤ 15 ∧ A < 65536 ∧ len A ≤ k ∧ pmod A 285 = fm 285 a b ∧ p = .int .i64 A ∧ i = .int .i64 ((k : Int) - 1)) (fun _ i => (intOf i + 1).toNat)
      case atStart =>
        refine ⟨15, P, by decide, by decide, hP, ?_, ?_, rfl, rfl⟩
        · rw [HM.out]; exact HL.out
        · rw [HM.out, mul_comm]; rfl
      case round =>
        obtain ⟨j, A, hj1, hj2, hA, hlA, he, rfl, rfl⟩ := hrel
        have HR : Hid (pmod A 285 = fm 285 a b) := he
        clear he
        by_cases hgt : 8 < j
        · obtain ⟨i, rfl⟩ : ∃ i, j = i + 1 := ⟨j - 1, by omega⟩
          have hi1 : (((i + 1 : Nat) : Int) - 1) = (i : Int) := by omega
          rw [hi1]
          have A1 := and64 A i (by omega)
          by_cases hbit : A / 2 ^ i % 2 = 1
          · obtain ⟨r1, r2⟩ := red_step (b := 285) (by decide) hlA (by rw [show len 285 = 9 by decide]; omega) HR.out hbit
            rw [show len 285 = 9 by decide, show i + 1 - 9 = i - 8 by omega] at r1 r2
            obtain ⟨X1, X2⟩ := shl_xor (P := A) (a := 285) (k := i - 8) hA (shl_285 (by omega))
            have X1 : bits BinOp.xor IntKind.i64 (A : Int) (wrap64 (285 * 2 ^ (i - 8))) = ((A ^^^ 285 * 2 ^ (i - 8) : Nat) : Int) := X1
            rw [hbit] at A1
            have H1 : Hid (pmod (A ^^^ 285 * 2 ^ (i - 8)) 285 = fm 285 a b ∧ len (A ^^^ 285 * 2 ^ (i - 8)) ≤ i) := ⟨r1, r2⟩
            have hd : ((i : Int) - 8) = ((i - 8 : Nat) : Int) := by omega
            clear r1 r2 hbit
            go_wp2
            go_round
            case rel => exact ⟨i, _, by omega, by omega, X2, H1.out.2, H1.out.1, rfl, by go_num⟩
            case measure => simp [intOf]
          · have h0 : A / 2 ^ i % 2 = 0 := by omega
            have r2 := red_not hlA hbit
            rw [h0] at A1
            clear hbit h0
            go_wp2
            go_round
            case rel => exact ⟨i, _, by omega, by omega, hA, r2, HR.out, rfl, by go_num⟩
            case measure => simp [intOf]
        · have hj8 : j = 8 := by omega
          subst hj8
          have hA8 : A < 256 := (len_le (n := 8)).1 hlA
          go_wp2
          go_ret
          exact ⟨ret_int (by rw [← HR.out, fld8.small hA8]), rfl⟩
end Go.Proofs.Ytdnhidachdjgaaa
