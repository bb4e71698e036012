import Derived.WalkKit
import Derived.WalkSpells
import Derived.WalkLawsBesides
import Derived.Test.YtldacjpkblffbabWalka
import Derived.Test.YtldacjpkblffbabYj1
import Derived.OpenShut
namespace Go.Proofs.Ytldacjpkblffbab
open Go.RowKit Gf2

theorem ret_int {k : IntKind} {a b : Int} (h : a = b) : Ending.returned (.int k a) = .returned (.int k b) := by rw [h]

theorem ret_bool {a b : Bool} (h : a = b) : Ending.returned (.bool a) = .returned (.bool b) := by rw [h]

theorem wrap_two (x : Nat) : IntKind.u64.wrap ((x : Int) * 2) = ((x * 2 % 18446744073709551616 : Nat) : Int) := by
  rw [IntKind.wrap_u64]; omega
theorem and_one (y : Nat) (hy : y < 18446744073709551616) : bits .and .u64 (y : Int) 1 = ((y % 2 : Nat) : Int) := by
  have := u64_and_nat y 1 hy (by decide)
  rw [nat_mask1] at this
  exact this

theorem wrap_nat (x : Nat) (h : x < 18446744073709551616) : IntKind.u64.wrap (x : Int) = (x : Int) := by
  rw [IntKind.wrap_u64]; omega
theorem shift_xor (r b n : Nat) (hr : r < 18446744073709551616) (h : b * 2 ^ n < 18446744073709551616) :
    bits BinOp.xor IntKind.u64 (r : Int) (IntKind.u64.wrap ((b : Int) * 2 ^ n)) = ((r ^^^ b * 2 ^ n : Nat) : Int) := by
  have e : ((b : Int) * 2 ^ n) = ((b * 2 ^ n : Nat) : Int) := by simp
  rw [e, wrap_nat _ h, u64_xor_nat r _ hr h]
theorem shift_or (q n : Nat) (hr : q < 18446744073709551616) (h : 2 ^ n < 18446744073709551616) :
    bits BinOp.or IntKind.u64 (q : Int) (IntKind.u64.wrap (2 ^ n)) = ((q ||| 2 ^ n : Nat) : Int) := by
  have e : ((2 : Int) ^ n) = ((2 ^ n : Nat) : Int) := by simp
  rw [e, wrap_nat _ h, u64_or_nat q _ hr h]

end Go.Proofs.Ytldacjpkblffbab
namespace Go.Proofs.Ytldacjpkblffbab
open Go.RowKit Gf2

theorem nat_u64 {a : Int} (h : (Lit.int .u64 a).wf = true) : ∃ n : Nat, a = n ∧ n < 18446744073709551616 := by
  have := bounds_u64 h
  exact ⟨a.toNat, by omega, by omega⟩
theorem nat_u32 {a : Int} (h : (Lit.int .u32 a).wf = true) : ∃ n : Nat, a = n ∧ n < 4294967296 := by
  have := bounds_u32 h
  exact ⟨a.toNat, by omega, by omega⟩


/-- a degree from 1 to g? -/
def isMod (p : Nat) (g : Nat) : Bool := decide (2 ≤ len p ∧ len p ≤ g + 1)

theorem isMod_true {p g : Nat} (h : isMod p g = true) : 2 ≤ len p ∧ len p ≤ g + 1 := by simpa [isMod] using h
theorem isMod_false {p g : Nat} (h : isMod p g = false) : ¬ (2 ≤ len p ∧ len p ≤ g + 1) := by simpa [isMod] using h
theorem isMod_mk {p g : Nat} (h : 2 ≤ len p ∧ len p ≤ g + 1) : isMod p g = true := by simpa [isMod] using h
theorem isMod_ne {p g : Nat} (h : isMod p g = true) : p ≠ 0 := by
  rintro rfl; have := isMod_true h; rw [len_zero] at this; omega

end Go.Proofs.Ytldacjpkblffbab
namespace Go.Proofs.Ytldacjpkblffbab
open Go.RowKit Gf2

theorem tm_lt (a b : Nat) {p : Nat} (hp0 : p ≠ 0) (hp : p < 18446744073709551616) : tm a b p < 18446744073709551616 := pmod_lt _ hp0 hp

end Go.Proofs.Ytldacjpkblffbab
namespace Go.Proofs.Ytldacjpkblffbab
open Go.RowKit Gf2

theorem pgcd_lt32 {a b : Nat} (ha : a < 4294967296) (hb : b < 4294967296) : pgcd a b < 4294967296 := by
  have h1 : len a ≤ 32 := len_le.2 ha
  have h2 : len b ≤ 32 := len_le.2 hb
  apply (len_le (n := 32)).1
  by_cases h : a = 0
  · subst h
    by_cases h' : b = 0
    · subst h'; decide
    · have := (dv_len (pgcd_dv 0 b).2 h').2; omega
  · have := (dv_len (pgcd_dv a b).1 h).2; omega
theorem mul_lt64 {a b : Nat} (ha : a < 4294967296) (hb : b < 4294967296) : mul a b < 18446744073709551616 := by
  have h1 : len a ≤ 32 := len_le.2 ha
  have h2 : len b ≤ 32 := len_le.2 hb
  have := len_mul_le a b
  exact (len_le (n := 64)).1 (by omega)

end Go.Proofs.Ytldacjpkblffbab
namespace Go.Proofs.Ytldacjpkblffbab
open Go.RowKit Gf2

theorem pgcd_pmod {a p : Nat} (hp : p ≠ 0) : pgcd (pmod a p) p = pgcd a p := by
  rw [pgcd_comm (pmod a p) p, pgcd_step hp]

/-- the inverse is the power by two less than the field's number. -/
theorem inv_fermat {a p : Nat} (h : Irr p) (h33 : len p ≤ 33) (ha : ¬ dv p a) : cof (pmod a p) p = pmod (pw a (2 ^ (len p - 1) - 2)) p := by
  have hp := h.ne
  have h1 := h.1
  have hg : pgcd a p = 1 := by
    rcases irr_gcd h a with g | g
    · exact g
    · exact absurd g ha
  have hg' : pgcd (pmod a p) p = 1 := by rw [pgcd_pmod hp]; exact hg
  obtain ⟨e1, e2⟩ := inv_exists hp (by omega) hg'
  have hq : 2 ≤ 2 ^ (len p - 1) := by
    have : 2 ^ 1 ≤ 2 ^ (len p - 1) := Nat.pow_le_pow_right (by omega) (by omega)
    omega
  have f := fermat h (by omega) ha
  have e3 : 2 ^ (len p - 1) - 1 = (2 ^ (len p - 1) - 2) + 1 := by omega
  rw [e3] at f
  simp only [pw] at f
  have a1 : pmod (mul a (cof (pmod a p) p)) p = 1 := by
    have := (pmod_eq_iff hp).2 e1
    rw [mul_comm, pmod_mul_left _ _ hp] at this
    rw [this]; exact pmod_small (by rw [len_one]; omega)
  have a2 : dv p (mul a (cof (pmod a p) p) ^^^ mul a (pw a (2 ^ (len p - 1) - 2))) := (pmod_eq_iff hp).1 (by rw [a1, f])
  have a3 := (pmod_eq_iff hp).2 (cancel hp (by omega) hg a2)
  rw [pmod_small e2] at a3
  exact a3

theorem wrap_pow {d : Nat} (hd : d ≤ 32) : IntKind.u64.wrap (2 ^ d) = ((2 ^ d : Nat) : Int) := by
  have e : ((2 : Int) ^ d) = ((2 ^ d : Nat) : Int) := by simp
  rw [e]
  apply wrap_nat
  have : 2 ^ d ≤ 2 ^ 32 := Nat.pow_le_pow_right (by decide) hd
  have : (2 : Nat) ^ 32 = 4294967296 := rfl
  omega

theorem wrap_pow2 {d : Nat} (hd : d ≤ 32) (h2 : 2 ≤ 2 ^ d) : IntKind.u64.wrap (IntKind.u64.wrap (2 ^ d) - 2) = ((2 ^ d - 2 : Nat) : Int) := by
  rw [wrap_pow hd]
  have : 2 ^ d ≤ 2 ^ 32 := Nat.pow_le_pow_right (by decide) hd
  have e32 : (2 : Nat) ^ 32 = 4294967296 := rfl
  have e : ((2 ^ d : Nat) : Int) - 2 = ((2 ^ d - 2 : Nat) : Int) := by omega
  rw [e]
  apply wrap_nat
  omega

end Go.Proofs.Ytldacjpkblffbab
namespace Go.Proofs.Ytldacjpkblffbab
open Go.RowKit Gf2

theorem nat_u8 {a : Int} (h : (Lit.int .u8 a).wf = true) : ∃ n : Nat, a = n ∧ n < 256 := by
  have := bounds_u8 h
  exact ⟨a.toNat, by omega, by omega⟩
theorem fm8_lt (a b : Nat) : fm 285 a b < 256 := fld8.fm_lt a b
theorem fp8_lt (a b : Nat) : fp 285 a b < 256 := fld8.fp_lt a b
theorem fi8_lt {a : Nat} (ha : a < 256) (h0 : a ≠ 0) : fi 285 a < 256 := fld8.fi_lt ha h0

/-- the exponent: n less a multiple of 255. -/
def er (n : Int) : Nat := (n % 255).toNat
theorem er_lt (n : Int) : er n < 255 := by unfold er; omega

theorem tmod_255 (n : Int) : n.tmod 255 = if 0 ≤ n then n % 255 else -((-n) % 255) := by
  split
  · next h => exact Int.tmod_eq_emod_of_nonneg h
  · next h =>
    have : n.tmod 255 = -((-n).tmod 255) := by rw [Int.neg_tmod, Int.neg_neg]
    rw [this, Int.tmod_eq_emod_of_nonneg (by omega)]
theorem er_neg {n : Int} (h : n.tmod 255 < 0) : wrap64 (n.tmod 255 + 255) = (er n : Nat) := by
  rw [tmod_255] at h ⊢
  unfold er wrap64
  split at h <;> split <;> omega
theorem er_pos {n : Int} (h : 0 ≤ n.tmod 255) : n.tmod 255 = (er n : Nat) := by
  rw [tmod_255] at h ⊢
  unfold er
  split at h <;> split <;> omega

/-- what Pow answers. -/
def gp (a : Nat) (n : Int) : Nat := if a = 0 then (if n = 0 then 1 else 0) else fp 285 a (er n)
def ge (a : Nat) (n : Int) : Nat := if a = 0 ∧ n < 0 then 20 else 0
theorem gp_lt (a : Nat) (n : Int) : gp a n < 256 := by
  unfold gp
  have := fp8_lt a (er n)
  split
  · split <;> omega
  · exact this
theorem gp_ne {a : Nat} (n : Int) (h : a ≠ 0) : gp a n = fp 285 a (er n) := by unfold gp; rw [if_neg h]
theorem ge_ne {a : Nat} (n : Int) (h : a ≠ 0) : ge a n = 0 := by unfold ge; rw [if_neg (fun e => h e.1)]

/-- 2 times a by the shift. -/
def tw (a : Nat) : Nat := if 256 ≤ 2 * a then 2 * a ^^^ 285 else 2 * a
theorem tw_fm {a : Nat} (ha : a < 256) : fm 285 2 a = tw a := fld8.twice ha
theorem tw_lt {a : Nat} (ha : a < 256) : tw a < 256 := by rw [← tw_fm ha]; exact fm8_lt _ _

theorem i64_xor_nat (a b : Nat) (ha : a < 9223372036854775808) (hb : b < 9223372036854775808) : bits .xor .i64 (a : Int) (b : Int) = ((a ^^^ b : Nat) : Int) := by
  have hx : a ^^^ b < 2 ^ 63 := Nat.xor_lt_two_pow (by omega) (by omega)
  show IntKind.i64.wrap ((BitVec.ofInt 64 (a : Int) ^^^ BitVec.ofInt 64 (b : Int)).toNat : Int) = _
  rw [BitVec.toNat_xor, ofInt_u64 a (by omega), ofInt_u64 b (by omega), IntKind.wrap_i64]
  omega
theorem i64_and_nat (a b : Nat) (ha : a < 9223372036854775808) (hb : b < 9223372036854775808) : bits .and .i64 (a : Int) (b : Int) = ((a &&& b : Nat) : Int) := by
  have hx : a &&& b < 2 ^ 63 := Nat.and_lt_two_pow _ (by omega)
  show IntKind.i64.wrap ((BitVec.ofInt 64 (a : Int) &&& BitVec.ofInt 64 (b : Int)).toNat : Int) = _
  rw [BitVec.toNat_and, ofInt_u64 a (by omega), ofInt_u64 b (by omega), IntKind.wrap_i64]
  omega

end Go.Proofs.Ytldacjpkblffbab
namespace Go.Proofs.Ytldacjpkblffbab
open Go.RowKit Gf2

theorem bit8_eq (a i : Nat) : a / 2 ^ i % 2 = (a.testBit i).toNat := by
  rw [Nat.testBit_eq_decide_div_mod_eq]
  have := Nat.mod_two_eq_zero_or_one (a / 2 ^ i)
  rcases this with h | h <;> simp [h]
theorem low_step (b k : Nat) : b % 2 ^ (k + 1) = b % 2 ^ k ^^^ (if b / 2 ^ k % 2 = 1 then 2 ^ k else 0) := by
  apply Nat.eq_of_testBit_eq
  intro i
  rw [Nat.testBit_xor, Nat.testBit_mod_two_pow, Nat.testBit_mod_two_pow, bit8_eq]
  by_cases h : i = k
  · subst h
    cases hb : b.testBit i <;> simp
  · have h3 : (if (b.testBit k).toNat = 1 then 2 ^ k else 0).testBit i = false := by
      split
      · rw [Nat.testBit_two_pow]; simp; omega
      · simp
    rw [h3]
    by_cases h1 : i < k
    · simp [h1, show i < k + 1 by omega]
    · simp [h1, show ¬ i < k + 1 by omega]
theorem mul_low (a b k : Nat) : mul (b % 2 ^ (k + 1)) a = mul (b % 2 ^ k) a ^^^ (if b / 2 ^ k % 2 = 1 then a * 2 ^ k else 0) := by
  rw [low_step, xor_mul]
  congr 1
  split
  · exact mul_shift k a
  · exact zero_mul a
theorem red_step {A b i c : Nat} (hb : b ≠ 0) (hl : len A ≤ i + 1) (hd : len b ≤ i + 1) (e : pmod A b = c) (hbit : A / 2 ^ i % 2 = 1) :
    pmod (A ^^^ b * 2 ^ (i + 1 - len b)) b = c ∧ len (A ^^^ b * 2 ^ (i + 1 - len b)) ≤ i := by
  have hbl := len_pos.2 hb
  have hA1 : i < len A := by
    apply lt_len_of_testBit
    rw [bit8_eq] at hbit
    cases hc : A.testBit i with
    | true => rfl
    | false => rw [hc] at hbit; cases hbit
  have el : len (b * 2 ^ (i + 1 - len b)) = i + 1 := by
    rw [← mul_shift, len_mul (by have := Nat.two_pow_pos (i + 1 - len b); omega) hb, len_two_pow]; omega
  have hne : b * 2 ^ (i + 1 - len b) ≠ 0 := by intro h0; rw [h0, len_zero] at el; omega
  refine ⟨?_, ?_⟩
  · rw [pmod_xor_dist _ _ hb, e]
    have : pmod (b * 2 ^ (i + 1 - len b)) b = 0 := (pmod_eq_zero hb).2 ⟨2 ^ (i + 1 - len b), (mul_shift _ _).symm⟩
    rw [this, Nat.xor_zero]
  · have := len_xor_eq (a := A) (b := b * 2 ^ (i + 1 - len b)) (by omega) hne
    omega
theorem red_not {A i : Nat} (hl : len A ≤ i + 1) (hbit : A / 2 ^ i % 2 ≠ 1) : len A ≤ i := by
  rcases Nat.lt_or_ge i (len A) with h2 | h2
  · exfalso; apply hbit
    rw [bit8_eq, testBit_top (by omega)]; rfl
  · exact h2

theorem and8 (b k : Nat) (hb : b < 256) : bits BinOp.and IntKind.u8 ((b : Int) / 2 ^ k) 1 = ((b / 2 ^ k % 2 : Nat) : Int) := by
  have e : ((b : Int) / 2 ^ k) = ((b / 2 ^ k : Nat) : Int) := by simp
  rw [e]
  have h := u8_and_nat (b / 2 ^ k) 1 (Nat.lt_of_le_of_lt (Nat.div_le_self _ _) hb) (by decide)
  rw [nat_mask1] at h
  exact h
theorem and64 (b k : Nat) (hb : b < 9223372036854775808) : bits BinOp.and IntKind.i64 ((b : Int) / 2 ^ k) 1 = ((b / 2 ^ k % 2 : Nat) : Int) := by
  have e : ((b : Int) / 2 ^ k) = ((b / 2 ^ k : Nat) : Int) := by simp
  rw [e]
  have h := i64_and_nat (b / 2 ^ k) 1 (Nat.lt_of_le_of_lt (Nat.div_le_self _ _) hb) (by decide)
  rw [nat_mask1] at h
  exact h

theorem shl_xor {P a k : Nat} (hP : P < 65536) (hk : a * 2 ^ k < 65536) :
    bits BinOp.xor IntKind.i64 (P : Int) (wrap64 ((a : Int) * 2 ^ k)) = ((P ^^^ a * 2 ^ k : Nat) : Int) ∧ P ^^^ a * 2 ^ k < 65536 := by
  have e : ((a : Int) * 2 ^ k) = ((a * 2 ^ k : Nat) : Int) := by simp
  have e2 : wrap64 ((a * 2 ^ k : Nat) : Int) = ((a * 2 ^ k : Nat) : Int) := by unfold wrap64; omega
  rw [e, e2, i64_xor_nat _ _ (by omega) (by omega)]
  exact ⟨rfl, Nat.xor_lt_two_pow (n := 16) hP hk⟩
theorem shl_lt {a k : Nat} (ha : a < 256) (hk : k ≤ 8) : a * 2 ^ k < 65536 := by
  have h : 2 ^ k ≤ 2 ^ 8 := Nat.pow_le_pow_right (by decide) hk
  have : a * 2 ^ k ≤ 255 * 2 ^ 8 := Nat.mul_le_mul (by omega) h
  omega
theorem shl_285 {k : Nat} (hk : k ≤ 7) : 285 * 2 ^ k < 65536 := by
  have h : 2 ^ k ≤ 2 ^ 7 := Nat.pow_le_pow_right (by decide) hk
  have : 285 * 2 ^ k ≤ 285 * 2 ^ 7 := Nat.mul_le_mul (Nat.le_refl _) h
  omega

end Go.Proofs.Ytldacjpkblffbab
