import Derived.Test.YtdeophhcbkahgaaGfm
import Derived.Test.YtdeophhcbkahgaaNba
import Derived.Test.YtdeophhcbkahgaaWalkg
import Derived.Laws.Tables
import Derived.StillTail
import Derived.StillTailTactics
namespace Go.Proofs.Ytdeophhcbkahgaa.Gf2
set_option linter.unusedVariables false

/-- bit b of the first k places, as a number. -/
def pln (S : Nat → Nat) (b : Nat) : Nat → Nat
  | 0 => 0
  | k + 1 => pln S b k + S k / 2 ^ b % 2 * 2 ^ k
/-- c times the first k bytes of w, each in its place. -/
def wdk (c w : Nat) : Nat → Nat
  | 0 => 0
  | k + 1 => wdk c w k + fm 285 c (w / 256 ^ k % 256) * 256 ^ k
/-- k bytes as a number. -/
def wbs (S : Nat → Nat) : Nat → Nat
  | 0 => 0
  | k + 1 => wbs S k + S k * 256 ^ k

theorem bit_lt (x b : Nat) : x / 2 ^ b % 2 < 2 := Nat.mod_lt _ (by decide)
theorem pln_lt (S : Nat → Nat) (b : Nat) : ∀ k, pln S b k < 2 ^ k
  | 0 => by simp [pln]
  | k + 1 => by
    have h := pln_lt S b k
    have := bit_lt (S k) b
    unfold pln
    rw [Nat.pow_succ]
    rcases Nat.lt_or_ge (S k / 2 ^ b % 2) 1 with h1 | h1
    · have : S k / 2 ^ b % 2 = 0 := by omega
      rw [this]; omega
    · have : S k / 2 ^ b % 2 = 1 := by omega
      rw [this]; omega
theorem pln_congr {S T : Nat → Nat} (b : Nat) : ∀ {k : Nat}, (∀ j, j < k → S j = T j) → pln S b k = pln T b k
  | 0, _ => rfl
  | k + 1, h => by
    unfold pln
    rw [pln_congr b (fun j hj => h j (by omega)), h k (by omega)]
theorem bit_top (a x k j : Nat) (ha : a < 2 ^ k) (hx : x < 2) : (a + x * 2 ^ k) / 2 ^ j % 2 = if j < k then a / 2 ^ j % 2 else if j = k then x else 0 := by
  by_cases h : j < k
  · rw [if_pos h]
    obtain ⟨d, rfl⟩ : ∃ d, k = j + 1 + d := ⟨k - (j + 1), by omega⟩
    have e : x * 2 ^ (j + 1 + d) = 2 ^ j * (2 * (x * 2 ^ d)) := by
      rw [Nat.pow_add, Nat.pow_succ]
      simp only [Nat.mul_assoc, Nat.mul_left_comm, Nat.mul_comm]
    rw [e, Nat.add_mul_div_left _ _ (Nat.two_pow_pos j), Nat.add_mul_mod_self_left]
  · rw [if_neg h]
    by_cases e : j = k
    · subst e
      rw [if_pos rfl, Nat.add_mul_div_right _ _ (Nat.two_pow_pos j), Nat.div_eq_of_lt ha, Nat.zero_add, Nat.mod_eq_of_lt hx]
    · rw [if_neg e]
      have h2 : a + x * 2 ^ k < 2 ^ j := by
        have hp : 2 ^ (k + 1) ≤ 2 ^ j := Nat.pow_le_pow_right (by decide) (by omega)
        rw [Nat.pow_succ] at hp
        rcases Nat.lt_or_ge x 1 with h1 | h1
        · have : x = 0 := by omega
          rw [this]; omega
        · have : x = 1 := by omega
          rw [this]; omega
      rw [Nat.div_eq_of_lt h2]
theorem pln_bit (S : Nat → Nat) (b : Nat) : ∀ k j, pln S b k / 2 ^ j % 2 = if j < k then S j / 2 ^ b % 2 else 0
  | 0, j => by simp [pln]
  | k + 1, j => by
    unfold pln
    rw [bit_top _ _ _ _ (pln_lt S b k) (bit_lt _ _), pln_bit S b k j]
    by_cases h : j < k
    · rw [if_pos h, if_pos h, if_pos (by omega)]
    · rw [if_neg h]
      by_cases e : j = k
      · subst e; rw [if_pos rfl, if_pos (Nat.lt_succ_self _)]
      · rw [if_neg e, if_neg (by omega)]
/-- numbers with the same bits. -/
theorem bits_ext {x y : Nat} (h : ∀ j, x / 2 ^ j % 2 = y / 2 ^ j % 2) : x = y := by
  apply Nat.eq_of_testBit_eq
  intro j
  simp only [Nat.testBit_eq_decide_div_mod_eq, h j]
/-- planes there and back. -/
theorem pln_back {S : Nat → Nat} {j : Nat} (hj : j < 64) (h : S j < 256) : pln (fun b => pln S b 64) j 8 = S j := by
  apply bits_ext
  intro b
  rw [pln_bit]
  by_cases hb : b < 8
  · rw [if_pos hb, pln_bit, if_pos hj]
  · rw [if_neg hb]
    have : S j < 2 ^ b := Nat.lt_of_lt_of_le h (by have := Nat.pow_le_pow_right (n := 2) (by decide) (show 8 ≤ b by omega); simpa using this)
    rw [Nat.div_eq_of_lt this]
theorem xor_bit (x y j : Nat) : (x ^^^ y) / 2 ^ j % 2 = (x / 2 ^ j % 2 + y / 2 ^ j % 2) % 2 := by
  have h := Nat.testBit_xor x y j
  simp only [Nat.testBit_eq_decide_div_mod_eq] at h
  have h1 := bit_lt x j
  have h2 := bit_lt y j
  have h3 := bit_lt (x ^^^ y) j
  rcases (show x / 2 ^ j % 2 = 0 ∨ x / 2 ^ j % 2 = 1 by omega) with a | a <;> rcases (show y / 2 ^ j % 2 = 0 ∨ y / 2 ^ j % 2 = 1 by omega) with b | b <;> simp [a, b] at h ⊢ <;> omega
/-- the sum of the planes that the columns name, the first t of them. -/
def cols (c b : Nat) (P : Nat → Nat) : Nat → Nat
  | 0 => 0
  | t + 1 => if fm 285 c (2 ^ t) / 2 ^ b % 2 = 1 then cols c b P t ^^^ P t else cols c b P t
/-- c times the lowest t bits of x. -/
theorem fm_low (c x : Nat) : ∀ t, fm 285 c (x % 2 ^ (t + 1)) = fm 285 c (x % 2 ^ t) ^^^ (if x / 2 ^ t % 2 = 1 then fm 285 c (2 ^ t) else 0) := by
  intro t
  have e : x % 2 ^ (t + 1) = (x % 2 ^ t) ^^^ (x / 2 ^ t % 2 * 2 ^ t) := by
    apply bits_ext
    intro j
    have hl : x % 2 ^ t < 2 ^ t := Nat.mod_lt _ (Nat.two_pow_pos t)
    have s : x % 2 ^ (t + 1) = x % 2 ^ t + x / 2 ^ t % 2 * 2 ^ t := by
      rw [Nat.pow_succ, Nat.mod_mul, Nat.mul_comm]
    rw [s, bit_top _ _ _ _ hl (bit_lt _ _), xor_bit]
    have z := bit_top 0 (x / 2 ^ t % 2) t j (Nat.two_pow_pos t) (bit_lt _ _)
    rw [Nat.zero_add] at z
    rw [z]
    by_cases h : j < t
    · rw [if_pos h, if_pos h]; simp
    · have z2 : x % 2 ^ t / 2 ^ j % 2 = 0 := by
        rw [Nat.div_eq_of_lt (Nat.lt_of_lt_of_le hl (Nat.pow_le_pow_right (by decide) (by omega)))]
      rw [if_neg h, if_neg h, z2, Nat.zero_add]
      split
      · omega
      · rfl
  rw [e, fld8.fm_xor]
  congr 1
  have := bit_lt x t
  split
  · next h => rw [h, Nat.one_mul]
  · next h => rw [show x / 2 ^ t % 2 = 0 by omega, Nat.zero_mul, fld8.fm_zero]
theorem cols_bit {c b : Nat} {S : Nat → Nat} {j : Nat} (hj : j < 64) : ∀ t, cols c b (fun t => pln S t 64) t / 2 ^ j % 2 = fm 285 c (S j % 2 ^ t) / 2 ^ b % 2
  | 0 => by simp [cols, Nat.mod_one, fld8.fm_zero]
  | t + 1 => by
    unfold cols
    rw [fm_low, xor_bit]
    have ih := cols_bit (c := c) (b := b) (S := S) hj t
    by_cases h : fm 285 c (2 ^ t) / 2 ^ b % 2 = 1
    · rw [if_pos h, xor_bit, ih, pln_bit, if_pos hj]
      by_cases h2 : S j / 2 ^ t % 2 = 1
      · rw [if_pos h2, h, h2]
      · rw [if_neg h2, show S j / 2 ^ t % 2 = 0 by have := bit_lt (S j) t; omega]
        simp
    · rw [if_neg h, ih]
      have h0 : fm 285 c (2 ^ t) / 2 ^ b % 2 = 0 := by have := bit_lt (fm 285 c (2 ^ t)) b; omega
      split
      · rw [h0, Nat.add_zero, Nat.mod_mod]
      · simp
theorem cols_lt (c b : Nat) (S : Nat → Nat) : ∀ t, cols c b (fun t => pln S t 64) t < 2 ^ 64 := by
  intro t
  induction t with
  | zero => simp [cols]
  | succ t ih =>
    unfold cols
    split
    · exact Nat.xor_lt_two_pow ih (pln_lt _ _ _)
    · exact ih
/-- the planes of c times a block. -/
theorem cols_all {c b : Nat} {S : Nat → Nat} (h : ∀ j, j < 64 → S j < 256) : cols c b (fun t => pln S t 64) 8 = pln (fun j => fm 285 c (S j)) b 64 := by
  apply bits_ext
  intro j
  rw [pln_bit]
  by_cases hj : j < 64
  · rw [if_pos hj, cols_bit hj, Nat.mod_eq_of_lt (h j hj)]
  · rw [if_neg hj]
    have lt : ∀ t, cols c b (fun t => pln S t 64) t < 2 ^ 64 := by
      intro t
      induction t with
      | zero => simp [cols]
      | succ t ih =>
        unfold cols
        split
        · exact Nat.xor_lt_two_pow ih (pln_lt _ _ _)
        · exact ih
    rw [Nat.div_eq_of_lt (Nat.lt_of_lt_of_le (lt 8) (Nat.pow_le_pow_right (by decide) (by omega)))]

theorem wbs_lt {S : Nat → Nat} : ∀ {k : Nat}, (∀ j, j < k → S j < 256) → wbs S k < 256 ^ k
  | 0, _ => by simp [wbs]
  | k + 1, h => by
    have h1 := wbs_lt (fun j hj => h j (by omega) : ∀ j, j < k → S j < 256)
    have h2 := h k (by omega)
    have h3 : S k * 256 ^ k ≤ 255 * 256 ^ k := Nat.mul_le_mul_right _ (by omega)
    unfold wbs
    rw [Nat.pow_succ]
    omega
theorem byte_top (a x k j : Nat) (ha : a < 256 ^ k) (hx : x < 256) : (a + x * 256 ^ k) / 256 ^ j % 256 = if j < k then a / 256 ^ j % 256 else if j = k then x else 0 := by
  have pos : ∀ m, 0 < 256 ^ m := fun m => Nat.pow_pos (by decide)
  by_cases h : j < k
  · rw [if_pos h]
    obtain ⟨d, rfl⟩ : ∃ d, k = j + 1 + d := ⟨k - (j + 1), by omega⟩
    have e : x * 256 ^ (j + 1 + d) = 256 ^ j * (256 * (x * 256 ^ d)) := by
      rw [Nat.pow_add, Nat.pow_succ]
      simp only [Nat.mul_assoc, Nat.mul_left_comm, Nat.mul_comm]
    rw [e, Nat.add_mul_div_left _ _ (pos j), Nat.add_mul_mod_self_left]
  · rw [if_neg h]
    by_cases e : j = k
    · subst e
      rw [if_pos rfl, Nat.add_mul_div_right _ _ (pos j), Nat.div_eq_of_lt ha, Nat.zero_add, Nat.mod_eq_of_lt hx]
    · rw [if_neg e]
      have h2 : a + x * 256 ^ k < 256 ^ j := by
        have hp : 256 ^ (k + 1) ≤ 256 ^ j := Nat.pow_le_pow_right (by decide) (by omega)
        rw [Nat.pow_succ] at hp
        have h3 : x * 256 ^ k ≤ 255 * 256 ^ k := Nat.mul_le_mul_right _ (by omega)
        omega
      rw [Nat.div_eq_of_lt h2]
theorem wbs_byte {S : Nat → Nat} : ∀ {k : Nat}, (∀ j, j < k → S j < 256) → ∀ j, j < k → wbs S k / 256 ^ j % 256 = S j
  | 0, _, j, hj => absurd hj (Nat.not_lt_zero _)
  | k + 1, h, j, hj => by
    have h1 : ∀ j, j < k → S j < 256 := fun j hj => h j (by omega)
    unfold wbs
    rw [byte_top _ _ _ _ (wbs_lt h1) (h k (by omega))]
    by_cases e : j < k
    · rw [if_pos e, wbs_byte h1 j e]
    · rw [if_neg e, if_pos (by omega), show j = k by omega]
theorem wdk_wbs {c : Nat} {S : Nat → Nat} (h : ∀ j, j < 8 → S j < 256) : ∀ k, k ≤ 8 → wdk c (wbs S 8) k = wbs (fun j => fm 285 c (S j)) k
  | 0, _ => rfl
  | k + 1, hk => by
    show wdk c (wbs S 8) k + fm 285 c (wbs S 8 / 256 ^ k % 256) * 256 ^ k = wbs (fun j => fm 285 c (S j)) k + fm 285 c (S k) * 256 ^ k
    rw [wdk_wbs h k (by omega), wbs_byte h k (by omega)]
theorem wdk_lt (c w : Nat) : ∀ k, wdk c w k < 256 ^ k
  | 0 => by simp [wdk]
  | k + 1 => by
    have h1 := wdk_lt c w k
    have h2 : fm 285 c (w / 256 ^ k % 256) < 256 := fld8.fm_lt _ _
    have h3 : fm 285 c (w / 256 ^ k % 256) * 256 ^ k ≤ 255 * 256 ^ k := Nat.mul_le_mul_right _ (by omega)
    unfold wdk
    rw [Nat.pow_succ]
    omega
/-- a byte into the place above. -/
theorem or_top {a x k : Nat} (ha : a < 256 ^ k) : a ||| x * 256 ^ k = a + x * 256 ^ k := by
  have e : 256 ^ k = 2 ^ (8 * k) := by rw [Nat.pow_mul]
  rw [e] at ha ⊢
  rw [Nat.or_comm, Nat.mul_comm, Nat.add_comm, Nat.two_pow_add_eq_or_of_lt ha]
theorem or_bit {a k : Nat} (ha : a < 2 ^ k) : a ||| 2 ^ k = a + 2 ^ k := by
  have := Nat.two_pow_add_eq_or_of_lt ha 1
  rw [Nat.mul_one] at this
  rw [Nat.or_comm, ← this, Nat.add_comm]
end Go.Proofs.Ytdeophhcbkahgaa.Gf2

namespace Go.Proofs.Ytdeophhcbkahgaa.Gf2
set_option linter.unusedVariables false

theorem xor_top2 {a b x y k : Nat} (ha : a < 2 ^ k) (hb : b < 2 ^ k) : (a + x * 2 ^ k) ^^^ (b + y * 2 ^ k) = (a ^^^ b) + (x ^^^ y) * 2 ^ k := by
  have hc : a ^^^ b < 2 ^ k := Nat.xor_lt_two_pow ha hb
  rw [Nat.add_comm a, Nat.add_comm b, Nat.add_comm (a ^^^ b), Nat.mul_comm x, Nat.mul_comm y, Nat.mul_comm (x ^^^ y)]
  apply Nat.eq_of_testBit_eq
  intro j
  rw [Nat.testBit_xor, Nat.testBit_two_pow_mul_add _ ha, Nat.testBit_two_pow_mul_add _ hb, Nat.testBit_two_pow_mul_add _ hc]
  split <;> simp
theorem and_top2 {a b x y k : Nat} (ha : a < 2 ^ k) (hb : b < 2 ^ k) : (a + x * 2 ^ k) &&& (b + y * 2 ^ k) = (a &&& b) + (x &&& y) * 2 ^ k := by
  have hc : a &&& b < 2 ^ k := Nat.and_lt_two_pow _ hb
  rw [Nat.add_comm a, Nat.add_comm b, Nat.add_comm (a &&& b), Nat.mul_comm x, Nat.mul_comm y, Nat.mul_comm (x &&& y)]
  apply Nat.eq_of_testBit_eq
  intro j
  rw [Nat.testBit_and, Nat.testBit_two_pow_mul_add _ ha, Nat.testBit_two_pow_mul_add _ hb, Nat.testBit_two_pow_mul_add _ hc]
  split <;> simp
theorem p256 (k : Nat) : 256 ^ k = 2 ^ (8 * k) := by rw [Nat.pow_mul]
theorem xor_wbs {S T : Nat → Nat} : ∀ {k : Nat}, (∀ j, j < k → S j < 256) → (∀ j, j < k → T j < 256) → wbs S k ^^^ wbs T k = wbs (fun j => S j ^^^ T j) k
  | 0, _, _ => by simp [wbs]
  | k + 1, h, g => by
    have a := wbs_lt (fun j hj => h j (by omega) : ∀ j, j < k → S j < 256)
    have b := wbs_lt (fun j hj => g j (by omega) : ∀ j, j < k → T j < 256)
    show (wbs S k + S k * 256 ^ k) ^^^ (wbs T k + T k * 256 ^ k) = wbs (fun j => S j ^^^ T j) k + (S k ^^^ T k) * 256 ^ k
    rw [p256] at a b ⊢
    rw [xor_top2 a b, xor_wbs (fun j hj => h j (by omega)) (fun j hj => g j (by omega))]
theorem and_wbs {S T : Nat → Nat} : ∀ {k : Nat}, (∀ j, j < k → S j < 256) → (∀ j, j < k → T j < 256) → wbs S k &&& wbs T k = wbs (fun j => S j &&& T j) k
  | 0, _, _ => by simp [wbs]
  | k + 1, h, g => by
    have a := wbs_lt (fun j hj => h j (by omega) : ∀ j, j < k → S j < 256)
    have b := wbs_lt (fun j hj => g j (by omega) : ∀ j, j < k → T j < 256)
    show (wbs S k + S k * 256 ^ k) &&& (wbs T k + T k * 256 ^ k) = wbs (fun j => S j &&& T j) k + (S k &&& T k) * 256 ^ k
    rw [p256] at a b ⊢
    rw [and_top2 a b, and_wbs (fun j hj => h j (by omega)) (fun j hj => g j (by omega))]
theorem wbs_mul (S : Nat → Nat) (f : Nat) : ∀ k, wbs S k * f = wbs (fun j => S j * f) k
  | 0 => by simp [wbs]
  | k + 1 => by
    show (wbs S k + S k * 256 ^ k) * f = wbs (fun j => S j * f) k + S k * f * 256 ^ k
    rw [Nat.add_mul, wbs_mul S f k, Nat.mul_right_comm]
theorem wbs_congr {S T : Nat → Nat} : ∀ {k : Nat}, (∀ j, j < k → S j = T j) → wbs S k = wbs T k
  | 0, _ => rfl
  | k + 1, h => by
    unfold wbs
    rw [wbs_congr (fun j hj => h j (by omega) : ∀ j, j < k → S j = T j), h k (by omega)]
theorem wbs_digits (x : Nat) : ∀ k, wbs (fun j => x / 256 ^ j % 256) k = x % 256 ^ k
  | 0 => by simp [wbs, Nat.mod_one]
  | k + 1 => by
    show wbs (fun j => x / 256 ^ j % 256) k + x / 256 ^ k % 256 * 256 ^ k = x % 256 ^ (k + 1)
    rw [wbs_digits x k, Nat.pow_succ, Nat.mod_mul, Nat.mul_comm (256 ^ k)]
theorem wdk_is (c w : Nat) : ∀ k, wdk c w k = wbs (fun j => fm 285 c (w / 256 ^ j % 256)) k
  | 0 => rfl
  | k + 1 => by
    unfold wdk wbs
    rw [wdk_is c w k]
theorem low_mask : (72340172838076673 : Nat) = wbs (fun _ => 1) 8 := by decide
theorem mask_is {x : Nat} (hx : x < 18446744073709551616) : x &&& 72340172838076673 = wbs (fun j => x / 256 ^ j % 2) 8 := by
  have e : x = wbs (fun j => x / 256 ^ j % 256) 8 := by rw [wbs_digits, Nat.mod_eq_of_lt]; exact hx
  have h : ∀ j, j < 8 → x / 256 ^ j % 256 < 256 := fun j _ => Nat.mod_lt _ (by decide)
  rw [low_mask]
  conv => lhs; lhs; rw [e]
  rw [and_wbs h (fun _ _ => by decide)]
  exact wbs_congr (fun j _ => by rw [Nat.and_one_is_mod, Nat.mod_mod_of_dvd _ (by decide)])
/-- the bits b of the bytes of w. -/
def msk (w b : Nat) : Nat := (w / 2 ^ b) &&& 72340172838076673
theorem msk_is {w b : Nat} (hw : w < 18446744073709551616) (hb : b < 8) : msk w b = wbs (fun j => w / 256 ^ j % 256 / 2 ^ b % 2) 8 := by
  unfold msk
  rw [mask_is (Nat.lt_of_le_of_lt (Nat.div_le_self _ _) hw)]
  refine wbs_congr (fun j _ => ?_)
  rw [Nat.div_div_eq_div_mul, Nat.mul_comm, ← Nat.div_div_eq_div_mul]
  generalize w / 256 ^ j = v
  rcases (show b = 0 ∨ b = 1 ∨ b = 2 ∨ b = 3 ∨ b = 4 ∨ b = 5 ∨ b = 6 ∨ b = 7 by omega) with rfl | rfl | rfl | rfl | rfl | rfl | rfl | rfl <;> simp only [Nat.reducePow] <;> omega
theorem bitmul_lt {f : Nat} (hf : f < 256) (x : Nat) : x % 2 * f < 256 := by
  rcases (show x % 2 = 0 ∨ x % 2 = 1 by omega) with h | h <;> rw [h] <;> omega
theorem msk_mul {w b f : Nat} (hw : w < 18446744073709551616) (hb : b < 8) : msk w b * f = wbs (fun j => w / 256 ^ j % 256 / 2 ^ b % 2 * f) 8 := by
  rw [msk_is hw hb, wbs_mul]
theorem msk_mul_lt {w b f : Nat} (hw : w < 18446744073709551616) (hb : b < 8) (hf : f < 256) : msk w b * f < 18446744073709551616 := by
  rw [msk_mul hw hb]
  exact wbs_lt (k := 8) (fun j _ => bitmul_lt hf _)
theorem fm_bits (c : Nat) {y : Nat} (hy : y < 256) : fm 285 c y = y / 2 ^ 0 % 2 * fm 285 c (2 ^ 0) ^^^ y / 2 ^ 1 % 2 * fm 285 c (2 ^ 1) ^^^ y / 2 ^ 2 % 2 * fm 285 c (2 ^ 2) ^^^ y / 2 ^ 3 % 2 * fm 285 c (2 ^ 3) ^^^ y / 2 ^ 4 % 2 * fm 285 c (2 ^ 4) ^^^ y / 2 ^ 5 % 2 * fm 285 c (2 ^ 5) ^^^ y / 2 ^ 6 % 2 * fm 285 c (2 ^ 6) ^^^ y / 2 ^ 7 % 2 * fm 285 c (2 ^ 7) := by
  have s : ∀ t, fm 285 c (y % 2 ^ (t + 1)) = fm 285 c (y % 2 ^ t) ^^^ y / 2 ^ t % 2 * fm 285 c (2 ^ t) := fun t => by
    rw [fm_low]
    congr 1
    have := bit_lt y t
    split
    · next h => rw [h, Nat.one_mul]
    · next h => rw [show y / 2 ^ t % 2 = 0 by omega, Nat.zero_mul]
  have e : y % 2 ^ 8 = y := Nat.mod_eq_of_lt hy
  conv => lhs; rw [← e]
  rw [s 7, s 6, s 5, s 4, s 3, s 2, s 1, s 0]
  rw [show y % 2 ^ 0 = 0 by simp [Nat.mod_one], fld8.fm_zero, Nat.zero_xor]
/-- the eight sums. -/
theorem word_is {c w : Nat} (hw : w < 18446744073709551616) :
    msk w 0 * fm 285 c (2 ^ 0) ^^^ msk w 1 * fm 285 c (2 ^ 1) ^^^ msk w 2 * fm 285 c (2 ^ 2) ^^^ msk w 3 * fm 285 c (2 ^ 3) ^^^ msk w 4 * fm 285 c (2 ^ 4) ^^^ msk w 5 * fm 285 c (2 ^ 5) ^^^ msk w 6 * fm 285 c (2 ^ 6) ^^^ msk w 7 * fm 285 c (2 ^ 7) = wdk c w 8 := by
  have l : ∀ b j, w / 256 ^ j % 256 / 2 ^ b % 2 * fm 285 c (2 ^ b) < 256 := fun b j => bitmul_lt (fld8.fm_lt _ _) _
  have x8 : ∀ {a b : Nat}, a < 256 → b < 256 → a ^^^ b < 256 := fun h g => Nat.xor_lt_two_pow (n := 8) h g
  rw [msk_mul hw (by decide), msk_mul hw (by decide), msk_mul hw (by decide), msk_mul hw (by decide), msk_mul hw (by decide), msk_mul hw (by decide), msk_mul hw (by decide), msk_mul hw (by decide)]
  have k1 : ∀ j, w / 256 ^ j % 256 / 2 ^ 0 % 2 * fm 285 c (2 ^ 0) ^^^ w / 256 ^ j % 256 / 2 ^ 1 % 2 * fm 285 c (2 ^ 1) < 256 := fun j => x8 (l 0 j) (l 1 j)
  have k2 := fun j => x8 (k1 j) (l 2 j)
  have k3 := fun j => x8 (k2 j) (l 3 j)
  have k4 := fun j => x8 (k3 j) (l 4 j)
  have k5 := fun j => x8 (k4 j) (l 5 j)
  have k6 := fun j => x8 (k5 j) (l 6 j)
  rw [xor_wbs (fun j _ => l 0 j) (fun j _ => l 1 j), xor_wbs (fun j _ => k1 j) (fun j _ => l 2 j), xor_wbs (fun j _ => k2 j) (fun j _ => l 3 j), xor_wbs (fun j _ => k3 j) (fun j _ => l 4 j), xor_wbs (fun j _ => k4 j) (fun j _ => l 5 j), xor_wbs (fun j _ => k5 j) (fun j _ => l 6 j), xor_wbs (fun j _ => k6 j) (fun j _ => l 7 j)]
  rw [wdk_is]
  exact wbs_congr (fun j _ => (fm_bits c (Nat.mod_lt _ (by decide))).symm)
/-- the lowest byte of a word's product. -/
theorem wdk_low (c w : Nat) : wdk c w 8 % 256 = fm 285 c (w % 256) := by
  rw [wdk_is]
  have h := wbs_byte (S := fun j => fm 285 c (w / 256 ^ j % 256)) (k := 8) (fun j _ => fld8.fm_lt _ _) 0 (by decide)
  simpa using h
end Go.Proofs.Ytdeophhcbkahgaa.Gf2

namespace Go.Proofs.Ytdeophhcbkahgaa
open Go.RowKit Gf2
set_option linter.unusedVariables false

/-- words behind a slice value. -/
def Rq (w : World) (v : Value) (n : Nat) (F : Nat → Nat) : Prop := n ≤ big ∧ (∀ i, i < n → F i < 18446744073709551616) ∧
  ∃ a cap, v = .slice a n cap ∧ n ≤ cap ∧ cap ≤ big ∧ (0 < n → ∃ b o, a = some ⟨b, o, none⟩ ∧ b < w.heap.size ∧ ∀ i, i < n → w.cell? ⟨b, o + i, none⟩ = some (.int .u64 (F i : Nat)))
/-- words in a row of its own. -/
def Rv (w : World) (g N : Nat) (F : Nat → Nat) : Prop := N ≤ big ∧ (∀ i, i < N → F i < 18446744073709551616) ∧ w.rowIs g 105 N (fun i => .int .u64 (F i : Nat))
theorem one8 (k : Nat) (hk : k < 8) : IntKind.u8.wrap (2 ^ k) = ((2 ^ k : Nat) : Int) := by
  have hp : 2 ^ k ≤ 2 ^ 7 := Nat.pow_le_pow_right (by decide) (by omega)
  have z : ((2 : Int) ^ k) = ((2 ^ k : Nat) : Int) := by rw [Int.natCast_pow]; rfl
  rw [z, IntKind.wrap_u8]
  generalize 2 ^ k = P at hp ⊢
  have : (2 : Nat) ^ 7 = 128 := by decide
  omega
theorem one64 (k : Nat) (hk : k < 64) : IntKind.u64.wrap (2 ^ k) = ((2 ^ k : Nat) : Int) := by
  have hp : 2 ^ k ≤ 2 ^ 63 := Nat.pow_le_pow_right (by decide) (by omega)
  have z : ((2 : Int) ^ k) = ((2 ^ k : Nat) : Int) := by rw [Int.natCast_pow]; rfl
  rw [z, IntKind.wrap_u64]
  generalize 2 ^ k = P at hp ⊢
  have : (2 : Nat) ^ 63 = 9223372036854775808 := by decide
  omega
theorem pow256 (j : Nat) (hj : j < 8) : 255 * 256 ^ j + 256 ^ j ≤ 18446744073709551616 := by
  have h : 256 ^ (j + 1) ≤ 256 ^ 8 := Nat.pow_le_pow_right (by decide) (by omega)
  rw [Nat.pow_succ] at h
  have : (256 : Nat) ^ 8 = 18446744073709551616 := by decide
  omega
theorem or_word (a m j : Nat) (ha : a < 256 ^ j) (hm : m < 256) (hj : j < 8) : bits .or .u64 (a : Int) (IntKind.u64.wrap (IntKind.u64.wrap (m : Int) * 2 ^ (8 * j))) = ((a + m * 256 ^ j : Nat) : Int) := by
  have p := pow256 j hj
  have h1 : IntKind.u64.wrap (m : Int) = (m : Int) := by rw [IntKind.wrap_u64]; omega
  have hmm : m * 256 ^ j ≤ 255 * 256 ^ j := Nat.mul_le_mul_right _ (by omega)
  have e : (m : Int) * 2 ^ (8 * j) = ((m * 256 ^ j : Nat) : Int) := by
    rw [show (256 : Nat) ^ j = 2 ^ (8 * j) by rw [Nat.pow_mul], Int.natCast_mul, Int.natCast_pow]
    rfl
  have h2 : IntKind.u64.wrap (((m * 256 ^ j : Nat) : Int)) = ((m * 256 ^ j : Nat) : Int) := by
    rw [IntKind.wrap_u64]
    have : m * 256 ^ j < 18446744073709551616 := by have := Nat.pow_pos (n := j) (show 0 < 256 by decide); omega
    omega
  rw [h1, e, h2, u64_or_nat _ _ (by omega) (by have := Nat.pow_pos (n := j) (show 0 < 256 by decide); omega), or_top ha]
theorem info_u64 : (Try.prog.info? 105).map (fun i => (i.zero, i.size, i.bytes)) = some (some (Value.int .u64 0), 1, 8) := by kernel_rfl
theorem made_rv (w : World) : Rv (w.alloc (.cells (madeCells #[.int .u64 0] 8) 105)) w.heap.size 8 (fun _ => 0) :=
  ⟨by decide, fun _ _ => by show 0 < 18446744073709551616; decide, World.rowIs_made w (.int .u64 0) 8 105⟩
theorem Rv.set {w : World} {g N : Nat} {F : Nat → Nat} (h : Rv w g N F) (k v : Nat) (hv : v < 18446744073709551616) : Rv (w.setCell ⟨g, k, none⟩ (.int .u64 (v : Nat))) g N (fun i => if i = k then v else F i) := by
  refine ⟨h.1, fun i hi => ?_, (h.2.2.set k _).congr (fun i hi => ?_)⟩
  · dsimp only
    split
    · exact hv
    · exact h.2.1 i hi
  · dsimp only
    by_cases e : i = k
    · rw [if_pos e, if_pos e]
    · rw [if_neg e, if_neg e]
theorem Rv.congr {w : World} {g N : Nat} {F G : Nat → Nat} (h : Rv w g N F) (e : ∀ i, i < N → F i = G i) : Rv w g N G := by
  refine ⟨h.1, fun i hi => by rw [← e i hi]; exact h.2.1 i hi, h.2.2.congr (fun i hi => by rw [e i hi])⟩
theorem or_plane (a j : Nat) (ha : a < 2 ^ j) (hj : j < 64) : bits .or .u64 (a : Int) (2 ^ j) = ((a + 2 ^ j : Nat) : Int) := by
  have z : ((2 : Int) ^ j) = ((2 ^ j : Nat) : Int) := by rw [Int.natCast_pow]; rfl
  rw [z]
  have hp : 2 ^ j ≤ 2 ^ 63 := Nat.pow_le_pow_right (by decide) (by omega)
  have : (2 : Nat) ^ 63 = 9223372036854775808 := by decide
  rw [u64_or_nat _ _ (by omega) (by omega), or_bit ha]
theorem or_block (a j : Nat) (ha : a < 2 ^ j) (hj : j < 8) : bits .or .u8 (a : Int) (2 ^ j) = ((a + 2 ^ j : Nat) : Int) := by
  have z : ((2 : Int) ^ j) = ((2 ^ j : Nat) : Int) := by rw [Int.natCast_pow]; rfl
  rw [z]
  have hp : 2 ^ j ≤ 2 ^ 7 := Nat.pow_le_pow_right (by decide) (by omega)
  have : (2 : Nat) ^ 7 = 128 := by decide
  rw [u8_or_nat _ _ (by omega) (by omega), or_bit ha]

theorem u64_bit (x b : Nat) (hx : x < 18446744073709551616) : bits .and .u64 ((x : Int) / 2 ^ b) 1 = ((x / 2 ^ b % 2 : Nat) : Int) := by
  have h := u64_and_nat (x / 2 ^ b) 1 (Nat.lt_of_le_of_lt (Nat.div_le_self _ _) hx) (by decide)
  rw [Nat.and_one_is_mod] at h
  have e : ((x / 2 ^ b : Nat) : Int) = (x : Int) / 2 ^ b := by rw [Int.natCast_ediv, Int.natCast_pow]; rfl
  rw [e] at h
  exact h
theorem u8_bit (x b : Nat) (hx : x < 256) : bits .and .u8 ((x : Int) / 2 ^ b) 1 = ((x / 2 ^ b % 2 : Nat) : Int) := by
  have h := u8_and_nat (x / 2 ^ b) 1 (Nat.lt_of_le_of_lt (Nat.div_le_self _ _) hx) (by decide)
  rw [Nat.and_one_is_mod] at h
  have e : ((x / 2 ^ b : Nat) : Int) = (x : Int) / 2 ^ b := by rw [Int.natCast_ediv, Int.natCast_pow]; rfl
  rw [e] at h
  exact h

/-- a region that draws its order and only reads. -/
theorem region_still7 {P : Program} {id : Nat} {Q : Exit → Act → World → Prop} {a : Act} {w : World} {l : List Oper} (hm : P.follows .mixedOrders = true) (hB : Region.lexB .any l.toArray = true)
    (h : wpStill P l.toArray w.drew (fun a' => Q .normal a' w.drew) l a) : (Code.region id l.toArray true).wp P Q a w := wp_region_still_lit hm hB h
end Go.Proofs.Ytdeophhcbkahgaa
