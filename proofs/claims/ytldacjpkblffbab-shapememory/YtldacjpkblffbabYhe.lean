import Derived.Test.YtldacjpkblffbabYhd
namespace Go.Proofs.Ytldacjpkblffbab
open Go.RowKit Gf2
set_option linter.unusedVariables false

-- layer 16: the document's length and Length; Uses
theorem ceil16 {n k : Nat} (hk : 1 ≤ k) : (n + k - 1) / k = if n % k = 0 then n / k else n / k + 1 := by
  obtain ⟨q, hq⟩ : ∃ q, q = n / k := ⟨_, rfl⟩
  obtain ⟨r, hr⟩ : ∃ r, r = n % k := ⟨_, rfl⟩
  have h := Nat.div_add_mod n k
  have hl := Nat.mod_lt n (show 0 < k by omega)
  rw [← hq, ← hr] at *
  rw [← h]
  by_cases e : r = 0
  · rw [if_pos e, e, show k * q + 0 + k - 1 = (k - 1) + k * q by omega, Nat.add_mul_div_left _ _ (by omega), Nat.div_eq_of_lt (by omega), Nat.zero_add]
  · rw [if_neg e, show k * q + r + k - 1 = (r - 1 + k) + k * q by omega, Nat.add_mul_div_left _ _ (by omega), Nat.add_div_right _ (by omega), Nat.div_eq_of_lt (by omega)]
    omega
theorem len_wraps {q a n : Nat} (h : q ≤ n) (h2 : n ≤ 1099511627776) (h3 : a ≤ q + 1) : wrap64 (q : Int) = (q : Int) ∧ wrap64 ((q : Int) + 1) = ((q + 1 : Nat) : Int) ∧ wrap64 ((a : Int) + 1) = ((a + 1 : Nat) : Int) := by
  refine ⟨?_, ?_, ?_⟩ <;> (unfold wrap64; omega)
set_option maxHeartbeats 2000000 in
set_option maxRecDepth 100000 in
theorem rlength16a (f : Int) (k n : Nat) (w : World) (k1 : 1 ≤ k) (k2 : k ≤ 65536) (hn2 : n ≤ 1099511627776) :
    Calls Try.prog 29 #[.int .i64 f, .int .i64 (k : Int), .int .i64 (n : Int)] w fun e w' => e = .returned (.int .i64 (ln16 f k n : Nat)) ∧ w' = w := by
  obtain ⟨l, hl⟩ : ∃ l, l = ln16 f k n := ⟨_, rfl⟩
  rw [← hl]
  have HL : Hid (l = ln16 f k n) := hl
  clear hl
  obtain ⟨q, hq⟩ : ∃ q, q = n / k := ⟨_, rfl⟩
  obtain ⟨r, hr⟩ : ∃ r, r = n % k := ⟨_, rfl⟩
  have hqn : q ≤ n := by rw [hq]; exact Nat.div_le_self _ _
  have T1 : (n : Int).tdiv (k : Int) = (q : Int) := by rw [hq]; exact (Int.ofNat_tdiv _ _).symm
  have T2 : (n : Int).tmod (k : Int) = (r : Int) := by rw [hr]; exact (Int.ofNat_tmod _ _).symm
  have hc := ceil16 (n := n) k1
  rw [← hq, ← hr] at hc
  have D3 : ¬ k = 0 := by omega
  -- q plus what is left, then the odd one
  obtain ⟨a, ha⟩ : ∃ a, a = (n + k - 1) / k := ⟨_, rfl⟩
  rw [← ha] at hc
  have hl2 : l = if f = 2 then a + a % 2 else a := by have := HL.out; unfold ln16 at this; rw [← ha] at this; exact this
  have T3 : (a : Int).tmod 2 = ((a % 2 : Nat) : Int) := (Int.ofNat_tmod _ _).symm
  obtain ⟨b, hb⟩ : ∃ b, b = a % 2 := ⟨_, rfl⟩
  rw [← hb] at T3 hl2
  have hb2 : b = 0 ∨ b = 1 := by omega
  have ha5 : a ≤ q + 1 := by rw [hc]; split <;> omega
  have D4 : r = 0 → ¬ 0 < r := by intro h; omega
  have D5 : ¬ r = 0 → 0 < r := by intro h; omega
  have T4 : b = 0 → (a : Int) % 2 = 0 := by intro h; omega
  have T5 : b = 1 → (a : Int) % 2 = 1 := by intro h; omega
  have Ws := len_wraps hqn hn2 ha5
  clear ha5
  obtain ⟨W3, W4, W5⟩ := Ws
  by_cases h0 : r = 0
  · rw [if_pos h0] at hc
    subst hc
    replace D4 := D4 h0
    clear D5
    by_cases h2 : f = 2
    · rw [if_pos h2] at hl2
      subst h2
      rcases hb2 with h9 | h9
      · replace T4 := T4 h9
        clear T5
        rw [h9] at T3 hl2
        obtain rfl : l = a := hl2
        have hz : ¬ ((0 : Nat) : Int) = 1 := by decide
        clear hb h9 h0 hr hq ha hqn HL k1 k2 hn2 W4 W5
        go_enter Try.func29, Try.ntmps29
        go_wp2
        rw [W3]
        go_ret
        exact ⟨rfl, rfl⟩
      · replace T5 := T5 h9
        clear T4
        rw [h9] at T3 hl2
        obtain rfl : l = a + 1 := hl2
        clear hb h9 h0 hr hq ha hqn HL k1 k2 hn2 W4
        go_enter Try.func29, Try.ntmps29
        go_wp2
        go_ret
        exact ⟨by rw [← W5]; rfl, rfl⟩
    · rw [if_neg h2] at hl2
      have E2 : (f == 2) = false := by simpa using h2
      obtain rfl : l = a := hl2
      clear hb h0 hr hq ha hqn HL k1 k2 hn2 W4 W5 T3 h2 hb2 T4 T5
      go_enter Try.func29, Try.ntmps29
      go_wp2
      rw [W3]
      go_ret
      exact ⟨rfl, rfl⟩
  · rw [if_neg h0] at hc
    replace D4 := D5 h0
    clear D5
    rw [← hc] at W4
    by_cases h2 : f = 2
    · rw [if_pos h2] at hl2
      subst h2
      rcases hb2 with h9 | h9
      · replace T4 := T4 h9
        clear T5
        rw [h9] at T3 hl2
        obtain rfl : l = a := hl2
        clear hb h9 h0 hr hq ha hqn HL k1 k2 hn2 W5 hc
        go_enter Try.func29, Try.ntmps29
        go_wp2
        go_ret
        exact ⟨by rw [← W4]; rfl, rfl⟩
      · replace T5 := T5 h9
        clear T4
        rw [h9] at T3 hl2
        obtain rfl : l = a + 1 := hl2
        clear hb h9 h0 hr hq ha hqn HL k1 k2 hn2 hc
        go_enter Try.func29, Try.ntmps29
        go_wp2
        go_ret
        exact ⟨by rw [← W5]; rfl, rfl⟩
    · rw [if_neg h2] at hl2
      have E2 : (f == 2) = false := by simpa using h2
      obtain rfl : l = a := hl2
      clear hb h0 hr hq ha hqn HL k1 k2 hn2 W5 T3 h2 hb2 T4 T5 hc
      go_enter Try.func29, Try.ntmps29
      go_wp2
      go_ret
      exact ⟨by rw [← W4]; rfl, rfl⟩
end Go.Proofs.Ytldacjpkblffbab
