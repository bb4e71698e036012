import Derived.Test.YtldacjpkblffbabYhc
namespace Go.Proofs.Ytldacjpkblffbab
open Go.RowKit Gf2
set_option linter.unusedVariables false

-- layer 16: Length
/-- Length's error. -/
def lne (f k m n : Int) : Int := if prm f k m = 0 then (if n < 1 then 163 else if 1099511627776 < n then 5 else 0) else prm f k m
/-- Length's answer. -/
def lnv (f k m n : Int) : Int := if lne f k m n = 0 then (ln16 f k.toNat n.toNat : Int) else 0
theorem ln16_facts (k n : Nat) (k1 : 1 ≤ k) (k2 : k ≤ 65536) (hn2 : n ≤ 1099511627776) : ∃ x q r : Nat, Hid (x = n + k - 1 ∧ q = (n + k - 1) / k ∧ r = (n + k - 1) / k % 2) ∧ wrap64 ((n : Int) + (k : Int)) = (n : Int) + (k : Int) ∧ (1 ≤ n → wrap64 ((n : Int) + (k : Int) - 1) = (x : Int)) ∧
    (x : Int).tdiv (k : Int) = (q : Int) ∧ wrap64 (q : Int) = (q : Int) ∧ (q : Int).tmod 2 = (r : Int) ∧ wrap64 ((q : Int) + (r : Int)) = ((q + r : Nat) : Int) := by
  have h : (n + k - 1) / k ≤ n + k - 1 := Nat.div_le_self _ _
  refine ⟨n + k - 1, (n + k - 1) / k, (n + k - 1) / k % 2, ⟨rfl, rfl, rfl⟩, ?_, fun _ => ?_, ?_, ?_, ?_, ?_⟩
  · unfold wrap64; omega
  · unfold wrap64; omega
  · exact (Int.ofNat_tdiv _ _).symm
  · generalize (n + k - 1) / k = q at h; unfold wrap64; omega
  · exact (Int.ofNat_tmod _ _).symm
  · generalize (n + k - 1) / k = q at h; unfold wrap64; omega
set_option maxHeartbeats 2000000 in
set_option maxRecDepth 100000 in
theorem length16_yes (f m : Int) (k n : Nat) (w : World) (hk : I64 k) (hp : prm f k m = 0) (hn : 1 ≤ n) (hn2 : n ≤ 1099511627776) :
    Calls Try.prog 8 #[.int .i64 f, .int .i64 (k : Int), .int .i64 m, .int .i64 (n : Int)] w fun e w' => e = .returned (.tuple #[.int .i64 (ln16 f k n : Nat), .int .i64 0]) ∧ w' = w := by
  have c1 := fun x => params16 f k m x hk
  rw [hp] at c1
  have hv := prm_ok.1 hp
  have k1 := hv.hk
  have k2 := hv.sum
  have k3 := hv.hm
  have D1 : decide ((n : Int) < 1) = false := by simp; omega
  have D2 : decide ((1099511627776 : Int) < (n : Int)) = false := by simp; omega
  have D3 : ¬ k = 0 := by omega
  obtain ⟨x, q, r, HX, W1, W2, T1, W3, T2, W4⟩ := ln16_facts k n (by omega) (by omega) hn2
  have W2 := W2 hn
  obtain ⟨l, hl⟩ : ∃ l, l = ln16 f k n := ⟨_, rfl⟩
  rw [← hl]
  have HL : Hid (l = ln16 f k n) := hl
  clear hl
  unfold ln16 at HL
  by_cases h2 : f = 2
  · subst h2
    clear hp hv hk hn hn2 k1 k2 k3
    have hl : l = q + r := by have := HL.out; rw [if_pos rfl] at this; rw [this, HX.out.2.1, HX.out.2.2]
    subst hl
    go_enter Try.func8, Try.ntmps8
    go_wp2_with (go_at_call 22; ((with_reducible refine (c1 _).mono ?_); rintro e w' ⟨rfl, rfl⟩))
    rw [W4]
    go_ret2
    exact ⟨rfl, rfl⟩
  · have E2 : (f == 2) = false := by simpa using h2
    clear hp hv hk hn hn2 k1 k2 k3
    have hl : l = q := by have := HL.out; rw [if_neg h2] at this; rw [this, HX.out.2.1]
    subst hl
    clear W4 T2
    go_enter Try.func8, Try.ntmps8
    go_wp2_with (go_at_call 22; ((with_reducible refine (c1 _).mono ?_); rintro e w' ⟨rfl, rfl⟩))
    rw [W3]
    go_ret2
    exact ⟨rfl, rfl⟩
set_option maxHeartbeats 2000000 in
set_option maxRecDepth 100000 in
theorem length16_no (f k m n : Int) (w : World) (hk : I64 k) (z : Int) (h0 : lne f k m n = z) (h : z ≠ 0) :
    Calls Try.prog 8 #[.int .i64 f, .int .i64 k, .int .i64 m, .int .i64 n] w fun e w' => e = .returned (.tuple #[.int .i64 0, .int .i64 z]) ∧ w' = w := by
  have c1 := fun x => params16 f k m x hk
  unfold lne at h0
  clear hk
  by_cases hp : prm f k m = 0
  · rw [hp] at c1
    rw [if_pos hp] at h0
    clear hp
    by_cases h1 : n < 1
    · rw [if_pos h1] at h0
      have D1 : decide (n < 1) = true := by simpa using h1
      subst h0
      clear h1 h
      go_enter Try.func8, Try.ntmps8
      go_wp2_with (go_at_call 22; ((with_reducible refine (c1 _).mono ?_); rintro e w' ⟨rfl, rfl⟩))
      go_ret2
      exact ⟨rfl, rfl⟩
    · rw [if_neg h1] at h0
      have D1 : decide (n < 1) = false := by simpa using h1
      by_cases h2 : 1099511627776 < n
      · rw [if_pos h2] at h0
        have D2 : decide (1099511627776 < n) = true := by simpa using h2
        subst h0
        clear h1 h2 h
        go_enter Try.func8, Try.ntmps8
        go_wp2_with (go_at_call 22; ((with_reducible refine (c1 _).mono ?_); rintro e w' ⟨rfl, rfl⟩))
        go_ret2
        exact ⟨rfl, rfl⟩
      · rw [if_neg h2] at h0
        exact absurd h0.symm h
  · rw [if_neg hp] at h0
    rw [h0] at c1
    clear hp h0
    have D1 : (z != 0) = true := by simpa using h
    have D2 : (z == 0) = false := by simpa using h
    clear h
    go_enter Try.func8, Try.ntmps8
    go_wp2_with (go_at_call 22; ((with_reducible refine (c1 _).mono ?_); rintro e w' ⟨rfl, rfl⟩))
    go_ret2
    exact ⟨rfl, rfl⟩
theorem lne_ok {f k m n : Int} (h : lne f k m n = 0) : prm f k m = 0 ∧ 1 ≤ n ∧ n ≤ 1099511627776 := by
  unfold lne at h
  by_cases hp : prm f k m = 0
  · rw [if_pos hp] at h
    by_cases h1 : n < 1
    · rw [if_pos h1] at h; cases h
    · rw [if_neg h1] at h
      by_cases h2 : 1099511627776 < n
      · rw [if_pos h2] at h; cases h
      · exact ⟨hp, by omega, by omega⟩
  · rw [if_neg hp] at h; exact absurd h hp
theorem length16 (f k m n : Int) (w : World) (hk : I64 k) :
    Calls Try.prog 8 #[.int .i64 f, .int .i64 k, .int .i64 m, .int .i64 n] w fun e w' => e = .returned (.tuple #[.int .i64 (lnv f k m n), .int .i64 (lne f k m n)]) ∧ w' = w := by
  unfold lnv
  by_cases h : lne f k m n = 0
  · rw [if_pos h, h]
    obtain ⟨h1, h2, h3⟩ := lne_ok h
    have hv := prm_ok.1 h1
    obtain ⟨a, rfl⟩ := Int.eq_ofNat_of_zero_le (show 0 ≤ k by have := hv.hk; omega)
    obtain ⟨b, rfl⟩ := Int.eq_ofNat_of_zero_le (show 0 ≤ n by omega)
    exact length16_yes f m a b w hk h1 (by omega) (by omega)
  · rw [if_neg h]
    exact length16_no f k m n w hk _ rfl h
end Go.Proofs.Ytldacjpkblffbab
