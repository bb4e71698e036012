import Derived.Test.YtldacjpkblffbabYhr
namespace Go.Proofs.Ytldacjpkblffbab
open Go.RowKit Gf2
set_option linter.unusedVariables false

-- layer 16: isEmpty, isFull, anyEmpty, longest, unlike
set_option maxHeartbeats 2000000 in
set_option maxRecDepth 100000 in
theorem isEmpty16 (x : Option Addr) (n y : Nat) (w : World) :
    Calls Try.prog 26 #[.slice x n y] w fun e w' => e = .returned (.bool (n == 0)) ∧ w' = w := by
  by_cases h : n = 0
  · subst h
    go_enter Try.func26, Try.ntmps26
    go_wp2
    go_ret
    exact ⟨rfl, rfl⟩
  · have e : (n == 0) = false := by simpa using h
    have e2 : (((n : Nat) : Int) == 0) = false := by simpa using h
    rw [e]
    go_enter Try.func26, Try.ntmps26
    go_wp2
    go_ret
    exact ⟨rfl, rfl⟩
set_option maxHeartbeats 2000000 in
set_option maxRecDepth 100000 in
theorem isFull16 (x : Option Addr) (n y : Nat) (w : World) :
    Calls Try.prog 27 #[.slice x n y] w fun e w' => e = .returned (.bool (n != 0)) ∧ w' = w := by
  by_cases h : n = 0
  · subst h
    go_enter Try.func27, Try.ntmps27
    go_wp2
    go_ret
    exact ⟨rfl, rfl⟩
  · have e : (n != 0) = true := by simpa using h
    have e2 : (((n : Nat) : Int) != 0) = true := by simpa using h
    rw [e]
    go_enter Try.func27, Try.ntmps27
    go_wp2
    go_ret
    exact ⟨rfl, rfl⟩
/-- is one of the first k empty? -/
def aeb (n : Nat → Nat) : Nat → Bool
  | 0 => false
  | k + 1 => aeb n k || n k == 0
theorem aeb_iff {n : Nat → Nat} {k : Nat} : aeb n k = true ↔ ∃ i, i < k ∧ n i = 0 := by
  induction k with
  | zero => exact ⟨fun h => (by cases h), fun ⟨i, h, _⟩ => absurd h (Nat.not_lt_zero _)⟩
  | succ k ih =>
    rw [aeb, Bool.or_eq_true, ih]
    constructor
    · rintro (⟨i, h1, h2⟩ | h)
      · exact ⟨i, by omega, h2⟩
      · exact ⟨k, Nat.lt_succ_self _, by simpa using h⟩
    · rintro ⟨i, h1, h2⟩
      by_cases e : i = k
      · right; rw [← e]; simpa using h2
      · left; exact ⟨i, by omega, h2⟩
theorem aeb_no {n : Nat → Nat} {k : Nat} : aeb n k = false ↔ ∀ i, i < k → n i ≠ 0 := by
  constructor
  · intro h i hi e
    have := aeb_iff.2 ⟨i, hi, e⟩
    rw [h] at this; cases this
  · intro h
    cases e : aeb n k
    · rfl
    · obtain ⟨i, h1, h2⟩ := aeb_iff.1 e
      exact absurd h2 (h i h1)
set_option maxHeartbeats 2000000 in
set_option maxRecDepth 100000 in
theorem anyEmpty16 (v : Value) (c : Nat) (n : Nat → Nat) (w : World) (h : Ln w v c n) :
    Calls Try.prog 23 #[v] w fun e w' => e = .returned (.bool (aeb n c)) ∧ w' = w := by
  obtain ⟨z, hz⟩ : ∃ z, z = aeb n c := ⟨_, rfl⟩
  rw [← hz]
  have HZ : Hid (z = aeb n c) := hz
  clear hz
  obtain ⟨h1, h2, a, cap, rfl, h4, h5, h6⟩ := h
  have HN : Hid (c ≤ 281474976710656) := h1
  clear h1 h2 h4 h5
  go_enter Try.func23, Try.ntmps23
  go_wp2
  go_loopw [7] (fun i wr => ∃ k : Nat, k ≤ c ∧ i = .int .i64 k ∧ wr = w ∧ ∀ i, i < k → n i ≠ 0) (fun i _ => c - (intOf i).toNat)
  case atStart => exact ⟨0, Nat.zero_le _, rfl, rfl, fun i hi => absurd hi (Nat.not_lt_zero _)⟩
  case round =>
    obtain ⟨k, hk, rfl, rfl, hE⟩ := hrel
    by_cases hlt : k < c
    · obtain ⟨b, o, rfl, -, hc⟩ := h6 (by omega)
      obtain ⟨x, y, q1⟩ := hc k hlt
      have ib : ((k : Nat) : Int) < (c : Int) := by omega
      have W1 := wrap_succ8 (j := k) (by have := HN.out; unfold big; omega)
      have HE : Hid (∀ i, i < k → n i ≠ 0) := hE
      have c1 := fun w => isEmpty16 x (n k) y w
      by_cases hn : n k = 0
      · have Hn : Hid (n k = 0) := hn
        have e1 : (n k == 0) = true := by simpa using hn
        rw [e1] at c1
        have hz : z = true := HZ.out.trans (aeb_iff.2 ⟨k, hlt, hn⟩)
        subst hz
        generalize n k = nk at q1 c1
        clear hc h6 hE hn e1
        go_wp2_with (go_at_call 26; ((with_reducible refine (c1 _).mono ?_); (rintro e w9 ⟨rfl, hw9⟩; have hw9 := hw9.symm; subst hw9)))
        go_ret
        exact ⟨rfl, rfl⟩
      · have Hn : Hid (n k ≠ 0) := hn
        have e1 : (n k == 0) = false := by simpa using hn
        rw [e1] at c1
        generalize n k = nk at q1 c1
        clear hc h6 hE hn e1
        go_wp2_with (go_at_call 26; ((with_reducible refine (c1 _).mono ?_); (rintro e w9 ⟨rfl, hw9⟩; have hw9 := hw9.symm; subst hw9)))
        go_roundw
        case rel =>
          refine ⟨k + 1, hlt, by first | rfl | (rw [W1]; rfl), by trivial, fun i hi => ?_⟩
          by_cases e : i = k
          · rw [e]; exact Hn.out
          · exact HE.out i (by omega)
        case measure => first | exact meas_lt8 hlt | (rw [W1]; exact meas_lt8 hlt)
    · have htl : ¬ ((k : Nat) : Int) < (c : Int) := fun e => hlt (Int.ofNat_lt.1 e)
      obtain rfl : k = c := by omega
      have hz : z = false := HZ.out.trans (aeb_no.2 hE)
      subst hz
      clear h6 hE
      go_wp2
      go_ret
      exact ⟨rfl, rfl⟩
/-- unlike's length so far. -/
def ulz (l : Nat) : Int := if l = 0 then -1 else (l : Int)
end Go.Proofs.Ytldacjpkblffbab
