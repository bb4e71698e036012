import Derived.Test.YtldacjpkblffbabYha
namespace Go.Proofs.Ytldacjpkblffbab
open Go.RowKit Gf2
set_option linter.unusedVariables false

-- layer 16: contracts of the numbers (laid by wip/genyhb.py)
theorem pow_meas {p n : Nat} (h : p < n) (h1 : 1 ≤ p) : (2 * n - (2 * p : Nat)) < 2 * n - p := by omega

set_option maxHeartbeats 2000000 in
set_option maxRecDepth 100000 in
theorem pow16p_no (n : Int) (w : World) (h : n < 1 ∨ 65536 < n) :
    Calls Try.prog 31 #[.int .i64 n] w fun e w' => e = .returned (.tuple #[.int .i64 0, .int .i64 7]) ∧ w' = w := by
  by_cases h1 : n < 1
  · have D1 : decide (n < 1) = true := by simpa using h1
    clear h h1
    go_enter Try.func31, Try.ntmps31
    go_wp2
    go_ret2
    exact ⟨rfl, rfl⟩
  · have D1 : decide (n < 1) = false := by simpa using h1
    have D2 : decide (65536 < n) = true := by simp; omega
    clear h h1
    go_enter Try.func31, Try.ntmps31
    go_wp2
    go_ret2
    exact ⟨rfl, rfl⟩
set_option maxHeartbeats 2000000 in
set_option maxRecDepth 100000 in
theorem pow16p_yes (n : Nat) (w : World) (h1 : 1 ≤ n) (h2 : n ≤ 65536) :
    Calls Try.prog 31 #[.int .i64 (n : Int)] w fun e w' => e = .returned (.tuple #[.int .i64 (p2 n : Nat), .int .i64 0]) ∧ w' = w := by
  have D1 : decide ((n : Int) < 1) = false := by simp; omega
  have D2 : decide ((65536 : Int) < (n : Int)) = false := by simp; omega
  have HN : Hid (1 ≤ n ∧ n ≤ 65536) := ⟨h1, h2⟩
  obtain ⟨z, hz⟩ : ∃ z, z = p2 n := ⟨_, rfl⟩
  rw [← hz]
  have HZ : Hid (z = p2 n) := hz
  clear h1 h2 hz
  go_enter Try.func31, Try.ntmps31
  go_wp2
  go_loopw [4] (fun p wr => ∃ j q : Nat, q = 2 ^ j ∧ p = .int .i64 (q : Nat) ∧ q < 2 * n ∧ wr = w) (fun p _ => 2 * n - (intOf p).toNat)
  case atStart => exact ⟨0, 1, rfl, rfl, by have := HN.out; omega, rfl⟩
  case round =>
    obtain ⟨j, p, hp, rfl, hn, rfl⟩ := hrel
    have h0 : 1 ≤ p := by rw [hp]; exact Nat.one_le_two_pow
    by_cases hlt : p < n
    · have W1 : wrap64 ((p : Int) * 2) = ((2 * p : Nat) : Int) := by have := HN.out; unfold wrap64; omega
      have HX : Hid (p = 2 ^ j ∧ p < n ∧ 1 ≤ p) := ⟨hp, hlt, h0⟩
      clear hp hn h0
      go_wp2
      go_roundw
      case rel => exact ⟨j + 1, 2 * p, by rw [HX.out.1, Nat.pow_succ, Nat.mul_comm], by first | rfl | (rw [W1]), by have := HX.out.2.1; omega, by first | rfl | trivial⟩
      case measure => first | exact pow_meas HX.out.2.1 HX.out.2.2 | (rw [W1]; exact pow_meas HX.out.2.1 HX.out.2.2)
    · have e := p2_only HN.out.1 (by rw [← hp]; omega) (by rw [← hp]; exact hn)
      rw [← hp] at e
      have hz : z = p := HZ.out.trans e.symm
      subst hz
      clear hp hn h0 e
      go_wp2
      go_ret2
      exact ⟨rfl, rfl⟩
theorem pow16p (n : Int) (w : World) :
    Calls Try.prog 31 #[.int .i64 n] w fun e w' => e = .returned (.tuple #[.int .i64 (p2z n), .int .i64 (p2e n)]) ∧ w' = w := by
  unfold p2z p2e
  by_cases h : n < 1 ∨ 65536 < n
  · rw [if_pos h, if_pos h]; exact pow16p_no n w h
  · rw [if_neg h, if_neg h]
    obtain ⟨k, rfl⟩ := Int.eq_ofNat_of_zero_le (show 0 ≤ n by omega)
    exact pow16p_yes k w (by omega) (by omega)

set_option maxHeartbeats 2000000 in
set_option maxRecDepth 100000 in
theorem pow16r_no (n : Int) (w : World) (h : n < 1 ∨ 65536 < n) :
    Calls Try.prog 28 #[.int .i64 n] w fun e w' => e = .returned (.tuple #[.int .i64 0, .int .i64 7]) ∧ w' = w := by
  by_cases h1 : n < 1
  · have D1 : decide (n < 1) = true := by simpa using h1
    clear h h1
    go_enter Try.func28, Try.ntmps28
    go_wp2
    go_ret2
    exact ⟨rfl, rfl⟩
  · have D1 : decide (n < 1) = false := by simpa using h1
    have D2 : decide (65536 < n) = true := by simp; omega
    clear h h1
    go_enter Try.func28, Try.ntmps28
    go_wp2
    go_ret2
    exact ⟨rfl, rfl⟩
set_option maxHeartbeats 2000000 in
set_option maxRecDepth 100000 in
theorem pow16r_yes (n : Nat) (w : World) (h1 : 1 ≤ n) (h2 : n ≤ 65536) :
    Calls Try.prog 28 #[.int .i64 (n : Int)] w fun e w' => e = .returned (.tuple #[.int .i64 (p2 n : Nat), .int .i64 0]) ∧ w' = w := by
  have D1 : decide ((n : Int) < 1) = false := by simp; omega
  have D2 : decide ((65536 : Int) < (n : Int)) = false := by simp; omega
  have HN : Hid (1 ≤ n ∧ n ≤ 65536) := ⟨h1, h2⟩
  obtain ⟨z, hz⟩ : ∃ z, z = p2 n := ⟨_, rfl⟩
  rw [← hz]
  have HZ : Hid (z = p2 n) := hz
  clear h1 h2 hz
  go_enter Try.func28, Try.ntmps28
  go_wp2
  go_loopw [4] (fun p wr => ∃ j q : Nat, q = 2 ^ j ∧ p = .int .i64 (q : Nat) ∧ q < 2 * n ∧ wr = w) (fun p _ => 2 * n - (intOf p).toNat)
  case atStart => exact ⟨0, 1, rfl, rfl, by have := HN.out; omega, rfl⟩
  case round =>
    obtain ⟨j, p, hp, rfl, hn, rfl⟩ := hrel
    have h0 : 1 ≤ p := by rw [hp]; exact Nat.one_le_two_pow
    by_cases hlt : p < n
    · have W1 : wrap64 (2 * (p : Int)) = ((2 * p : Nat) : Int) := by have := HN.out; unfold wrap64; omega
      have HX : Hid (p = 2 ^ j ∧ p < n ∧ 1 ≤ p) := ⟨hp, hlt, h0⟩
      clear hp hn h0
      go_wp2
      go_roundw
      case rel => exact ⟨j + 1, 2 * p, by rw [HX.out.1, Nat.pow_succ, Nat.mul_comm], by first | rfl | (rw [W1]), by have := HX.out.2.1; omega, by first | rfl | trivial⟩
      case measure => first | exact pow_meas HX.out.2.1 HX.out.2.2 | (rw [W1]; exact pow_meas HX.out.2.1 HX.out.2.2)
    · have e := p2_only HN.out.1 (by rw [← hp]; omega) (by rw [← hp]; exact hn)
      rw [← hp] at e
      have hz : z = p := HZ.out.trans e.symm
      subst hz
      clear hp hn h0 e
      go_wp2
      go_ret2
      exact ⟨rfl, rfl⟩
theorem pow16r (n : Int) (w : World) :
    Calls Try.prog 28 #[.int .i64 n] w fun e w' => e = .returned (.tuple #[.int .i64 (p2z n), .int .i64 (p2e n)]) ∧ w' = w := by
  unfold p2z p2e
  by_cases h : n < 1 ∨ 65536 < n
  · rw [if_pos h, if_pos h]; exact pow16r_no n w h
  · rw [if_neg h, if_neg h]
    obtain ⟨k, rfl⟩ := Int.eq_ofNat_of_zero_le (show 0 ≤ n by omega)
    exact pow16r_yes k w (by omega) (by omega)

set_option maxHeartbeats 2000000 in
set_option maxRecDepth 100000 in
theorem room16 (d p q : Int) (w : World) (hd : d ≤ 9223372036854775807) (hq0 : 0 ≤ q) (hq : q ≤ 65536) :
    Calls Try.prog 30 #[.int .i64 d, .int .i64 p, .int .i64 q] w fun e w' => e = .returned (.int .i64 (rm16 d p q)) ∧ w' = w := by
  obtain ⟨z, hz⟩ : ∃ z, z = rm16 d p q := ⟨_, rfl⟩
  rw [← hz]
  have HZ : Hid (z = rm16 d p q) := hz
  clear hz
  have E : ∀ b : Bool, (decide (d < 1 ∨ p < 1 ∨ q - d < p) = b) → Hid (z = if b then 4 else 0) := fun b hb => by
    show z = _
    rw [HZ.out, ← hb]
    unfold rm16
    by_cases h : d < 1 ∨ p < 1 ∨ q - d < p
    · rw [if_pos h]; simp [h]
    · rw [if_neg h]; simp [h]
  by_cases h1 : d < 1
  · have D1 : decide (d < 1) = true := by simpa using h1
    have hz := (E true (by simp [h1])).out
    rw [if_pos rfl] at hz
    subst hz
    clear E HZ h1 hd hq hq0
    go_enter Try.func30, Try.ntmps30
    go_wp2
    go_ret
    exact ⟨rfl, rfl⟩
  · have D1 : decide (d < 1) = false := by simpa using h1
    by_cases h2 : p < 1
    · have D2 : decide (p < 1) = true := by simpa using h2
      have hz := (E true (by simp [h2])).out
      rw [if_pos rfl] at hz
      subst hz
      clear E HZ h1 h2 hd hq hq0
      go_enter Try.func30, Try.ntmps30
      go_wp2
      go_ret
      exact ⟨rfl, rfl⟩
    · have D2 : decide (p < 1) = false := by simpa using h2
      have W1 : wrap64 (q - d) = q - d := by unfold wrap64; omega
      by_cases h3 : q - d < p
      · have D3 : decide (q - d < p) = true := by simpa using h3
        have hz := (E true (by simp [h3])).out
        rw [if_pos rfl] at hz
        subst hz
        clear E HZ h1 h2 h3 hd hq hq0
        go_enter Try.func30, Try.ntmps30
        go_wp2
        go_ret
        exact ⟨rfl, rfl⟩
      · have D3 : decide (q - d < p) = false := by simpa using h3
        have hz := (E false (by simp; omega)).out
        simp at hz
        subst hz
        clear E HZ h1 h2 h3 hd hq hq0
        go_enter Try.func30, Try.ntmps30
        go_wp2
        go_ret
        exact ⟨rfl, rfl⟩
/-- an int's range. -/
def I64 (k : Int) : Prop := -9223372036854775808 ≤ k ∧ k ≤ 9223372036854775807
set_option maxHeartbeats 2000000 in
set_option maxRecDepth 100000 in
theorem params16 (f k m : Int) (w : World) (hk : I64 k) :
    Calls Try.prog 22 #[.int .i64 f, .int .i64 k, .int .i64 m] w fun e w' => e = .returned (.int .i64 (prm f k m)) ∧ w' = w := by
  have c1 := fun x => room16 k m 256 x hk.2 (by decide) (by decide)
  have c2 := fun x => pow16p m x
  have c3 := fun x => room16 k (p2z m) 65536 x hk.2 (by decide) (by decide)
  clear hk
  unfold prm
  by_cases h0 : f = 0
  · subst h0
    rw [if_pos (.inl rfl)]
    generalize rm16 k m 256 = z at c1
    clear c2 c3
    go_enter Try.func22, Try.ntmps22
    go_wp2_with (go_at_call 30; ((with_reducible refine (c1 _).mono ?_); rintro e w' ⟨rfl, rfl⟩))
    go_ret
    exact ⟨rfl, rfl⟩
  by_cases h1 : f = 1
  · subst h1
    rw [if_pos (.inr rfl)]
    generalize rm16 k m 256 = z at c1
    clear c2 c3 h0
    go_enter Try.func22, Try.ntmps22
    go_wp2_with (go_at_call 30; ((with_reducible refine (c1 _).mono ?_); rintro e w' ⟨rfl, rfl⟩))
    go_ret
    exact ⟨rfl, rfl⟩
  rw [if_neg (by omega)]
  by_cases h2 : f = 2
  · subst h2
    rw [if_pos rfl]
    generalize rm16 k (p2z m) 65536 = z at c3
    generalize p2z m = p at c2 c3
    generalize p2e m = pe at c2
    clear c1 h0 h1
    go_enter Try.func22, Try.ntmps22
    go_wp2_with (first | (go_at_call 31; ((with_reducible refine (c2 _).mono ?_); rintro e w' ⟨rfl, rfl⟩)) | (go_at_call 30; ((with_reducible refine (c3 _).mono ?_); rintro e w' ⟨rfl, rfl⟩)))
    go_ret
    exact ⟨rfl, rfl⟩
  · rw [if_neg h2]
    have D0 : (f == 0) = false := by simpa using h0
    have D1 : (f == 1) = false := by simpa using h1
    have D2 : (f == 2) = false := by simpa using h2
    clear c1 c2 c3
    go_enter Try.func22, Try.ntmps22
    go_wp2
    go_ret
    exact ⟨rfl, rfl⟩
end Go.Proofs.Ytldacjpkblffbab
