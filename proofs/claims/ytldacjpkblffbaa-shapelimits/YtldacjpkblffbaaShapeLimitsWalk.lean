import Derived.Test.YtldacjpkblffbaaYhk
namespace Go.Proofs.Ytldacjpkblffbaa
open Go.RowKit Gf2
set_option linter.unusedVariables false

theorem pow_and {m : Nat} (h : 1 ≤ m) (h0 : m &&& (m - 1) = 0) : p2 m = m := by
  obtain ⟨j, hj⟩ : ∃ j, j = Nat.log2 m := ⟨_, rfl⟩
  have h1 : 2 ^ j ≤ m := by rw [hj]; exact Nat.log2_self_le (by omega)
  have h2 : m < 2 ^ (j + 1) := by rw [hj]; exact Nat.lt_log2_self
  by_cases e : m = 2 ^ j
  · have := p2_only (n := m) (j := j) h (by omega) (by omega)
    omega
  · exfalso
    have t1 : m.testBit j = true := Nat.testBit_of_two_pow_le_and_two_pow_add_one_gt h1 h2
    have t2 : (m - 1).testBit j = true := Nat.testBit_of_two_pow_le_and_two_pow_add_one_gt (by omega) (by omega)
    have : (m &&& (m - 1)).testBit j = true := by rw [Nat.testBit_and, t1, t2]; rfl
    rw [h0, Nat.zero_testBit] at this
    cases this
/-- valid parameters with fewer shards. -/
theorem Pv.fewer {f k m k' m' : Int} (h : Pv f k m) (h1 : 1 ≤ k') (h2 : k' ≤ k) (h3 : 1 ≤ m') (h4 : m' ≤ m) : Pv f k' m' := by
  have := h.sum
  refine ⟨h.fam, h1, h3, by omega, fun e => by have := h.small e; omega, fun e => ?_⟩
  have := h.long e
  have := p2_mono (a := m'.toNat) (b := m.toNat) (by omega) (by omega)
  omega
set_option maxHeartbeats 4000000 in
set_option maxRecDepth 100000 in
theorem limits16_fam (f k m : Int) (w : World) (hk : I64 k) (h : ¬ (f = 0 ∨ f = 1 ∨ f = 2)) :
    Calls Try.prog 7 #[.int .i64 f, .int .i64 k, .int .i64 m] w fun e w' => e = .returned (.bool true) ∧ Below w.heap.size w w' := by
  have c0 := awake16 w
  have c1 := fun x => params16 f k m x hk
  rw [prm_fam h] at c1
  clear hk
  by_cases h1 : f < 0
  · have D1 : decide (f < 0) = true := by simpa using h1
    clear h h1
    go_enter Try.func7, Try.ntmps7
    go_wp2_with (first | (go_at_call 10; ((with_reducible refine (c0).mono ?_); (rintro e w1 ⟨rfl, hb⟩; have HB : Hid (Below w.heap.size w w1) := hb; clear hb))) | (go_at_call 12; ((with_reducible refine (c1 _).mono ?_); (rintro e w9 ⟨rfl, hw9⟩; have hw9 := hw9.symm; subst hw9))))
    go_ret
    exact ⟨rfl, HB.out⟩
  · have D1 : decide (f < 0) = false := by simpa using h1
    have D2 : decide (2 < f) = true := by simp; omega
    clear h h1
    go_enter Try.func7, Try.ntmps7
    go_wp2_with (first | (go_at_call 10; ((with_reducible refine (c0).mono ?_); (rintro e w1 ⟨rfl, hb⟩; have HB : Hid (Below w.heap.size w w1) := hb; clear hb))) | (go_at_call 12; ((with_reducible refine (c1 _).mono ?_); (rintro e w9 ⟨rfl, hw9⟩; have hw9 := hw9.symm; subst hw9))))
    go_ret
    exact ⟨rfl, HB.out⟩
set_option maxHeartbeats 4000000 in
set_option maxRecDepth 100000 in
theorem limits16_few (f k m : Int) (w : World) (hk : I64 k) (h : f = 0 ∨ f = 1 ∨ f = 2) (hn : k < 1 ∨ m < 1) :
    Calls Try.prog 7 #[.int .i64 f, .int .i64 k, .int .i64 m] w fun e w' => e = .returned (.bool true) ∧ Below w.heap.size w w' := by
  have c0 := awake16 w
  have c1 := fun x => params16 f k m x hk
  rw [prm_four h (fun hv => by have := hv.hk; have := hv.hm; omega)] at c1
  clear hk
  have D1 : decide (f < 0) = false := by simp; omega
  have D2 : decide (2 < f) = false := by simp; omega
  clear h
  by_cases h1 : k < 1
  · have D3 : decide (k < 1) = true := by simpa using h1
    clear hn h1
    go_enter Try.func7, Try.ntmps7
    go_wp2_with (first | (go_at_call 10; ((with_reducible refine (c0).mono ?_); (rintro e w1 ⟨rfl, hb⟩; have HB : Hid (Below w.heap.size w w1) := hb; clear hb))) | (go_at_call 12; ((with_reducible refine (c1 _).mono ?_); (rintro e w9 ⟨rfl, hw9⟩; have hw9 := hw9.symm; subst hw9))))
    go_ret
    exact ⟨rfl, HB.out⟩
  · have D3 : decide (k < 1) = false := by simpa using h1
    have D4 : decide (m < 1) = true := by simp; omega
    clear hn h1
    go_enter Try.func7, Try.ntmps7
    go_wp2_with (first | (go_at_call 10; ((with_reducible refine (c0).mono ?_); (rintro e w1 ⟨rfl, hb⟩; have HB : Hid (Below w.heap.size w w1) := hb; clear hb))) | (go_at_call 12; ((with_reducible refine (c1 _).mono ?_); (rintro e w9 ⟨rfl, hw9⟩; have hw9 := hw9.symm; subst hw9))))
    go_ret
    exact ⟨rfl, HB.out⟩
set_option maxHeartbeats 4000000 in
set_option maxRecDepth 100000 in
theorem limits16_ok (f k m : Int) (w : World) (hk : I64 k) (h : Pv f k m) :
    Calls Try.prog 7 #[.int .i64 f, .int .i64 k, .int .i64 m] w fun e w' => e = .returned (.bool true) ∧ Below w.heap.size w w' := by
  have c0 := awake16 w
  have c1 := fun x => params16 f k m x hk
  rw [prm_ok.2 h] at c1
  have hf := h.fam
  have h1 := h.hk
  have h2 := h.hm
  have h3 := h.sum
  have D1 : decide (f < 0) = false := by simp; omega
  have D2 : decide (2 < f) = false := by simp; omega
  have D3 : decide (k < 1) = false := by simp; omega
  have D4 : decide (m < 1) = false := by simp; omega
  have c2 : 1 < k → ∀ x, Calls Try.prog 12 #[.int .i64 f, .int .i64 (k - 1), .int .i64 m] x fun e w' => e = .returned (.int .i64 0) ∧ w' = x := fun hk1 x => by
    have := params16 f (k - 1) m x ⟨by omega, by omega⟩
    rw [prm_ok.2 (h.fewer (by omega) (by omega) (by omega) (by omega))] at this
    exact this
  have c3 : 1 < m → ∀ x, Calls Try.prog 12 #[.int .i64 f, .int .i64 k, .int .i64 (m - 1)] x fun e w' => e = .returned (.int .i64 0) ∧ w' = x := fun hm1 x => by
    have := params16 f k (m - 1) x hk
    rw [prm_ok.2 (h.fewer (by omega) (by omega) (by omega) (by omega))] at this
    exact this
  have D5 : decide (k + m ≤ 65536) = true := by simp; omega
  have hsm : ¬ (k + m ≤ 256) → f = 2 := fun e => by
    by_cases e2 : f = 2
    · exact e2
    · exact absurd (h.small e2) e
  have Ws : wrap64 (k + m) = k + m ∧ wrap64 (k - 1) = k - 1 ∧ wrap64 (m - 1) = m - 1 := by
    refine ⟨?_, ?_, ?_⟩ <;> (unfold wrap64; omega)
  obtain ⟨Wa, Wb, Wc⟩ := Ws
  clear h h1 h2 h3 hk hf
  by_cases hk1 : 1 < k
  · have D7 : decide (1 < k) = true := by simpa using hk1
    have d2 := c2 hk1
    clear c2 hk1
    by_cases hm1 : 1 < m
    · have D8 : decide (1 < m) = true := by simpa using hm1
      have d3 := c3 hm1
      clear c3 hm1
      by_cases hs : k + m ≤ 256
      · have D6 : decide (k + m ≤ 256) = true := by simpa using hs
        clear hs hsm
        go_enter Try.func7, Try.ntmps7
        go_wp2_with (first
          | (go_at_call 10; (with_reducible refine c0.mono ?_); rintro e w1 ⟨rfl, hb⟩; have HB : Hid (Below w.heap.size w w1) := hb; clear hb)
          | (go_at_call 12; first | ((with_reducible refine (c1 _).mono ?_); rintro e w9 ⟨rfl, hw9⟩; have hw9 := hw9.symm; subst hw9) | ((with_reducible refine (d2 _).mono ?_); rintro e w9 ⟨rfl, hw9⟩; have hw9 := hw9.symm; subst hw9) | ((with_reducible refine (d3 _).mono ?_); rintro e w9 ⟨rfl, hw9⟩; have hw9 := hw9.symm; subst hw9)))
        go_ret
        exact ⟨rfl, HB.out⟩
      · have D6 : decide (k + m ≤ 256) = false := by simpa using hs
        obtain rfl := hsm hs
        clear hs hsm
        go_enter Try.func7, Try.ntmps7
        go_wp2_with (first
          | (go_at_call 10; (with_reducible refine c0.mono ?_); rintro e w1 ⟨rfl, hb⟩; have HB : Hid (Below w.heap.size w w1) := hb; clear hb)
          | (go_at_call 12; first | ((with_reducible refine (c1 _).mono ?_); rintro e w9 ⟨rfl, hw9⟩; have hw9 := hw9.symm; subst hw9) | ((with_reducible refine (d2 _).mono ?_); rintro e w9 ⟨rfl, hw9⟩; have hw9 := hw9.symm; subst hw9) | ((with_reducible refine (d3 _).mono ?_); rintro e w9 ⟨rfl, hw9⟩; have hw9 := hw9.symm; subst hw9)))
        go_ret
        exact ⟨rfl, HB.out⟩
    · have D8 : decide (1 < m) = false := by simpa using hm1
      clear c3 hm1
      by_cases hs : k + m ≤ 256
      · have D6 : decide (k + m ≤ 256) = true := by simpa using hs
        clear hs hsm
        go_enter Try.func7, Try.ntmps7
        go_wp2_with (first
          | (go_at_call 10; (with_reducible refine c0.mono ?_); rintro e w1 ⟨rfl, hb⟩; have HB : Hid (Below w.heap.size w w1) := hb; clear hb)
          | (go_at_call 12; first | ((with_reducible refine (c1 _).mono ?_); rintro e w9 ⟨rfl, hw9⟩; have hw9 := hw9.symm; subst hw9) | ((with_reducible refine (d2 _).mono ?_); rintro e w9 ⟨rfl, hw9⟩; have hw9 := hw9.symm; subst hw9)))
        go_ret
        exact ⟨rfl, HB.out⟩
      · have D6 : decide (k + m ≤ 256) = false := by simpa using hs
        obtain rfl := hsm hs
        clear hs hsm
        go_enter Try.func7, Try.ntmps7
        go_wp2_with (first
          | (go_at_call 10; (with_reducible refine c0.mono ?_); rintro e w1 ⟨rfl, hb⟩; have HB : Hid (Below w.heap.size w w1) := hb; clear hb)
          | (go_at_call 12; first | ((with_reducible refine (c1 _).mono ?_); rintro e w9 ⟨rfl, hw9⟩; have hw9 := hw9.symm; subst hw9) | ((with_reducible refine (d2 _).mono ?_); rintro e w9 ⟨rfl, hw9⟩; have hw9 := hw9.symm; subst hw9)))
        go_ret
        exact ⟨rfl, HB.out⟩
  · have D7 : decide (1 < k) = false := by simpa using hk1
    clear c2 hk1
    by_cases hm1 : 1 < m
    · have D8 : decide (1 < m) = true := by simpa using hm1
      have d3 := c3 hm1
      clear c3 hm1
      by_cases hs : k + m ≤ 256
      · have D6 : decide (k + m ≤ 256) = true := by simpa using hs
        clear hs hsm
        go_enter Try.func7, Try.ntmps7
        go_wp2_with (first
          | (go_at_call 10; (with_reducible refine c0.mono ?_); rintro e w1 ⟨rfl, hb⟩; have HB : Hid (Below w.heap.size w w1) := hb; clear hb)
          | (go_at_call 12; first | ((with_reducible refine (c1 _).mono ?_); rintro e w9 ⟨rfl, hw9⟩; have hw9 := hw9.symm; subst hw9) | ((with_reducible refine (d3 _).mono ?_); rintro e w9 ⟨rfl, hw9⟩; have hw9 := hw9.symm; subst hw9)))
        go_ret
        exact ⟨rfl, HB.out⟩
      · have D6 : decide (k + m ≤ 256) = false := by simpa using hs
        obtain rfl := hsm hs
        clear hs hsm
        go_enter Try.func7, Try.ntmps7
        go_wp2_with (first
          | (go_at_call 10; (with_reducible refine c0.mono ?_); rintro e w1 ⟨rfl, hb⟩; have HB : Hid (Below w.heap.size w w1) := hb; clear hb)
          | (go_at_call 12; first | ((with_reducible refine (c1 _).mono ?_); rintro e w9 ⟨rfl, hw9⟩; have hw9 := hw9.symm; subst hw9) | ((with_reducible refine (d3 _).mono ?_); rintro e w9 ⟨rfl, hw9⟩; have hw9 := hw9.symm; subst hw9)))
        go_ret
        exact ⟨rfl, HB.out⟩
    · have D8 : decide (1 < m) = false := by simpa using hm1
      clear c3 hm1
      by_cases hs : k + m ≤ 256
      · have D6 : decide (k + m ≤ 256) = true := by simpa using hs
        clear hs hsm
        go_enter Try.func7, Try.ntmps7
        go_wp2_with (first
          | (go_at_call 10; (with_reducible refine c0.mono ?_); rintro e w1 ⟨rfl, hb⟩; have HB : Hid (Below w.heap.size w w1) := hb; clear hb)
          | (go_at_call 12; first | ((with_reducible refine (c1 _).mono ?_); rintro e w9 ⟨rfl, hw9⟩; have hw9 := hw9.symm; subst hw9)))
        go_ret
        exact ⟨rfl, HB.out⟩
      · have D6 : decide (k + m ≤ 256) = false := by simpa using hs
        obtain rfl := hsm hs
        clear hs hsm
        go_enter Try.func7, Try.ntmps7
        go_wp2_with (first
          | (go_at_call 10; (with_reducible refine c0.mono ?_); rintro e w1 ⟨rfl, hb⟩; have HB : Hid (Below w.heap.size w w1) := hb; clear hb)
          | (go_at_call 12; first | ((with_reducible refine (c1 _).mono ?_); rintro e w9 ⟨rfl, hw9⟩; have hw9 := hw9.symm; subst hw9)))
        go_ret
        exact ⟨rfl, HB.out⟩
set_option maxHeartbeats 4000000 in
set_option maxRecDepth 100000 in
theorem limits16_big (f k m : Int) (w : World) (hk : I64 k) (hf : f = 0 ∨ f = 1 ∨ f = 2) (h1 : 1 ≤ k) (h2 : 1 ≤ m) (h : ¬ Pv f k m) (hb : 1048576 < k ∨ 1048576 < m) :
    Calls Try.prog 7 #[.int .i64 f, .int .i64 k, .int .i64 m] w fun e w' => e = .returned (.bool true) ∧ Below w.heap.size w w' := by
  have c0 := awake16 w
  have c1 := fun x => params16 f k m x hk
  rw [prm_four hf h] at c1
  have D1 : decide (f < 0) = false := by simp; omega
  have D2 : decide (2 < f) = false := by simp; omega
  have D3 : decide (k < 1) = false := by simp; omega
  have D4 : decide (m < 1) = false := by simp; omega
  by_cases h5 : 1048576 < k
  · have D5 : decide (1048576 < k) = true := by simpa using h5
    clear hf h1 h2 h hb h5 hk
    go_enter Try.func7, Try.ntmps7
    go_wp2_with (first | (go_at_call 10; ((with_reducible refine (c0).mono ?_); (rintro e w1 ⟨rfl, hb⟩; have HB : Hid (Below w.heap.size w w1) := hb; clear hb))) | (go_at_call 12; ((with_reducible refine (c1 _).mono ?_); (rintro e w9 ⟨rfl, hw9⟩; have hw9 := hw9.symm; subst hw9))))
    go_ret
    exact ⟨rfl, HB.out⟩
  · have D5 : decide (1048576 < k) = false := by simpa using h5
    have D6 : decide (1048576 < m) = true := by simp; omega
    clear hf h1 h2 h hb h5 hk
    go_enter Try.func7, Try.ntmps7
    go_wp2_with (first | (go_at_call 10; ((with_reducible refine (c0).mono ?_); (rintro e w1 ⟨rfl, hb⟩; have HB : Hid (Below w.heap.size w w1) := hb; clear hb))) | (go_at_call 12; ((with_reducible refine (c1 _).mono ?_); (rintro e w9 ⟨rfl, hw9⟩; have hw9 := hw9.symm; subst hw9))))
    go_ret
    exact ⟨rfl, HB.out⟩
set_option maxHeartbeats 4000000 in
set_option maxRecDepth 100000 in
theorem limits16_small (f k m : Int) (w : World) (hk : I64 k) (hf : f = 0 ∨ f = 1) (h1 : 1 ≤ k) (h2 : 1 ≤ m) (h : ¬ Pv f k m) (hb : ¬ (1048576 < k ∨ 1048576 < m)) :
    Calls Try.prog 7 #[.int .i64 f, .int .i64 k, .int .i64 m] w fun e w' => e = .returned (.bool true) ∧ Below w.heap.size w w' := by
  have c0 := awake16 w
  have c1 := fun x => params16 f k m x hk
  rw [prm_four (by omega) h] at c1
  have hs : 256 < k + m := by
    rcases Int.lt_or_le 256 (k + m) with h9 | h9
    · exact h9
    · exact absurd ⟨by omega, h1, h2, by omega, fun _ => by omega, fun e => by omega⟩ h
  have D1 : decide (f < 0) = false := by simp; omega
  have D2 : decide (2 < f) = false := by simp; omega
  have D3 : decide (k < 1) = false := by simp; omega
  have D4 : decide (m < 1) = false := by simp; omega
  have D5 : decide (1048576 < k) = false := by simp; omega
  have D6 : decide (1048576 < m) = false := by simp; omega
  have D7 : decide (256 < k + m) = true := by simpa using hs
  have E1 : (f != 2) = true := by simp; omega
  have E2 : (f == 2) = false := by simp; omega
  have Wa : wrap64 (k + m) = k + m := by unfold wrap64; omega
  clear hf h1 h2 h hb hk hs
  go_enter Try.func7, Try.ntmps7
  go_wp2_with (first | (go_at_call 10; ((with_reducible refine (c0).mono ?_); (rintro e w1 ⟨rfl, hb⟩; have HB : Hid (Below w.heap.size w w1) := hb; clear hb))) | (go_at_call 12; ((with_reducible refine (c1 _).mono ?_); (rintro e w9 ⟨rfl, hw9⟩; have hw9 := hw9.symm; subst hw9))))
  go_ret
  exact ⟨rfl, HB.out⟩
set_option maxHeartbeats 4000000 in
set_option maxRecDepth 100000 in
theorem limits16_long (k m : Nat) (w : World) (hk : I64 k) (h1 : 1 ≤ k) (h2 : 1 ≤ m) (h : ¬ Pv 2 k m) (h3 : k ≤ 1048576) (h4 : m ≤ 1048576) :
    Calls Try.prog 7 #[.int .i64 2, .int .i64 (k : Int), .int .i64 (m : Int)] w fun e w' => e = .returned (.bool true) ∧ Below w.heap.size w w' := by
  have c0 := awake16 w
  have c1 := fun x => params16 2 k m x hk
  rw [prm_four (by omega) h] at c1
  have D3 : decide ((k : Int) < 1) = false := by simp; omega
  have D4 : decide ((m : Int) < 1) = false := by simp; omega
  have D5 : decide ((1048576 : Int) < (k : Int)) = false := by simp; omega
  have D6 : decide ((1048576 : Int) < (m : Int)) = false := by simp; omega
  have hp1 := p2_hi h2
  have hs : k + p2 m > 65536 ∨ 65536 < m := by
    rcases Nat.lt_or_ge 65536 (k + p2 m) with h9 | h9
    · exact .inl h9
    · rcases Nat.lt_or_ge 65536 m with h8 | h8
      · exact .inr h8
      · have := p2_lo h2
        exact absurd ⟨.inr (.inr rfl), by omega, by omega, by omega, fun e => absurd rfl e, fun e => by rw [Int.toNat_natCast]; omega⟩ h
  by_cases h5 : 65536 < k + m
  · have D7 : decide ((65536 : Int) < ((k + m : Nat) : Int)) = true := by simp; omega
    have Wa : wrap64 ((k : Int) + (m : Int)) = ((k + m : Nat) : Int) := by unfold wrap64; omega
    obtain ⟨s, hs⟩ : ∃ s, s = k + m := ⟨_, rfl⟩
    rw [← hs] at D7 Wa
    clear h1 h2 h hk h3 h4 h5 hp1 hs
    go_enter Try.func7, Try.ntmps7
    go_wp2_with (first | (go_at_call 10; ((with_reducible refine (c0).mono ?_); (rintro e w1 ⟨rfl, hb⟩; have HB : Hid (Below w.heap.size w w1) := hb; clear hb))) | (go_at_call 12; ((with_reducible refine (c1 _).mono ?_); (rintro e w9 ⟨rfl, hw9⟩; have hw9 := hw9.symm; subst hw9))))
    go_ret
    exact ⟨rfl, HB.out⟩
  · have hm0 : m &&& (m - 1) ≠ 0 := fun e => by
      have := pow_and h2 e
      omega
    have D7 : decide ((65536 : Int) < ((k + m : Nat) : Int)) = false := by simp; omega
    have D8 : decide ((65536 : Int) < ((k + 2 * m : Nat) : Int)) = true := by simp; omega
    have Wa : wrap64 ((k : Int) + (m : Int)) = ((k + m : Nat) : Int) := by unfold wrap64; omega
    have Wb : wrap64 (2 * (m : Int)) = ((2 * m : Nat) : Int) := by clear Wa; unfold wrap64; omega
    have Wc : wrap64 ((k : Int) + ((2 * m : Nat) : Int)) = ((k + 2 * m : Nat) : Int) := by clear Wa Wb; unfold wrap64; omega
    have Wd : wrap64 ((m : Int) - 1) = ((m - 1 : Nat) : Int) := by clear Wa Wb Wc; unfold wrap64; omega
    obtain ⟨s, hs1⟩ : ∃ s, s = k + m := ⟨_, rfl⟩
    obtain ⟨d, hs2⟩ : ∃ d, d = 2 * m := ⟨_, rfl⟩
    obtain ⟨p, hs3⟩ : ∃ p, p = k + 2 * m := ⟨_, rfl⟩
    obtain ⟨q, hs4⟩ : ∃ q, q = m - 1 := ⟨_, rfl⟩
    rw [← hs1] at D7 Wa
    rw [← hs2] at Wb Wc
    rw [← hs3] at D8
    rw [hs2, ← hs3, ← hs2] at Wc
    rw [← hs4] at Wd hm0
    have hq : q < 9223372036854775808 := by omega
    have A1 : bits BinOp.and IntKind.i64 (m : Int) (q : Int) = ((m &&& q : Nat) : Int) := i64_and_nat m q (by omega) hq
    obtain ⟨x, hx⟩ : ∃ x, x = m &&& q := ⟨_, rfl⟩
    rw [← hx] at A1 hm0
    have A2 : ¬ x = 0 := hm0
    have A3 : (((x : Nat) : Int) != 0) = true := by simpa using A2
    clear h1 h2 h hk h3 h4 h5 hp1 hs hs1 hs2 hs3 hs4 hm0 hx hq
    go_enter Try.func7, Try.ntmps7
    go_wp2_with (first | (go_at_call 10; ((with_reducible refine (c0).mono ?_); (rintro e w1 ⟨rfl, hb⟩; have HB : Hid (Below w.heap.size w w1) := hb; clear hb))) | (go_at_call 12; ((with_reducible refine (c1 _).mono ?_); (rintro e w9 ⟨rfl, hw9⟩; have hw9 := hw9.symm; subst hw9))))
    go_ret
    exact ⟨rfl, HB.out⟩
theorem limits16 (f k m : Int) (w : World) (hk : I64 k) (hm : I64 m) :
    Calls Try.prog 7 #[.int .i64 f, .int .i64 k, .int .i64 m] w fun e w' => e = .returned (.bool true) ∧ Below w.heap.size w w' := by
  by_cases hf : f = 0 ∨ f = 1 ∨ f = 2
  case neg => exact limits16_fam f k m w hk hf
  case pos =>
    by_cases hn : k < 1 ∨ m < 1
    · exact limits16_few f k m w hk hf hn
    · by_cases hv : Pv f k m
      · exact limits16_ok f k m w hk hv
      · by_cases hb : 1048576 < k ∨ 1048576 < m
        · exact limits16_big f k m w hk hf (by omega) (by omega) hv hb
        · by_cases h2 : f = 2
          · subst h2
            obtain ⟨a, rfl⟩ := Int.eq_ofNat_of_zero_le (show 0 ≤ k by omega)
            obtain ⟨b, rfl⟩ := Int.eq_ofNat_of_zero_le (show 0 ≤ m by omega)
            exact limits16_long a b w hk (by omega) (by omega) hv (by omega) (by omega)
          · exact limits16_small f k m w hk (by omega) (by omega) (by omega) hv hb
theorem limits16_any (f k m : Int) (w : World) (hf : I64 f) (hk : I64 k) (hm : I64 m) :
    Calls Try.prog 7 #[.int .i64 f, .int .i64 k, .int .i64 m] w fun e w' => e = .returned (.bool true) ∧ Below w.heap.size w w' := limits16 f k m w hk hm
end Go.Proofs.Ytldacjpkblffbaa
