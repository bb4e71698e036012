import Derived.Test.YtldacjpkblffbabYie
namespace Go.Proofs.Ytldacjpkblffbab
open Go.RowKit Gf2
set_option linter.unusedVariables false

-- layer 16: great, moves (laid by wip/genyif.py)
theorem mx16_le {n : Nat → Nat} {k M : Nat} (h : ∀ i, i < k → n i ≤ M) : mx16 n k ≤ M := by
  induction k with
  | zero => exact Nat.zero_le _
  | succ k ih =>
    rw [mx16]
    split
    · exact h k (Nat.lt_succ_self _)
    · exact ih (fun i hi => h i (by omega))
theorem join_light {f k m : Int} {c : Nat} {n : Nat → Nat} (hv : hv16 n c = false) : prm f k m = 0 → k.toNat ≤ c → ∀ l, scf (some 0) n k.toNat = some l → k.toNat * l ≤ 140737488355328 := by
  intro hp hk l hl
  have h1 := hv16_no hv
  have h2 : l ≤ 4194304 := by rw [← mx16_scf hl]; exact mx16_le (fun i hi => h1.2 i (by omega))
  exact Nat.le_trans (Nat.mul_le_mul hk h2) (Nat.le_trans (Nat.mul_le_mul_right _ h1.1) (by decide))
set_option maxHeartbeats 4000000 in
set_option maxRecDepth 100000 in
theorem great16_join (f K m N : Int) (vS vF vD : Value) (w : World) (c : Nat) (n : Nat → Nat) (S : Nat → Nat → Nat) (h : Lb w vS c n S) (hc : 24 * c ≤ 140737488351232) (hn : ∀ i, i < c → n i ≤ 140737488351232) :
    Calls Try.prog 7 #[.agg #[.int .i64 9, .int .i64 f, .int .i64 K, .int .i64 m, .int .i64 N, vS, vF, vD]] w fun e w' => e = .returned (.bool (hv16 n c)) ∧ Below w.heap.size w w' := by
  have a0 := balloc16 w (.cells #[.int .i64 9, .int .i64 f, .int .i64 K, .int .i64 m, .int .i64 N, vS, vF, vD] 29)
  obtain ⟨y0, y1, y2, y3, y4, y5, y6, y7⟩ := bo16_new w 9 f K m N vS vF vD (Below.refl _ _)
  have c1 := heavy16 vS c n (w.alloc (.cells #[.int .i64 9, .int .i64 f, .int .i64 K, .int .i64 m, .int .i64 N, vS, vF, vD] 29)) ((Lb.below h a0).ln (by omega)) (fun i hi => Nat.le_trans (hn i hi) (by decide))
  obtain ⟨xS, cS, rfl⟩ := lb_form h
  have HB : Hid _ := a0
  generalize hv16 n c = z at *
  clear a0 h hc hn
  go_enter Try.func7, Try.ntmps7
  go_wp2_with (go_at_call 20; ((with_reducible refine (c1).mono ?_); (rintro e w9 ⟨rfl, hw9⟩; have hw9 := hw9.symm; subst hw9)))
  go_ret
  exact ⟨rfl, HB.out⟩
set_option maxHeartbeats 4000000 in
set_option maxRecDepth 100000 in
theorem great16_split (kd : Int) (h9 : kd ≠ 9) (f K m N : Int) (vS vF vD : Value) (w : World) (n : Nat) (D : Nat → Nat) (h : Rb w vD n D) :
    Calls Try.prog 7 #[.agg #[.int .i64 kd, .int .i64 f, .int .i64 K, .int .i64 m, .int .i64 N, vS, vF, vD]] w fun e w' => ∃ b, e = .returned (.bool b) ∧ Below w.heap.size w w' := by
  have a0 := balloc16 w (.cells #[.int .i64 kd, .int .i64 f, .int .i64 K, .int .i64 m, .int .i64 N, vS, vF, vD] 29)
  obtain ⟨y0, y1, y2, y3, y4, y5, y6, y7⟩ := bo16_new w kd f K m N vS vF vD (Below.refl _ _)
  have c1 := fun x => rlength16 f K m n x
  have E9 : (kd == 9) = false := by simpa using h9
  obtain ⟨-, -, xD, cD, rfl, -, -, -⟩ := h
  have HB : Hid _ := a0
  by_cases hp : lne f K m n = 0
  · obtain ⟨hp2, -, -⟩ := lne_ok hp
    unfold lnv at c1
    rw [if_pos hp, hp] at c1
    obtain ⟨k, m, rfl, rfl⟩ := prm_nat hp2
    have hv := prm_ok.1 hp2
    have c1 : ∀ x, Calls Try.prog 21 #[.int .i64 f, .int .i64 (k : Int), .int .i64 (m : Int), .int .i64 (n : Int)] x fun e w' => e = .returned (.tuple #[.int .i64 (ln16 f k n : Nat), .int .i64 0]) ∧ w' = x := c1
    obtain ⟨s, d, HS, W1, T1, W2, hs0⟩ := split_quo (k := k) (m := m) (by have := hv.hk; omega) (by have := hv.sum; omega) 67108864 (by decide)
    obtain ⟨s', d', HS', W1', T1', W2', -⟩ := split_quo (k := k) (m := m) (by have := hv.hk; clear W1 W2; omega) (by have := hv.sum; clear W1 W2; omega) 1048576 (by decide)
    obtain rfl : s = s' := by have := HS.out.1; have := HS'.out.1; clear W1 W2 W1' W2'; omega
    have T1 : (67108864 : Int).tdiv (s : Int) = (d : Int) := T1
    have T1' : (1048576 : Int).tdiv (s : Int) = (d' : Int) := T1'
    generalize ln16 f k n = l at c1
    clear a0 hp hp2 hv W1' h9
    by_cases g1 : d' < l
    · by_cases g2 : l ≤ d
      · go_enter Try.func7, Try.ntmps7
        go_wp2_with (go_at_call 21; ((with_reducible refine (c1 _).mono ?_); (rintro e w9 ⟨rfl, hw9⟩; have hw9 := hw9.symm; subst hw9)))
        go_ret
        exact ⟨_, rfl, HB.out⟩
      · go_enter Try.func7, Try.ntmps7
        go_wp2_with (go_at_call 21; ((with_reducible refine (c1 _).mono ?_); (rintro e w9 ⟨rfl, hw9⟩; have hw9 := hw9.symm; subst hw9)))
        go_ret
        exact ⟨_, rfl, HB.out⟩
    · go_enter Try.func7, Try.ntmps7
      go_wp2_with (go_at_call 21; ((with_reducible refine (c1 _).mono ?_); (rintro e w9 ⟨rfl, hw9⟩; have hw9 := hw9.symm; subst hw9)))
      go_ret
      exact ⟨_, rfl, HB.out⟩
  · unfold lnv at c1
    rw [if_neg hp] at c1
    generalize lne f K m n = z at *
    have D1 : (z != 0) = true := by simpa using hp
    have D2 : (z == 0) = false := by simpa using hp
    clear a0 hp h9
    go_enter Try.func7, Try.ntmps7
    go_wp2_with (go_at_call 21; ((with_reducible refine (c1 _).mono ?_); (rintro e w9 ⟨rfl, hw9⟩; have hw9 := hw9.symm; subst hw9)))
    go_ret
    exact ⟨_, rfl, HB.out⟩
/-- what Split answers in all, by the document and by the program. -/
structure SpA (w w' : World) (u : Value) (f K m : Int) (n : Nat) (D : Nat → Nat) : Prop where
  bel : Below w.heap.size w w'
  lb : ∃ M L T, Lb w' u M L T ∧ (∀ i, L i = if lne f K m n = 0 ∧ (K + m) * (ln16 f K.toNat n : Int) ≤ 67108864 then ln16 f K.toNat n else 0) ∧ (M = if lne f K m n = 0 ∧ (K + m) * (ln16 f K.toNat n : Int) ≤ 67108864 then (K + m).toNat else 0) ∧ T = spl (ln16 f K.toNat n) n D
/-- Split's error. -/
def spe (f K m : Int) (n : Nat) : Int := if lne f K m n = 0 then (if (K + m) * (ln16 f K.toNat n : Int) ≤ 67108864 then 0 else 5) else lne f K m n
theorem lb_nil16 (w : World) (T : Nat → Nat → Nat) : Lb w (.slice none 0 0) 0 (fun _ => 0) T := ⟨fun _ => .slice none 0 0, ⟨by unfold big; omega, none, 0, rfl, by omega, by unfold big; omega, fun h => absurd h (Nat.lt_irrefl _)⟩, fun i hi => absurd hi (Nat.not_lt_zero _)⟩
theorem split16_all (f K m : Int) (v : Value) (n : Nat) (D : Nat → Nat) (w : World) (hk : I64 K) (hv : Rb w v n D) :
    Calls Try.prog 9 #[.int .i64 f, .int .i64 K, .int .i64 m, v] w fun e w' => ∃ u, e = .returned (.tuple #[u, .int .i64 (spe f K m n)]) ∧ SpA w w' u f K m n D := by
  unfold spe
  by_cases h : lne f K m n = 0
  · rw [if_pos h]
    obtain ⟨hp, -, -⟩ := lne_ok h
    obtain ⟨k, m, rfl, rfl⟩ := prm_nat hp
    have e1 : ((k : Int) + (m : Int)) * (ln16 f (k : Int).toNat n : Int) = (((k + m) * ln16 f k n : Nat) : Int) := by rw [Int.toNat_natCast, Int.natCast_mul, Int.natCast_add]
    rw [e1]
    by_cases hb : (k + m) * ln16 f k n ≤ 67108864
    · rw [if_pos (by omega)]
      refine (split16_yes f k m v n D w hk hv h hb).mono fun e w' ⟨u, he, hA⟩ => ⟨u, he, hA.bel, ?_⟩
      obtain ⟨B, hC⟩ := hA.cs
      refine ⟨k + m, fun _ => ln16 f k n, spl (ln16 f k n) n D, hC.lb, fun i => ?_, ?_, by rw [Int.toNat_natCast]⟩
      · rw [if_pos ⟨h, by rw [e1]; omega⟩, Int.toNat_natCast]
      · rw [if_pos ⟨h, by rw [e1]; omega⟩]; omega
    · rw [if_neg (by omega)]
      refine (split16_big f k m v n D w hk hv h (by omega)).mono fun e w' ⟨he, hw⟩ => ⟨_, he, by rw [hw]; exact Below.refl _ _, 0, fun _ => 0, _, lb_nil16 _ _, fun i => ?_, ?_, rfl⟩
      · rw [if_neg (by rw [e1]; omega)]
      · rw [if_neg (by rw [e1]; omega)]
  · rw [if_neg h]
    refine (split16_no f K m v n D w hk hv h).mono fun e w' ⟨he, hw⟩ => ⟨_, he, by rw [hw]; exact Below.refl _ _, 0, fun _ => 0, _, lb_nil16 _ _, fun i => ?_, ?_, rfl⟩
    · rw [if_neg (fun e => h e.1)]
    · rw [if_neg (fun e => h e.1)]
theorem rsplit16_all (f K m : Int) (v : Value) (n : Nat) (D : Nat → Nat) (w : World) (hv : Rb w v n D) :
    Calls Try.prog 16 #[.int .i64 f, .int .i64 K, .int .i64 m, v] w fun e w' => ∃ u, e = .returned (.tuple #[u, .int .i64 (spe f K m n)]) ∧ SpA w w' u f K m n D := by
  unfold spe
  by_cases h : lne f K m n = 0
  · rw [if_pos h]
    obtain ⟨hp, -, -⟩ := lne_ok h
    obtain ⟨k, m, rfl, rfl⟩ := prm_nat hp
    have e1 : ((k : Int) + (m : Int)) * (ln16 f (k : Int).toNat n : Int) = (((k + m) * ln16 f k n : Nat) : Int) := by rw [Int.toNat_natCast, Int.natCast_mul, Int.natCast_add]
    rw [e1]
    by_cases hb : (k + m) * ln16 f k n ≤ 67108864
    · rw [if_pos (by omega)]
      refine (rsplit16_yes f k m v n D w hv h hb).mono fun e w' ⟨u, he, hA⟩ => ⟨u, he, hA.bel, ?_⟩
      obtain ⟨B, hC⟩ := hA.cs
      refine ⟨k + m, fun _ => ln16 f k n, spl (ln16 f k n) n D, hC.lb, fun i => ?_, ?_, by rw [Int.toNat_natCast]⟩
      · rw [if_pos ⟨h, by rw [e1]; omega⟩, Int.toNat_natCast]
      · rw [if_pos ⟨h, by rw [e1]; omega⟩]; omega
    · rw [if_neg (by omega)]
      refine (rsplit16_big f k m v n D w hv h (by omega)).mono fun e w' ⟨he, hw⟩ => ⟨_, he, by rw [hw]; exact Below.refl _ _, 0, fun _ => 0, _, lb_nil16 _ _, fun i => ?_, ?_, rfl⟩
      · rw [if_neg (by rw [e1]; omega)]
      · rw [if_neg (by rw [e1]; omega)]
  · rw [if_neg h]
    refine (rsplit16_no f K m v n D w hv h).mono fun e w' ⟨he, hw⟩ => ⟨_, he, by rw [hw]; exact Below.refl _ _, 0, fun _ => 0, _, lb_nil16 _ _, fun i => ?_, ?_, rfl⟩
    · rw [if_neg (fun e => h e.1)]
    · rw [if_neg (fun e => h e.1)]
theorem spa_same {w1 w2 w3 w4 : World} {u u' : Value} {f K m : Int} {n : Nat} {D : Nat → Nat} (h : SpA w1 w2 u f K m n D) (h' : SpA w3 w4 u' f K m n D) (hb : Below w2.heap.size w2 w4) : Calls Try.prog 17 #[u, u'] w4 fun e w' => e = .returned (.bool true) ∧ ∃ q, w' = w4.drewN q := by
  obtain ⟨M, L, T, h1, h2, h3, h4⟩ := h.lb
  obtain ⟨M', L', T', k1, k2, k3, k4⟩ := h'.lb
  obtain rfl : M = M' := by rw [h3, k3]
  obtain rfl : T = T' := by rw [h4, k4]
  have e : ∀ i, L' i = L i := fun i => by rw [h2, k2]
  exact sm16_true u u' M L T T w4 (Lb.below h1 hb) (k1.lens (fun i _ => e i)) (fun _ _ _ _ => rfl)
theorem lb_lens {w : World} {u : Value} {f K m : Int} {n : Nat} {D : Nat → Nat} {w1 : World} (h : SpA w1 w u f K m n D) : ∃ a c M, u = .slice a M c := by
  obtain ⟨M, L, T, h1, -⟩ := h.lb
  obtain ⟨a, c, e⟩ := lb_form h1
  exact ⟨a, c, M, e⟩
theorem jna_same {f K m N : Int} {c : Nat} {n : Nat → Nat} {S : Nat → Nat → Nat} {w1 w2 w3 w4 : World} {u u' : Value} (h : JnA f K m c n S N w1 w2 u) (h' : JnA f K m c n S N w3 w4 u') (hb : Below w2.heap.size w2 w4) : Calls Try.prog 12 #[u, u'] w4 fun e w' => e = .returned (.bool true) ∧ ∃ q, w' = w4.drewN q := by
  by_cases e : jne f K m c n N = 0
  · obtain ⟨l, h1, -, -, g, rfl, -, hr⟩ := h.yes e
    obtain ⟨l', h1', -, -, g', rfl, -, hr'⟩ := h'.yes e
    obtain rfl : l = l' := by rw [h1] at h1'; exact Option.some.inj h1'
    exact sb16_true _ _ _ _ _ w4 (hr.rb0.below hb) hr'.rb0 (fun _ _ => rfl)
  · rw [h.no e, h'.no e]
    have hn : Rb w4 (.slice none 0 0) 0 (fun _ => 0) := ⟨by unfold big; omega, fun i hi => absurd hi (Nat.not_lt_zero _), none, 0, rfl, by omega, by unfold big; omega, fun h => absurd h (Nat.lt_irrefl _)⟩
    exact sb16_true _ _ 0 _ _ w4 hn hn (fun _ _ => rfl)
theorem jna_form {f K m N : Int} {c : Nat} {n : Nat → Nat} {S : Nat → Nat → Nat} {w1 w2 : World} {u : Value} (h : JnA f K m c n S N w1 w2 u) : ∃ a L C, u = .slice a L C := by
  by_cases e : jne f K m c n N = 0
  · obtain ⟨l, h1, -, -, g, rfl, -, hr⟩ := h.yes e
    exact ⟨_, _, _, rfl⟩
  · rw [h.no e]
    exact ⟨_, _, _, rfl⟩
end Go.Proofs.Ytldacjpkblffbab
