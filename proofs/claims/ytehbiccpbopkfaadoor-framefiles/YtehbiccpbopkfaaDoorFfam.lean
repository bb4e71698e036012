import Derived.Test.YtehbiccpbopkfaaDoorFfaj
import Derived.Test.YtehbiccpbopkfaaDoorFfal
namespace Go.Proofs.YtehbiccpbopkfaaDoor
open Go.RowKit Gf2
set_option linter.unusedVariables false

-- layer 25: which heads are good
/-- a good head. -/
structure Gh25 (f : Int) (k m i s l b : Nat) : Prop where
  par : prm f k m = 0
  s1 : 1 ≤ s
  s2 : s ≤ 1099511627776
  len : l = ln16 f k s
  idx : i < k + m
  tot : (k + m) * l ≤ 67108864
  blk : ib25 f b
  cnt : nb25 l b ≤ 65536
def gd25 (f k m i s l b : Int) : Prop := ∃ K M I S L B : Nat, k = K ∧ m = M ∧ i = I ∧ s = S ∧ l = L ∧ b = B ∧ Gh25 f K M I S L B
theorem Gh25.pv {f : Int} {k m i s l b : Nat} (h : Gh25 f k m i s l b) : Pv f k m := prm_ok.1 h.par
theorem Gh25.l2 {f : Int} {k m i s l b : Nat} (h : Gh25 f k m i s l b) : l ≤ 67108864 := by
  have h1 := h.tot
  have h2 := h.pv.hk
  have h3 : 1 * l ≤ (k + m) * l := Nat.mul_le_mul (by omega) (Nat.le_refl _)
  omega
theorem Gh25.lne {f : Int} {k m i s l b : Nat} (h : Gh25 f k m i s l b) : lne f k m s = 0 := by
  unfold Go.Proofs.YtehbiccpbopkfaaDoor.lne
  rw [if_pos h.par, if_neg (by have := h.s1; omega), if_neg (by have := h.s2; omega)]
theorem i64_nat25 {n : Nat} (h : n ≤ 65536) : I64 (n : Int) := ⟨by omega, by omega⟩
set_option maxHeartbeats 8000000 in
set_option maxRecDepth 100000 in
theorem check25_no (f k m i s L b : Int) (st : Nat) (w : World) (hk : I64 k) (h : ¬ gd25 f k m i s L b) :
    Calls Tryd.prog 12 #[hd25 f k m i s L b st] w fun e w' => e = .returned (.int .i64 251) ∧ Below w.heap.size w w' := by
  have B0 : Bh25 w _ f k m i s L b st := Bh25.new
  have H0 : Hid (Below w.heap.size w (w.alloc (.cells (hc25 f k m i s L b st) 38))) := B0.bel
  unfold hd25
  unfold hc25 at B0 H0
  by_cases hl : lne f k m s = 0
  · obtain ⟨h1, h2, h3⟩ := lne_ok hl
    have hv := prm_ok.1 h1
    obtain ⟨K, rfl⟩ := Int.eq_ofNat_of_zero_le (show 0 ≤ k by have := hv.hk; omega)
    obtain ⟨M, rfl⟩ := Int.eq_ofNat_of_zero_le (show 0 ≤ m by have := hv.hm; omega)
    obtain ⟨S, rfl⟩ := Int.eq_ofNat_of_zero_le (show 0 ≤ s by omega)
    have hk1 := hv.hk
    have hk2 := hv.sum
    have c1 : Hid (∀ W, Calls Tryd.prog 25 #[.int .i64 f, .int .i64 (K : Int), .int .i64 (M : Int), .int .i64 (S : Int)] W fun e w' => e = .returned (.tuple #[.int .i64 ((ln16 f K S : Nat) : Int), .int .i64 0]) ∧ w' = W) := fun W => length16_yes f M K S W hk h1 (by omega) (by omega)
    have hle := ln16_le f (k := K) (n := S) (by omega)
    have h' : ¬ (L = ((ln16 f K S : Nat) : Int) ∧ 0 ≤ i ∧ i < (K : Int) + (M : Int) ∧ (K + M) * ln16 f K S ≤ 67108864 ∧ ib25 f b ∧ nb25 (ln16 f K S) b.toNat ≤ 65536) := by
      rintro ⟨e1, e2, e3, e4, e5, e6⟩
      obtain ⟨I, rfl⟩ := Int.eq_ofNat_of_zero_le e2
      obtain ⟨B, rfl⟩ := Int.eq_ofNat_of_zero_le (show 0 ≤ b by have := e5.1; omega)
      exact h ⟨K, M, I, S, ln16 f K S, B, rfl, rfl, rfl, rfl, e1, rfl, h1, by omega, by omega, rfl, by omega, e4, e5, e6⟩
    have hl2 : ln16 f K S ≤ 1099511627777 := by omega
    clear h hle h1 h2 h3 hv hl hk
    obtain ⟨l, hll⟩ : ∃ l, Hid (ln16 f K S = l) := ⟨_, rfl⟩
    rw [hll.out] at c1 h' hl2
    clear hll
    by_cases e1 : L = (l : Int)
    · subst e1
      have D1 : (((l : Nat) : Int) != ((l : Nat) : Int)) = false := by simp
      have D2 : (((l : Nat) : Int) == ((l : Nat) : Int)) = true := by simp
      have W1 : wrap64 (((K : Nat) : Int) + ((M : Nat) : Int)) = ((K + M : Nat) : Int) := by unfold wrap64; omega
      have hq : K + M ≤ 65536 := by omega
      have hpq : (K + M) * l ≤ 65536 * 1099511627777 := Nat.mul_le_mul hq hl2
      obtain ⟨q, hqq⟩ : ∃ q, Hid (K + M = q) := ⟨_, rfl⟩
      have hi' : ((K : Nat) : Int) + ((M : Nat) : Int) = ((q : Nat) : Int) := by rw [← hqq.out]; rfl
      rw [hqq.out] at W1 hq hpq h'
      rw [hi'] at h'
      obtain ⟨p, hp⟩ : ∃ p, Hid (q * l = p) := ⟨_, rfl⟩
      have P1 : ((q : Nat) : Int) * ((l : Nat) : Int) = ((p : Nat) : Int) := by rw [← hp.out]; simp
      rw [hp.out] at hpq h'
      have W2 : wrap64 (((q : Nat) : Int) * ((l : Nat) : Int)) = ((p : Nat) : Int) := by rw [P1]; clear W1 P1; unfold wrap64; omega
      clear hp hqq hi' P1 hq
      by_cases e2 : i < 0
      · have D3 : decide (i < 0) = true := decide_eq_true e2
        clear h' e2 W1 W2 hk1 hk2 hpq
        go_enter Tryd.func12, Tryd.ntmps12
        go_wp2_with (first | (go_at_call 25; (with_reducible refine (c1.out _).mono ?_); rintro e w9 ⟨rfl, hw9⟩; have hw9 := hw9.symm; subst hw9; clear c1))
        go_ret
        exact ⟨rfl, H0.out⟩
      · have D3 : decide (i < 0) = false := decide_eq_false e2
        by_cases e3 : (q : Int) ≤ i
        · have D4 : decide (((q : Nat) : Int) ≤ i) = true := decide_eq_true e3
          clear h' e2 e3 W2 hk1 hk2 hpq
          go_enter Tryd.func12, Tryd.ntmps12
          go_wp2_with (first | (go_at_call 25; (with_reducible refine (c1.out _).mono ?_); rintro e w9 ⟨rfl, hw9⟩; have hw9 := hw9.symm; subst hw9; clear c1))
          go_ret
          exact ⟨rfl, H0.out⟩
        · have D4 : decide (((q : Nat) : Int) ≤ i) = false := decide_eq_false e3
          by_cases e4 : 67108864 < p
          · have D5 : decide ((67108864 : Int) < ((p : Nat) : Int)) = true := decide_eq_true (by omega)
            clear h' e2 e3 e4 hk1 hk2 hpq
            go_enter Tryd.func12, Tryd.ntmps12
            go_wp2_with (first | (go_at_call 25; (with_reducible refine (c1.out _).mono ?_); rintro e w9 ⟨rfl, hw9⟩; have hw9 := hw9.symm; subst hw9; clear c1))
            go_ret
            exact ⟨rfl, H0.out⟩
          · have D5 : decide ((67108864 : Int) < ((p : Nat) : Int)) = false := decide_eq_false (by omega)
            by_cases e5 : ib25 f b
            · obtain ⟨B, rfl⟩ := Int.eq_ofNat_of_zero_le (show 0 ≤ b by have := e5.1; omega)
              have e6 : 65536 < nb25 l B := Nat.lt_of_not_le (fun h9 => h' ⟨rfl, by omega, by omega, by omega, e5, h9⟩)
              have c2 : Hid (∀ W, Calls Tryd.prog 26 #[.int .i64 f, .int .i64 (B : Int)] W fun e w' => e = .returned (.bool true) ∧ w' = W) := fun W => isBlock25 f B true W (by simp [e5])
              have c3 : Hid (∀ W, Calls Tryd.prog 20 #[hd25 f K M i S (l : Int) (B : Int) st] W fun e w' => e = .returned (.int .i64 ((nb25 l B : Nat) : Int)) ∧ Below W.heap.size W w') := fun W => blocksOf25 f K M i S l B st W (by omega) (by have := e5.1; omega) (by have := e5.2.1; omega)
              unfold hd25 at c3
              obtain ⟨y, hy⟩ : ∃ y, Hid (nb25 l B = y) := ⟨_, rfl⟩
              rw [hy.out] at c3 e6
              have D6 : decide ((65536 : Int) < ((y : Nat) : Int)) = true := decide_eq_true (by omega)
              clear h' e2 e3 e4 e5 e6 hk1 hk2 hpq hy hl2
              go_enter Tryd.func12, Tryd.ntmps12
              go_wp2_with (first | (go_at_call 25; (with_reducible refine (c1.out _).mono ?_); rintro e w9 ⟨rfl, hw9⟩; have hw9 := hw9.symm; subst hw9; clear c1) | (go_at_call 26; (with_reducible refine (c2.out _).mono ?_); rintro e w9 ⟨rfl, hw9⟩; have hw9 := hw9.symm; subst hw9; clear c2) | (go_at_call 20; (with_reducible refine (c3.out _).mono ?_); rintro e w9 ⟨rfl, hw9⟩; clear c3))
              go_ret
              exact ⟨rfl, (B0.below hw9).bel⟩
            · have c2 : Hid (∀ W, Calls Tryd.prog 26 #[.int .i64 f, .int .i64 b] W fun e w' => e = .returned (.bool false) ∧ w' = W) := fun W => isBlock25 f b false W (by simp [e5])
              clear h' e2 e3 e4 e5 hk1 hk2 hpq
              go_enter Tryd.func12, Tryd.ntmps12
              go_wp2_with (first | (go_at_call 25; (with_reducible refine (c1.out _).mono ?_); rintro e w9 ⟨rfl, hw9⟩; have hw9 := hw9.symm; subst hw9; clear c1) | (go_at_call 26; (with_reducible refine (c2.out _).mono ?_); rintro e w9 ⟨rfl, hw9⟩; have hw9 := hw9.symm; subst hw9; clear c2))
              go_ret
              exact ⟨rfl, H0.out⟩
    · have D1 : (L != ((l : Nat) : Int)) = true := by simpa using e1
      have D2 : (L == ((l : Nat) : Int)) = false := by simpa using e1
      clear h' e1 hk1 hk2 hl2
      go_enter Tryd.func12, Tryd.ntmps12
      go_wp2_with (first | (go_at_call 25; (with_reducible refine (c1.out _).mono ?_); rintro e w9 ⟨rfl, hw9⟩; have hw9 := hw9.symm; subst hw9; clear c1))
      go_ret
      exact ⟨rfl, H0.out⟩
  · obtain ⟨z, hz⟩ : ∃ z, lne f k m s = z := ⟨_, rfl⟩
    rw [hz] at hl
    have c1 : Hid (∀ W, Calls Tryd.prog 25 #[.int .i64 f, .int .i64 k, .int .i64 m, .int .i64 s] W fun e w' => e = .returned (.tuple #[.int .i64 0, .int .i64 z]) ∧ w' = W) := fun W => length16_no f k m s W hk z hz hl
    have D1 : (z != 0) = true := by simpa using hl
    have D2 : (z == 0) = false := by simpa using hl
    clear h hz hl hk
    go_enter Tryd.func12, Tryd.ntmps12
    go_wp2_with (first | (go_at_call 25; (with_reducible refine (c1.out _).mono ?_); rintro e w9 ⟨rfl, hw9⟩; have hw9 := hw9.symm; subst hw9; clear c1))
    go_ret
    exact ⟨rfl, H0.out⟩
set_option maxHeartbeats 8000000 in
set_option maxRecDepth 100000 in
theorem check25_yes (f : Int) (K M I S l B : Nat) (st : Nat) (w : World) (h : Gh25 f K M I S l B) :
    Calls Tryd.prog 12 #[hd25 f K M I S l B st] w fun e w' => e = .returned (.int .i64 0) ∧ Below w.heap.size w w' := by
  have B0 : Bh25 w _ f K M I S l B st := Bh25.new
  have H0 : Hid (Below w.heap.size w (w.alloc (.cells (hc25 f K M I S l B st) 38))) := B0.bel
  unfold hd25
  unfold hc25 at B0 H0
  have hv := h.pv
  have hk1 := hv.hk
  have hk2 := hv.sum
  have c1 : Hid (∀ W, Calls Tryd.prog 25 #[.int .i64 f, .int .i64 (K : Int), .int .i64 (M : Int), .int .i64 (S : Int)] W fun e w' => e = .returned (.tuple #[.int .i64 ((l : Nat) : Int), .int .i64 0]) ∧ w' = W) := fun W => by
    rw [h.len]
    exact length16_yes f M K S W (i64_nat25 (by have := hv.hm; omega)) h.par h.s1 h.s2
  have D1 : (((l : Nat) : Int) != ((l : Nat) : Int)) = false := by simp
  have D2 : (((l : Nat) : Int) == ((l : Nat) : Int)) = true := by simp
  have W1 : wrap64 (((K : Nat) : Int) + ((M : Nat) : Int)) = ((K + M : Nat) : Int) := by have := hv.hm; unfold wrap64; omega
  have c2 : Hid (∀ W, Calls Tryd.prog 26 #[.int .i64 f, .int .i64 (B : Int)] W fun e w' => e = .returned (.bool true) ∧ w' = W) := fun W => isBlock25 f B true W (by simp [h.blk])
  have c3 : Hid (∀ W, Calls Tryd.prog 20 #[hd25 f K M I S (l : Int) (B : Int) st] W fun e w' => e = .returned (.int .i64 ((nb25 l B : Nat) : Int)) ∧ Below W.heap.size W w') := fun W => blocksOf25 f K M I S l B st W (by have := h.l2; omega) (by have := h.blk.1; omega) (by have := h.blk.2.1; omega)
  unfold hd25 at c3
  have ht := h.tot
  have hi := h.idx
  have hn := h.cnt
  obtain ⟨y, hy⟩ : ∃ y, Hid (nb25 l B = y) := ⟨_, rfl⟩
  rw [hy.out] at c3 hn
  have D6 : decide ((65536 : Int) < ((y : Nat) : Int)) = false := decide_eq_false (by omega)
  obtain ⟨q, hqq⟩ : ∃ q, Hid (K + M = q) := ⟨_, rfl⟩
  rw [hqq.out] at W1 ht hi
  obtain ⟨p, hp⟩ : ∃ p, Hid (q * l = p) := ⟨_, rfl⟩
  have P1 : ((q : Nat) : Int) * ((l : Nat) : Int) = ((p : Nat) : Int) := by rw [← hp.out]; simp
  rw [hp.out] at ht
  have W2 : wrap64 (((q : Nat) : Int) * ((l : Nat) : Int)) = ((p : Nat) : Int) := by rw [P1]; clear W1 P1; unfold wrap64; omega
  have D3 : decide (((I : Nat) : Int) < 0) = false := decide_eq_false (by omega)
  have D4 : decide (((q : Nat) : Int) ≤ ((I : Nat) : Int)) = false := decide_eq_false (by omega)
  have D4N : decide (q ≤ I) = false := decide_eq_false (by omega)
  have D5 : decide ((67108864 : Int) < ((p : Nat) : Int)) = false := decide_eq_false (by omega)
  clear h hv hk1 hk2 ht hi hn hy hqq hp P1
  go_enter Tryd.func12, Tryd.ntmps12
  go_wp2_with (first | (go_at_call 25; (with_reducible refine (c1.out _).mono ?_); rintro e w9 ⟨rfl, hw9⟩; have hw9 := hw9.symm; subst hw9; clear c1) | (go_at_call 26; (with_reducible refine (c2.out _).mono ?_); rintro e w9 ⟨rfl, hw9⟩; have hw9 := hw9.symm; subst hw9; clear c2) | (go_at_call 20; (with_reducible refine (c3.out _).mono ?_); rintro e w9 ⟨rfl, hw9⟩; clear c3))
  go_ret
  exact ⟨rfl, (B0.below hw9).bel⟩
end Go.Proofs.YtehbiccpbopkfaaDoor
namespace Go.Proofs.YtehbiccpbopkfaaDoor
open Go.RowKit Gf2
set_option linter.unusedVariables false

-- layer 25: the document's CheckHead
set_option maxHeartbeats 4000000 in
set_option maxRecDepth 100000 in
theorem spans25 (L b : Nat) (w : World) (hL : L ≤ 1125899906842624) (hb : 1 ≤ b) (hb2 : b ≤ 1048576) :
    Calls Tryd.prog 28 #[.int .i64 (L : Int), .int .i64 (b : Int)] w fun e w' => e = .returned (.int .i64 ((nb25 L b : Nat) : Int)) ∧ w' = w := by
  have e := ceil16 (n := L) (k := b) hb
  change nb25 L b = _ at e
  have ql : L / b ≤ L := Nat.div_le_self _ _
  obtain ⟨q, hq⟩ : ∃ q, Hid (L / b = q) := ⟨_, rfl⟩
  obtain ⟨r, hr⟩ : ∃ r, Hid (L % b = r) := ⟨_, rfl⟩
  rw [hq.out, hr.out] at e
  rw [hq.out] at ql
  have rl : r < b := by rw [← hr.out]; exact Nat.mod_lt _ hb
  have HW1 : Hid (wrap64 ((q : Nat) : Int) = ((q : Nat) : Int)) := by show _ = _; unfold wrap64; omega
  have HW2 : Hid (wrap64 ((r : Nat) : Int) = ((r : Nat) : Int)) := by show _ = _; unfold wrap64; omega
  have HW3 : Hid (wrap64 (((q : Nat) : Int) + 1) = ((q : Nat) : Int) + 1) := by show _ = _; unfold wrap64; omega
  have nb0 : ¬ ((b : Nat) : Int) = 0 := by omega
  have nb0N : ¬ b = 0 := by omega
  have HT1 : Hid ((((L : Nat) : Int)).tdiv ((b : Nat) : Int) = ((q : Nat) : Int)) := by show _ = _; rw [← hq.out]; exact (Int.ofNat_tdiv _ _).symm
  have HT2 : Hid ((((L : Nat) : Int)).tmod ((b : Nat) : Int) = ((r : Nat) : Int)) := by show _ = _; rw [← hr.out]; exact (Int.ofNat_tmod _ _).symm
  have HT3 : Hid (((L : Nat) : Int) / ((b : Nat) : Int) = ((q : Nat) : Int)) := by show _ = _; rw [← hq.out]; simp
  have HT4 : Hid (((L : Nat) : Int) % ((b : Nat) : Int) = ((r : Nat) : Int)) := by show _ = _; rw [← hr.out]; simp
  by_cases h0 : r = 0
  · rw [if_pos h0] at e
    have D1 : decide ((0 : Int) < ((r : Nat) : Int)) = false := decide_eq_false (by omega)
    have D2 : decide (0 < r) = false := decide_eq_false (by omega)
    rw [e]
    clear e hL hb hb2 ql hq hr rl h0
    have W1 := HW1.out
    have W2 := HW2.out
    have W3 := HW3.out
    have T1 := HT1.out
    have T2 := HT2.out
    have T3 := HT3.out
    have T4 := HT4.out
    go_enter Tryd.func28, Tryd.ntmps28
    go_wp2
    go_ret
    exact ⟨by first | rfl | exact ret_int W1, rfl⟩
  · rw [if_neg h0] at e
    have D1 : decide ((0 : Int) < ((r : Nat) : Int)) = true := decide_eq_true (by omega)
    have D2 : decide (0 < r) = true := decide_eq_true (by omega)
    have D3 : (0 : Int) < ((r : Nat) : Int) := by omega
    rw [e]
    clear e hL hb hb2 ql hq hr rl h0
    have W1 := HW1.out
    have W2 := HW2.out
    have W3 := HW3.out
    have T1 := HT1.out
    have T2 := HT2.out
    have T3 := HT3.out
    have T4 := HT4.out
    go_enter Tryd.func28, Tryd.ntmps28
    go_wp2
    go_ret
    exact ⟨by first | rfl | exact ret_int W3, rfl⟩
theorem quo_no25 {q l : Nat} (hq : 1 ≤ q) : 67108864 / q < l ↔ 67108864 < q * l := by
  rw [Nat.div_lt_iff_lt_mul hq, Nat.mul_comm]
set_option maxHeartbeats 8000000 in
set_option maxRecDepth 100000 in
theorem rcheck25_no (f k m i s L b : Int) (st : Nat) (w : World) (h : ¬ gd25 f k m i s L b) :
    Calls Tryd.prog 14 #[hd25 f k m i s L b st] w fun e w' => e = .returned (.int .i64 251) ∧ Below w.heap.size w w' := by
  have H0 : Hid (Below w.heap.size w (w.alloc (.cells (hc25 f k m i s L b st) 26))) := (Below.refl _ _).alloc (Nat.le_refl _) _
  unfold hd25
  unfold hc25 at H0
  have c1 : Hid (∀ W, Calls Tryd.prog 27 #[.int .i64 f, .int .i64 k, .int .i64 m, .int .i64 s] W fun e w' => e = .returned (.tuple #[.int .i64 (lnv f k m s), .int .i64 (lne f k m s)]) ∧ w' = W) := fun W => rlength16 f k m s W
  by_cases hl : lne f k m s = 0
  · obtain ⟨h1, h2, h3⟩ := lne_ok hl
    have hv := prm_ok.1 h1
    obtain ⟨K, rfl⟩ := Int.eq_ofNat_of_zero_le (show 0 ≤ k by have := hv.hk; omega)
    obtain ⟨M, rfl⟩ := Int.eq_ofNat_of_zero_le (show 0 ≤ m by have := hv.hm; omega)
    obtain ⟨S, rfl⟩ := Int.eq_ofNat_of_zero_le (show 0 ≤ s by omega)
    have hk1 := hv.hk
    have hk2 := hv.sum
    have hm1 := hv.hm
    have el : lnv f K M S = ((ln16 f K S : Nat) : Int) := by unfold lnv; rw [if_pos hl]; rfl
    rw [hl, el] at c1
    have hle := ln16_le f (k := K) (n := S) (by omega)
    have h' : ¬ (L = ((ln16 f K S : Nat) : Int) ∧ 0 ≤ i ∧ i < (K : Int) + (M : Int) ∧ (K + M) * ln16 f K S ≤ 67108864 ∧ ib25 f b ∧ nb25 (ln16 f K S) b.toNat ≤ 65536) := by
      rintro ⟨e1, e2, e3, e4, e5, e6⟩
      obtain ⟨I, rfl⟩ := Int.eq_ofNat_of_zero_le e2
      obtain ⟨B, rfl⟩ := Int.eq_ofNat_of_zero_le (show 0 ≤ b by have := e5.1; omega)
      exact h ⟨K, M, I, S, ln16 f K S, B, rfl, rfl, rfl, rfl, e1, rfl, h1, by omega, by omega, rfl, by omega, e4, e5, e6⟩
    have hl2 : ln16 f K S ≤ 1099511627777 := by omega
    clear h hle h1 h2 h3 hv hl el
    obtain ⟨l, hll⟩ : ∃ l, Hid (ln16 f K S = l) := ⟨_, rfl⟩
    rw [hll.out] at c1 h' hl2
    clear hll
    by_cases e1 : L = (l : Int)
    · subst e1
      have D1 : (((l : Nat) : Int) != ((l : Nat) : Int)) = false := by simp
      have D2 : (((l : Nat) : Int) == ((l : Nat) : Int)) = true := by simp
      have W1 : wrap64 (((K : Nat) : Int) + ((M : Nat) : Int)) = ((K + M : Nat) : Int) := by unfold wrap64; omega
      obtain ⟨q, hqq⟩ : ∃ q, Hid (K + M = q) := ⟨_, rfl⟩
      have hq1 : 1 ≤ q := by have := hqq.out; omega
      have hq2 : q ≤ 65536 := by have := hqq.out; clear W1; omega
      have hi' : ((K : Nat) : Int) + ((M : Nat) : Int) = ((q : Nat) : Int) := by rw [← hqq.out]; rfl
      rw [hqq.out] at W1 h'
      rw [hi'] at h'
      clear hqq hi' hk1 hk2 hm1
      by_cases e2 : i < 0
      · have D3 : decide (i < 0) = true := decide_eq_true e2
        clear h' e2 hl2 hq1 hq2
        go_enter Tryd.func14, Tryd.ntmps14
        go_wp2_with (first | (go_at_call 27; (with_reducible refine (c1.out _).mono ?_); rintro e w9 ⟨rfl, hw9⟩; have hw9 := hw9.symm; subst hw9; clear c1))
        go_ret
        exact ⟨rfl, H0.out⟩
      · have D3 : decide (i < 0) = false := decide_eq_false e2
        by_cases e3 : (q : Int) ≤ i
        · have D4 : decide (((q : Nat) : Int) ≤ i) = true := decide_eq_true e3
          clear h' e2 e3 hl2 hq1 hq2
          go_enter Tryd.func14, Tryd.ntmps14
          go_wp2_with (first | (go_at_call 27; (with_reducible refine (c1.out _).mono ?_); rintro e w9 ⟨rfl, hw9⟩; have hw9 := hw9.symm; subst hw9; clear c1))
          go_ret
          exact ⟨rfl, H0.out⟩
        · have D4 : decide (((q : Nat) : Int) ≤ i) = false := decide_eq_false e3
          by_cases e5 : b < 1
          · have D5 : decide (b < 1) = true := decide_eq_true e5
            clear h' e2 e3 e5 hl2 hq1 hq2
            go_enter Tryd.func14, Tryd.ntmps14
            go_wp2_with (first | (go_at_call 27; (with_reducible refine (c1.out _).mono ?_); rintro e w9 ⟨rfl, hw9⟩; have hw9 := hw9.symm; subst hw9; clear c1))
            go_ret
            exact ⟨rfl, H0.out⟩
          · have D5 : decide (b < 1) = false := decide_eq_false e5
            by_cases e6 : 1048576 < b
            · have D6 : decide (1048576 < b) = true := decide_eq_true e6
              clear h' e2 e3 e5 e6 hl2 hq1 hq2
              go_enter Tryd.func14, Tryd.ntmps14
              go_wp2_with (first | (go_at_call 27; (with_reducible refine (c1.out _).mono ?_); rintro e w9 ⟨rfl, hw9⟩; have hw9 := hw9.symm; subst hw9; clear c1))
              go_ret
              exact ⟨rfl, H0.out⟩
            · have D6 : decide (1048576 < b) = false := decide_eq_false e6
              obtain ⟨z, hz⟩ : ∃ z, Hid (b % 2 = z) := ⟨_, rfl⟩
              have T1 : b.tmod 2 = z := by rw [← hz.out]; exact Int.tmod_eq_emod_of_nonneg (by omega)
              have T2 : b % 2 = z := hz.out
              have W5 : wrap64 z = z := by clear W1; unfold wrap64; omega
              by_cases e7 : f = 2 ∧ z = 1
              · obtain ⟨rfl, rfl⟩ := e7
                have DF : ((2 : Int) == 2) = true := rfl
                have DZ : ((1 : Int) == 1) = true := rfl
                clear h' e2 e3 e5 e6 hl2 hq1 hq2 hz
                go_enter Tryd.func14, Tryd.ntmps14
                go_wp2_with (first | (go_at_call 27; (with_reducible refine (c1.out _).mono ?_); rintro e w9 ⟨rfl, hw9⟩; have hw9 := hw9.symm; subst hw9; clear c1))
                go_ret
                exact ⟨rfl, H0.out⟩
              · have hib : ib25 f b := ⟨by omega, by omega, by
                  by_cases hf : f = 2
                  · right
                    have : z ≠ 1 := fun h9 => e7 ⟨hf, h9⟩
                    omega
                  · exact .inl hf⟩
                obtain ⟨B, rfl⟩ := Int.eq_ofNat_of_zero_le (show 0 ≤ b by omega)
                have c2 : Hid (∀ W, Calls Tryd.prog 28 #[.int .i64 (l : Int), .int .i64 (B : Int)] W fun e w' => e = .returned (.int .i64 ((nb25 l B : Nat) : Int)) ∧ w' = W) := fun W => spans25 l B W (by clear W1 W5; omega) (by clear W1 W5; omega) (by clear W1 W5; omega)
                rw [Int.toNat_natCast] at h'
                obtain ⟨y, hy⟩ : ∃ y, Hid (nb25 l B = y) := ⟨_, rfl⟩
                rw [hy.out] at c2 h'
                have Q1 : (67108864 : Int).tdiv ((q : Nat) : Int) = ((67108864 / q : Nat) : Int) := (Int.ofNat_tdiv 67108864 q).symm
                have Q2 : (67108864 : Int) / ((q : Nat) : Int) = ((67108864 / q : Nat) : Int) := by simp
                have ql : 67108864 / q ≤ 67108864 := Nat.div_le_self _ _
                have hqi := quo_no25 (q := q) (l := l) hq1
                obtain ⟨u, hu⟩ : ∃ u, Hid (67108864 / q = u) := ⟨_, rfl⟩
                rw [hu.out] at Q1 Q2 ql hqi
                have W6 : wrap64 ((u : Nat) : Int) = ((u : Nat) : Int) := by clear W1 W5; unfold wrap64; omega
                have q0 : ¬ ((q : Nat) : Int) = 0 := by clear W1 W5 W6; omega
                have q0N : ¬ q = 0 := by clear W1 W5 W6; omega
                have hnn : 65536 < y ∨ u < l := by
                  clear W1 W5 W6 Q1 Q2
                  rcases Nat.lt_or_ge 65536 y with h9 | h9
                  · exact .inl h9
                  · exact .inr (hqi.2 (Nat.lt_of_not_le (fun h8 => h' ⟨rfl, by omega, by omega, h8, hib, h9⟩)))
                by_cases hf : f = 2
                · subst hf
                  have DF : ((2 : Int) == 2) = true := rfl
                  have DZ : (z == 1) = false := by simpa using fun h9 => e7 ⟨rfl, h9⟩
                  by_cases e8 : 65536 < y
                  · have D8 : decide ((65536 : Int) < ((y : Nat) : Int)) = true := decide_eq_true (by clear W1 W5 W6 Q1 Q2; omega)
                    clear h' e2 e3 e5 e6 hl2 hq1 hq2 hz e7 hib hy ql hqi hu hnn e8
                    go_enter Tryd.func14, Tryd.ntmps14
                    go_wp2_with (first | (go_at_call 27; (with_reducible refine (c1.out _).mono ?_); rintro e w9 ⟨rfl, hw9⟩; have hw9 := hw9.symm; subst hw9; clear c1) | (go_at_call 28; (with_reducible refine (c2.out _).mono ?_); rintro e w9 ⟨rfl, hw9⟩; have hw9 := hw9.symm; subst hw9; clear c2))
                    go_ret
                    exact ⟨rfl, H0.out⟩
                  · have D8 : decide ((65536 : Int) < ((y : Nat) : Int)) = false := decide_eq_false (by clear W1 W5 W6 Q1 Q2; omega)
                    have D9 : decide (((u : Nat) : Int) < ((l : Nat) : Int)) = true := decide_eq_true (by clear W1 W5 W6 Q1 Q2; omega)
                    have D9N : decide (u < l) = true := decide_eq_true (by clear W1 W5 W6 Q1 Q2; omega)
                    clear h' e2 e3 e5 e6 hl2 hq1 hq2 hz e7 hib hy ql hqi hu hnn e8
                    go_enter Tryd.func14, Tryd.ntmps14
                    go_wp2_with (first | (go_at_call 27; (with_reducible refine (c1.out _).mono ?_); rintro e w9 ⟨rfl, hw9⟩; have hw9 := hw9.symm; subst hw9; clear c1) | (go_at_call 28; (with_reducible refine (c2.out _).mono ?_); rintro e w9 ⟨rfl, hw9⟩; have hw9 := hw9.symm; subst hw9; clear c2))
                    go_ret
                    exact ⟨rfl, H0.out⟩
                · have DF : (f == 2) = false := by simpa using hf
                  by_cases e8 : 65536 < y
                  · have D8 : decide ((65536 : Int) < ((y : Nat) : Int)) = true := decide_eq_true (by clear W1 W5 W6 Q1 Q2; omega)
                    clear h' e2 e3 e5 e6 hl2 hq1 hq2 hz e7 hib hy ql hqi hu hnn e8 hf
                    go_enter Tryd.func14, Tryd.ntmps14
                    go_wp2_with (first | (go_at_call 27; (with_reducible refine (c1.out _).mono ?_); rintro e w9 ⟨rfl, hw9⟩; have hw9 := hw9.symm; subst hw9; clear c1) | (go_at_call 28; (with_reducible refine (c2.out _).mono ?_); rintro e w9 ⟨rfl, hw9⟩; have hw9 := hw9.symm; subst hw9; clear c2))
                    go_ret
                    exact ⟨rfl, H0.out⟩
                  · have D8 : decide ((65536 : Int) < ((y : Nat) : Int)) = false := decide_eq_false (by clear W1 W5 W6 Q1 Q2; omega)
                    have D9 : decide (((u : Nat) : Int) < ((l : Nat) : Int)) = true := decide_eq_true (by clear W1 W5 W6 Q1 Q2; omega)
                    have D9N : decide (u < l) = true := decide_eq_true (by clear W1 W5 W6 Q1 Q2; omega)
                    clear h' e2 e3 e5 e6 hl2 hq1 hq2 hz e7 hib hy ql hqi hu hnn e8 hf
                    go_enter Tryd.func14, Tryd.ntmps14
                    go_wp2_with (first | (go_at_call 27; (with_reducible refine (c1.out _).mono ?_); rintro e w9 ⟨rfl, hw9⟩; have hw9 := hw9.symm; subst hw9; clear c1) | (go_at_call 28; (with_reducible refine (c2.out _).mono ?_); rintro e w9 ⟨rfl, hw9⟩; have hw9 := hw9.symm; subst hw9; clear c2))
                    go_ret
                    exact ⟨rfl, H0.out⟩
    · have D1 : (L != ((l : Nat) : Int)) = true := by simpa using e1
      have D2 : (L == ((l : Nat) : Int)) = false := by simpa using e1
      clear h' e1 hk1 hk2 hl2 hm1
      go_enter Tryd.func14, Tryd.ntmps14
      go_wp2_with (first | (go_at_call 27; (with_reducible refine (c1.out _).mono ?_); rintro e w9 ⟨rfl, hw9⟩; have hw9 := hw9.symm; subst hw9; clear c1))
      go_ret
      exact ⟨rfl, H0.out⟩
  · obtain ⟨z, hz⟩ : ∃ z, lne f k m s = z := ⟨_, rfl⟩
    rw [hz] at hl c1
    have D1 : (z != 0) = true := by simpa using hl
    have D2 : (z == 0) = false := by simpa using hl
    generalize lnv f k m s = y at c1
    clear h hz hl
    go_enter Tryd.func14, Tryd.ntmps14
    go_wp2_with (first | (go_at_call 27; (with_reducible refine (c1.out _).mono ?_); rintro e w9 ⟨rfl, hw9⟩; have hw9 := hw9.symm; subst hw9; clear c1))
    go_ret
    exact ⟨rfl, H0.out⟩
set_option maxHeartbeats 8000000 in
set_option maxRecDepth 100000 in
theorem rcheck25_yes (f : Int) (K M I S l B : Nat) (st : Nat) (w : World) (h : Gh25 f K M I S l B) :
    Calls Tryd.prog 14 #[hd25 f K M I S l B st] w fun e w' => e = .returned (.int .i64 0) ∧ Below w.heap.size w w' := by
  have H0 : Hid (Below w.heap.size w (w.alloc (.cells (hc25 f K M I S l B st) 26))) := (Below.refl _ _).alloc (Nat.le_refl _) _
  unfold hd25
  unfold hc25 at H0
  have hv := h.pv
  have hk1 := hv.hk
  have hk2 := hv.sum
  have hm1 := hv.hm
  have c1 : Hid (∀ W, Calls Tryd.prog 27 #[.int .i64 f, .int .i64 (K : Int), .int .i64 (M : Int), .int .i64 (S : Int)] W fun e w' => e = .returned (.tuple #[.int .i64 ((l : Nat) : Int), .int .i64 0]) ∧ w' = W) := fun W => by
    have c := rlength16 f K M S W
    have el : lnv f K M S = ((l : Nat) : Int) := by unfold lnv; rw [if_pos h.lne, h.len]; rfl
    rw [h.lne, el] at c
    exact c
  have D1 : (((l : Nat) : Int) != ((l : Nat) : Int)) = false := by simp
  have D2 : (((l : Nat) : Int) == ((l : Nat) : Int)) = true := by simp
  have W1 : wrap64 (((K : Nat) : Int) + ((M : Nat) : Int)) = ((K + M : Nat) : Int) := by unfold wrap64; omega
  have c2 : Hid (∀ W, Calls Tryd.prog 28 #[.int .i64 (l : Int), .int .i64 (B : Int)] W fun e w' => e = .returned (.int .i64 ((nb25 l B : Nat) : Int)) ∧ w' = W) := fun W => spans25 l B W (by have := h.l2; clear W1; omega) (by have := h.blk.1; clear W1; omega) (by have := h.blk.2.1; clear W1; omega)
  have ht := h.tot
  have hi := h.idx
  have hn := h.cnt
  have hb := h.blk
  obtain ⟨y, hy⟩ : ∃ y, Hid (nb25 l B = y) := ⟨_, rfl⟩
  rw [hy.out] at c2 hn
  have D8 : decide ((65536 : Int) < ((y : Nat) : Int)) = false := decide_eq_false (by clear W1; omega)
  obtain ⟨q, hqq⟩ : ∃ q, Hid (K + M = q) := ⟨_, rfl⟩
  have hq1 : 1 ≤ q := by have := hqq.out; clear W1; omega
  rw [hqq.out] at W1 ht hi
  have D3 : decide (((I : Nat) : Int) < 0) = false := decide_eq_false (by clear W1; omega)
  have D4 : decide (((q : Nat) : Int) ≤ ((I : Nat) : Int)) = false := decide_eq_false (by clear W1; omega)
  have D4N : decide (q ≤ I) = false := decide_eq_false (by clear W1; omega)
  have D5 : decide (((B : Nat) : Int) < 1) = false := decide_eq_false (by have := hb.1; clear W1; omega)
  have D6 : decide ((1048576 : Int) < ((B : Nat) : Int)) = false := decide_eq_false (by have := hb.2.1; clear W1; omega)
  obtain ⟨z, hz⟩ : ∃ z, Hid (((B : Nat) : Int) % 2 = z) := ⟨_, rfl⟩
  have T1 : ((B : Nat) : Int).tmod 2 = z := by rw [← hz.out]; exact Int.tmod_eq_emod_of_nonneg (by clear W1; omega)
  have T2 : ((B : Nat) : Int) % 2 = z := hz.out
  have W5 : wrap64 z = z := by clear W1; unfold wrap64; omega
  have Q1 : (67108864 : Int).tdiv ((q : Nat) : Int) = ((67108864 / q : Nat) : Int) := (Int.ofNat_tdiv 67108864 q).symm
  have Q2 : (67108864 : Int) / ((q : Nat) : Int) = ((67108864 / q : Nat) : Int) := by simp
  have ql : 67108864 / q ≤ 67108864 := Nat.div_le_self _ _
  have hqi := quo_no25 (q := q) (l := l) hq1
  obtain ⟨u, hu⟩ : ∃ u, Hid (67108864 / q = u) := ⟨_, rfl⟩
  rw [hu.out] at Q1 Q2 ql hqi
  have W6 : wrap64 ((u : Nat) : Int) = ((u : Nat) : Int) := by clear W1 W5; unfold wrap64; omega
  have q0 : ¬ ((q : Nat) : Int) = 0 := by clear W1 W5 W6; omega
  have q0N : ¬ q = 0 := by clear W1 W5 W6; omega
  have hul : ¬ u < l := fun h9 => absurd (hqi.1 h9) (by clear W1 W5 W6 Q1 Q2; omega)
  have D9 : decide (((u : Nat) : Int) < ((l : Nat) : Int)) = false := decide_eq_false (by clear W1 W5 W6 Q1 Q2; omega)
  have D9N : decide (u < l) = false := decide_eq_false hul
  by_cases hf : f = 2
  · subst hf
    have DF : ((2 : Int) == 2) = true := rfl
    have DZ : (z == 1) = false := by
      have h1 := hb.2.2
      have h2 := hz.out
      simp
      clear W1 W5 W6 Q1 Q2
      omega
    clear h hv hk1 hk2 hm1 ht hi hn hb hy hqq hq1 hz ql hqi hu hul
    go_enter Tryd.func14, Tryd.ntmps14
    go_wp2_with (first | (go_at_call 27; (with_reducible refine (c1.out _).mono ?_); rintro e w9 ⟨rfl, hw9⟩; have hw9 := hw9.symm; subst hw9; clear c1) | (go_at_call 28; (with_reducible refine (c2.out _).mono ?_); rintro e w9 ⟨rfl, hw9⟩; have hw9 := hw9.symm; subst hw9; clear c2))
    go_ret
    exact ⟨rfl, H0.out⟩
  · have DF : (f == 2) = false := by simpa using hf
    clear h hv hk1 hk2 hm1 ht hi hn hb hy hqq hq1 hz ql hqi hu hul hf
    go_enter Tryd.func14, Tryd.ntmps14
    go_wp2_with (first | (go_at_call 27; (with_reducible refine (c1.out _).mono ?_); rintro e w9 ⟨rfl, hw9⟩; have hw9 := hw9.symm; subst hw9; clear c1) | (go_at_call 28; (with_reducible refine (c2.out _).mono ?_); rintro e w9 ⟨rfl, hw9⟩; have hw9 := hw9.symm; subst hw9; clear c2))
    go_ret
    exact ⟨rfl, H0.out⟩
end Go.Proofs.YtehbiccpbopkfaaDoor
namespace Go.Proofs.YtehbiccpbopkfaaDoor
open Go.ChangeShapes Go.WideShapes Go.ChangeAt Go.RowKit Go.Deep
set_option linter.unusedVariables false

-- layer 25: the script, opened
/-- a step's eleven cells. -/
def cv25 (K f k m i s l b : Int) (st : Nat) (vB : Value) (S : Nat) : Array Value := #[.int .i64 K, .int .i64 f, .int .i64 k, .int .i64 m, .int .i64 i, .int .i64 s, .int .i64 l, .int .i64 b, .int .u64 (st : Int), vB, .int .u32 (S : Int)]
/-- what a step came in with. -/
structure In25 (W : World) (K f k m i s l b : Int) (st : Nat) (vB : Value) (S : Nat) : Prop where
  hK : I64 K
  hf : I64 f
  hk : I64 k
  hm : I64 m
  hi : I64 i
  hs : I64 s
  hl : I64 l
  hb : I64 b
  hst : st < 18446744073709551616
  hS : S < 4294967296
  v : Bm9 W vB
theorem In25.below {W W' : World} {K f k m i s l b : Int} {st : Nat} {vB : Value} {S : Nat} (h : In25 W K f k m i s l b st vB S) (hb : Below W.heap.size W W') : In25 W' K f k m i s l b st vB S :=
  ⟨h.hK, h.hf, h.hk, h.hm, h.hi, h.hs, h.hl, h.hb, h.hst, h.hS, h.v.below hb⟩
set_option maxRecDepth 100000 in
theorem open_head25 {H : Type} {enc : TypeId × Value → H} {W : World} {base : Nat} {spare : Nat → Bool} {held : Bool} {fuel : Nat} {cs : List Value} {x : DataW H × List MemPlace}
    (h : DataW.trod enc Tryd.prog W base spare held fuel 26 cs = some x) :
    ∃ (f k m i s l b : Int) (st : Nat), cs = [.int .i64 f, .int .i64 k, .int .i64 m, .int .i64 i, .int .i64 s, .int .i64 l, .int .i64 b, .int .u64 (st : Int)] ∧ I64 f ∧ I64 k ∧ I64 m ∧ I64 i ∧ I64 s ∧ I64 l ∧ I64 b ∧ st < 18446744073709551616 := by
  have c8 : Tryd.prog.cellsOf 26 = 8 := by kernel_rfl
  have c3 : Tryd.prog.cellsOf 3 = 1 := by kernel_rfl
  have c24 : Tryd.prog.cellsOf 24 = 1 := by kernel_rfl
  obtain ⟨xs, k, hk, hxy, hlen, hxl, hf⟩ := DataW.trod_struct Tryd.underlying26 h
  rw [c8] at hlen
  obtain ⟨y0, y1, y2, y3, y4, y5, y6, y7, hxs⟩ : ∃ y0 y1 y2 y3 y4 y5 y6 y7, xs = [y0, y1, y2, y3, y4, y5, y6, y7] := by
    match xs, hxl with
    | [y0, y1, y2, y3, y4, y5, y6, y7], _ => exact ⟨_, _, _, _, _, _, _, _, rfl⟩
  obtain ⟨v0, v1, v2, v3, v4, v5, v6, v7, hcs'⟩ : ∃ v0 v1 v2 v3 v4 v5 v6 v7, cs = [v0, v1, v2, v3, v4, v5, v6, v7] := by
    match cs, hlen with
    | [v0, v1, v2, v3, v4, v5, v6, v7], _ => exact ⟨_, _, _, _, _, _, _, _, rfl⟩
  subst hxs hcs'
  have g0 := hf 0 _ rfl
  have g1 := hf 1 _ rfl
  have g2 := hf 2 _ rfl
  have g3 := hf 3 _ rfl
  have g4 := hf 4 _ rfl
  have g5 := hf 5 _ rfl
  have g6 := hf 6 _ rfl
  have g7 := hf 7 _ rfl
  simp [c3, c24] at g0 g1 g2 g3 g4 g5 g6 g7
  obtain ⟨k0, e0, -, w0⟩ := DataW.trod_int Tryd.underlying3 g0
  obtain ⟨k1, e1, -, w1⟩ := DataW.trod_int Tryd.underlying3 g1
  obtain ⟨k2, e2, -, w2⟩ := DataW.trod_int Tryd.underlying3 g2
  obtain ⟨k3, e3, -, w3⟩ := DataW.trod_int Tryd.underlying3 g3
  obtain ⟨k4, e4, -, w4⟩ := DataW.trod_int Tryd.underlying3 g4
  obtain ⟨k5, e5, -, w5⟩ := DataW.trod_int Tryd.underlying3 g5
  obtain ⟨k6, e6, -, w6⟩ := DataW.trod_int Tryd.underlying3 g6
  obtain ⟨k7, e7, -, w7⟩ := DataW.trod_int Tryd.underlying24 g7
  simp at e0 e1 e2 e3 e4 e5 e6 e7
  subst e0 e1 e2 e3 e4 e5 e6 e7
  have b7 := bounds_u64 w7
  obtain ⟨st, rfl⟩ : ∃ st : Nat, k7 = (st : Int) := ⟨k7.toNat, by omega⟩
  exact ⟨k0, k1, k2, k3, k4, k5, k6, st, rfl, bounds_i64 w0, bounds_i64 w1, bounds_i64 w2, bounds_i64 w3, bounds_i64 w4, bounds_i64 w5, bounds_i64 w6, by omega⟩
set_option maxRecDepth 100000 in
theorem open_op25 {H : Type} {enc : TypeId × Value → H} {W : World} {base : Nat} {held : Bool} {fuel : Nat} {cs : List Value} {x : DataW H × List MemPlace}
    (h : DataW.trod enc Tryd.prog W base (fun _ => true) held fuel 30 cs = some x) (hsz : ∀ n ∈ x.1.weights Tryd.prog 30, n ≤ reachBytes) :
    ∃ K f k m i s l b st vB S, cs = (cv25 K f k m i s l b st vB S).toList ∧ In25 W K f k m i s l b st vB S := by
  have c11 : Tryd.prog.cellsOf 30 = 11 := by kernel_rfl
  have c8 : Tryd.prog.cellsOf 26 = 8 := by kernel_rfl
  have c3 : Tryd.prog.cellsOf 3 = 1 := by kernel_rfl
  have c22 : Tryd.prog.cellsOf 27 = 1 := by kernel_rfl
  have c28 : Tryd.prog.cellsOf 28 = 1 := by kernel_rfl
  obtain ⟨xs, k, hk, hxy, hlen, hxl, hf⟩ := DataW.trod_struct Tryd.underlying30 h
  rw [c11] at hlen
  have hD : x.1 = .agg (xs.map (·.1)) := congrArg Prod.fst hxy
  rw [hD] at hsz
  simp only [DataW.weights, Tryd.underlying30] at hsz
  obtain ⟨y0, y1, y2, y3, hxs⟩ : ∃ y0 y1 y2 y3, xs = [y0, y1, y2, y3] := by
    match xs, hxl with
    | [y0, y1, y2, y3], _ => exact ⟨_, _, _, _, rfl⟩
  obtain ⟨v0, v1, v2, v3, v4, v5, v6, v7, v8, v9, v10, hcs'⟩ : ∃ v0 v1 v2 v3 v4 v5 v6 v7 v8 v9 v10, cs = [v0, v1, v2, v3, v4, v5, v6, v7, v8, v9, v10] := by
    match cs, hlen with
    | [v0, v1, v2, v3, v4, v5, v6, v7, v8, v9, v10], _ => exact ⟨_, _, _, _, _, _, _, _, _, _, _, rfl⟩
  subst hxs hcs'
  have g0 := hf 0 _ rfl
  have g1 := hf 1 _ rfl
  have g2 := hf 2 _ rfl
  have g3 := hf 3 _ rfl
  simp [c3, c8, c22, c28] at g0 g1 g2 g3
  obtain ⟨k0, e0, -, w0⟩ := DataW.trod_int Tryd.underlying3 g0
  obtain ⟨f, k, m, i, s, l, b, st, e1, i0, i1, i2, i3, i4, i5, i6, i7⟩ := open_head25 g1
  have b2 := open_bytes9 g2 (fun n hn => hsz n (DataW.weights_mem_each (j := 2) rfl rfl n hn))
  obtain ⟨k3, e3, -, w3⟩ := DataW.trod_int Tryd.underlying28 g3
  simp at e0 e1 e3
  obtain ⟨rfl, rfl, rfl, rfl, rfl, rfl, rfl, rfl⟩ := e1
  subst e0 e3
  have b3 := bounds_u32 w3
  obtain ⟨S, rfl⟩ : ∃ S : Nat, k3 = (S : Int) := ⟨k3.toNat, by omega⟩
  exact ⟨k0, f, k, m, i, s, l, b, st, v9, S, rfl, bounds_i64 w0, i0, i1, i2, i3, i4, i5, i6, i7, by omega, b2⟩
/-- a script that came in. -/
def IsOps25 (w : World) (a : Option Addr) (len cap : Nat) : Prop :=
  len ≤ maxLen ∧ (len = 0 ∨ ∃ b off, a = some ⟨b, off, none⟩ ∧ len ≤ cap ∧ cap ≤ maxLen ∧ b < w.heap.size ∧ ∀ t, t < len → ∃ K f k m i s l bb st vB S, (∀ z u, (cv25 K f k m i s l bb st vB S)[z]? = some u → w.cell? ⟨b, off + t * 11 + z, none⟩ = some u) ∧ In25 w K f k m i s l bb st vB S)
theorem IsOps25.below {w w' : World} {a : Option Addr} {len cap : Nat} (h : IsOps25 w a len cap) (hb : Below w.heap.size w w') : IsOps25 w' a len cap := by
  obtain ⟨h1, h2⟩ := h
  refine ⟨h1, ?_⟩
  rcases h2 with h2 | ⟨b, off, e, h3, h4, h5, h6⟩
  · exact .inl h2
  · refine .inr ⟨b, off, e, h3, h4, Nat.lt_of_lt_of_le h5 hb.size, fun t ht => ?_⟩
    obtain ⟨K, f, k, m, i, s, l, bb, st, vB, S, z, hI⟩ := h6 t ht
    exact ⟨K, f, k, m, i, s, l, bb, st, vB, S, fun y u hu => (hb.cell (p := ⟨b, off + t * 11 + y, none⟩) h5).trans (z y u hu), hI.below hb⟩
set_option maxHeartbeats 2000000 in
set_option maxRecDepth 100000 in
theorem open_ops25 {H : Type} {enc : TypeId × Value → H} {W : World} {base : Nat} {held : Bool} {fuel : Nat} {a : Option Addr} {len cap : Nat} {x : DataW H × List MemPlace}
    (h : DataW.trod enc Tryd.prog W base (fun _ => true) held fuel 23 [.slice a len cap] = some x) (hsz : ∀ n ∈ x.1.weights Tryd.prog 23, n ≤ reachBytes) : IsOps25 W a len cap := by
  rcases open_slice Tryd.underlying23 h with ⟨hcs, _⟩ | ⟨a', len', cap', m, n, D, Pl, hcs, hb, hl, hm, hmm, hxe, hx⟩
  · simp at hcs
    obtain ⟨rfl, rfl, rfl⟩ := hcs
    exact ⟨by unfold maxLen; omega, .inl rfl⟩
  · simp at hcs
    obtain ⟨rfl, rfl, rfl⟩ := hcs
    refine ⟨by omega, ?_⟩
    have hlm : len ≤ m := by rw [hmm]; split <;> omega
    have c11 : Tryd.prog.cellsOf 30 = 11 := by kernel_rfl
    have each : ∀ t, t < len → ∃ K f k m i s l bb st vB S, (∀ z u, (cv25 K f k m i s l bb st vB S)[z]? = some u → W.cell? ((a'.add (t * 11)).add z) = some u) ∧ In25 W K f k m i s l bb st vB S := by
      intro t ht
      obtain ⟨cs', h1, h2⟩ := hx t (by omega)
      rw [c11] at h1
      obtain ⟨_, hlen, hcell⟩ := World.cells?_some h1
      have mD : D t ∈ (List.range len).map D := List.mem_map.2 ⟨t, List.mem_range.2 ht, rfl⟩
      have wts : ∀ n ∈ (D t).weights Tryd.prog 30, n ≤ reachBytes := fun n hn => hsz n (by
        rw [hxe]
        simp only [DataW.weights, Tryd.underlying23]
        exact List.mem_cons_of_mem _ (List.mem_append.2 (.inl (weightsAll_mem9 hn mD))))
      obtain ⟨K, f, k, m, i, s, l, bb, st, vB, S, e, hI⟩ := open_op25 h2 wts
      refine ⟨K, f, k, m, i, s, l, bb, st, vB, S, fun z u hv => ?_, hI⟩
      have hz : z < 11 := by
        have := (Array.getElem?_eq_some_iff.1 hv).1
        simpa [cv25] using this
      have y := hcell z (by omega)
      rw [y, e]
      simpa using hv
    by_cases h0 : len = 0
    · exact .inl h0
    · right
      obtain ⟨b, off, spot⟩ := a'
      have hspot : spot = none := by
        obtain ⟨K, f, k, m, i, s, l, bb, st, vB, S, z, -⟩ := each 0 (by omega)
        have z0 := z 0 _ rfl
        simpa [Addr.add] using World.cell?_spot z0
      subst hspot
      refine ⟨b, off, rfl, hl, hm, ?_, ?_⟩
      · obtain ⟨K, f, k, m, i, s, l, bb, st, vB, S, z, -⟩ := each 0 (by omega)
        have := cell_lt5 (z 0 _ rfl)
        simpa [Addr.add] using this
      · intro t ht
        obtain ⟨K, f, k, m, i, s, l, bb, st, vB, S, z, hI⟩ := each t ht
        refine ⟨K, f, k, m, i, s, l, bb, st, vB, S, fun y u hu => ?_, hI⟩
        have := z y u hu
        simpa only [add_plain] using this
end Go.Proofs.YtehbiccpbopkfaaDoor
