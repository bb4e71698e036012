import Derived.Test.YtehbiccpbopkfaaDoorFnai
import Derived.Test.YtehbiccpbopkfaaDoorFnaj
namespace Go.Proofs.YtehbiccpbopkfaaDoor
open Go.RowKit Gf2
set_option linter.unusedVariables false

-- layer 25: which heads are good
/-- a good head. -/
structure Gh25 (f : Int) (k m i s l b : Nat) : Prop where
  par : prm f k m = 0
  s1 : 1 ≤ s
  s2 : s ≤ 1099511627776
  len : l = ln16 f k s
  idx : i < k + m
  tot : (k + m) * l ≤ 67108864
  blk : ib25 f b
  cnt : nb25 l b ≤ 65536
theorem Gh25.pv {f : Int} {k m i s l b : Nat} (h : Gh25 f k m i s l b) : Pv f k m := prm_ok.1 h.par
theorem Gh25.l2 {f : Int} {k m i s l b : Nat} (h : Gh25 f k m i s l b) : l ≤ 67108864 := by
  have h1 := h.tot
  have h2 := h.pv.hk
  have h3 : 1 * l ≤ (k + m) * l := Nat.mul_le_mul (by omega) (Nat.le_refl _)
  omega
theorem i64_nat25 {n : Nat} (h : n ≤ 65536) : I64 (n : Int) := ⟨by omega, by omega⟩
set_option maxHeartbeats 8000000 in
set_option maxRecDepth 100000 in
theorem check25_yes (f : Int) (K M I S l B : Nat) (st : Nat) (w : World) (h : Gh25 f K M I S l B) :
    Calls Tryd.prog 12 #[hd25 f K M I S l B st] w fun e w' => e = .returned (.int .i64 0) ∧ Below w.heap.size w w' := by
  have B0 : Bh25 w _ f K M I S l B st := Bh25.new
  have H0 : Hid (Below w.heap.size w (w.alloc (.cells (hc25 f K M I S l B st) 38))) := B0.bel
  unfold hd25
  unfold hc25 at B0 H0
  have hv := h.pv
  have hk1 := hv.hk
  have hk2 := hv.sum
  have c1 : Hid (∀ W, Calls Tryd.prog 25 #[.int .i64 f, .int .i64 (K : Int), .int .i64 (M : Int), .int .i64 (S : Int)] W fun e w' => e = .returned (.tuple #[.int .i64 ((l : Nat) : Int), .int .i64 0]) ∧ w' = W) := fun W => by
    rw [h.len]
    exact length16_yes f M K S W (i64_nat25 (by have := hv.hm; omega)) h.par h.s1 h.s2
  have D1 : (((l : Nat) : Int) != ((l : Nat) : Int)) = false := by simp
  have D2 : (((l : Nat) : Int) == ((l : Nat) : Int)) = true := by simp
  have W1 : wrap64 (((K : Nat) : Int) + ((M : Nat) : Int)) = ((K + M : Nat) : Int) := by have := hv.hm; unfold wrap64; omega
  have c2 : Hid (∀ W, Calls Tryd.prog 26 #[.int .i64 f, .int .i64 (B : Int)] W fun e w' => e = .returned (.bool true) ∧ w' = W) := fun W => isBlock25 f B true W (by simp [h.blk])
  have c3 : Hid (∀ W, Calls Tryd.prog 20 #[hd25 f K M I S (l : Int) (B : Int) st] W fun e w' => e = .returned (.int .i64 ((nb25 l B : Nat) : Int)) ∧ Below W.heap.size W w') := fun W => blocksOf25 f K M I S l B st W (by have := h.l2; omega) (by have := h.blk.1; omega) (by have := h.blk.2.1; omega)
  unfold hd25 at c3
  have ht := h.tot
  have hi := h.idx
  have hn := h.cnt
  obtain ⟨y, hy⟩ : ∃ y, Hid (nb25 l B = y) := ⟨_, rfl⟩
  rw [hy.out] at c3 hn
  have D6 : decide ((65536 : Int) < ((y : Nat) : Int)) = false := decide_eq_false (by omega)
  obtain ⟨q, hqq⟩ : ∃ q, Hid (K + M = q) := ⟨_, rfl⟩
  rw [hqq.out] at W1 ht hi
  obtain ⟨p, hp⟩ : ∃ p, Hid (q * l = p) := ⟨_, rfl⟩
  have P1 : ((q : Nat) : Int) * ((l : Nat) : Int) = ((p : Nat) : Int) := by rw [← hp.out]; simp
  rw [hp.out] at ht
  have W2 : wrap64 (((q : Nat) : Int) * ((l : Nat) : Int)) = ((p : Nat) : Int) := by rw [P1]; clear W1 P1; unfold wrap64; omega
  have D3 : decide (((I : Nat) : Int) < 0) = false := decide_eq_false (by omega)
  have D4 : decide (((q : Nat) : Int) ≤ ((I : Nat) : Int)) = false := decide_eq_false (by omega)
  have D4N : decide (q ≤ I) = false := decide_eq_false (by omega)
  have D5 : decide ((67108864 : Int) < ((p : Nat) : Int)) = false := decide_eq_false (by omega)
  clear h hv hk1 hk2 ht hi hn hy hqq hp P1
  go_enter Tryd.func12, Tryd.ntmps12
  go_wp2_with (first | (go_at_call 25; (with_reducible refine (c1.out _).mono ?_); rintro e w9 ⟨rfl, hw9⟩; have hw9 := hw9.symm; subst hw9; clear c1) | (go_at_call 26; (with_reducible refine (c2.out _).mono ?_); rintro e w9 ⟨rfl, hw9⟩; have hw9 := hw9.symm; subst hw9; clear c2) | (go_at_call 20; (with_reducible refine (c3.out _).mono ?_); rintro e w9 ⟨rfl, hw9⟩; clear c3))
  go_ret
  exact ⟨rfl, (B0.below hw9).bel⟩
end Go.Proofs.YtehbiccpbopkfaaDoor
