import Derived.Test.YtidcdbjhkgpjcaaDoorLta
namespace Go.Proofs.YtidcdbjhkgpjcaaDoor
open Go.RowKit Gf2
set_option linter.unusedVariables false

/-- c blocks of one level, there. -/
def tob (i : Nat) : Nat → (Nat → Nat) → Nat → Nat
  | 0, F => F
  | c + 1, F => mlp (c * (2 * 2 ^ i)) i (2 ^ i) (tob i c F)
/-- the first i levels, there. -/
def tol (n : Nat) : Nat → (Nat → Nat) → Nat → Nat
  | 0, F => F
  | i + 1, F => tob i (n / (2 * 2 ^ i)) (tol n i F)
/-- c blocks of one level, back. -/
def fob (i : Nat) : Nat → (Nat → Nat) → Nat → Nat
  | 0, F => F
  | c + 1, F => dvp (c * (2 * 2 ^ i)) i (2 ^ i) (2 ^ i) (fob i c F)
/-- c levels from the top, back. -/
def fol (n k : Nat) : Nat → (Nat → Nat) → Nat → Nat
  | 0, F => F
  | c + 1, F => fob (k - 1 - c) (n / (2 * 2 ^ (k - 1 - c))) (fol n k c F)
theorem blocks {n k i : Nat} (hn : n = 2 ^ k) (hi : i < k) : n / (2 * 2 ^ i) * (2 * 2 ^ i) = n ∧ 0 < n / (2 * 2 ^ i) := by
  obtain ⟨d, rfl⟩ : ∃ d, k = i + 1 + d := ⟨k - (i + 1), by omega⟩
  have e : n = 2 ^ d * (2 * 2 ^ i) := by rw [hn, Nat.pow_add, Nat.pow_succ, Nat.mul_comm, Nat.mul_comm (2 ^ i) 2]
  have hp : 0 < 2 * 2 ^ i := by have := Nat.two_pow_pos i; omega
  rw [e, Nat.mul_div_cancel _ hp]
  exact ⟨rfl, Nat.two_pow_pos d⟩
theorem two_cast {i D : Nat} (h : D = 2 * 2 ^ i) (hD : D ≤ 65536) : wrap64 (2 * 2 ^ i) = (D : Int) := by
  have e : (2 * (2 : Int) ^ i) = ((2 * 2 ^ i : Nat) : Int) := by simp
  rw [e, ← h]; unfold wrap64; omega
theorem blk_nums {c C D n X Y : Nat} (hC : C * D = n) (hc : c < C) (hX : X = c * D) (hY : Y = X + D) (hD : 0 < D) (hn : n ≤ 65536) : X < Y ∧ Y ≤ n ∧ Y ≤ 131072 ∧ X < n ∧ Y = (c + 1) * D ∧ Y - X = D := by
  have h1 : (c + 1) * D ≤ C * D := Nat.mul_le_mul_right _ hc
  have h2 : (c + 1) * D = c * D + D := by rw [Nat.add_mul, Nat.one_mul]
  omega
theorem meas_up13 {n a b : Nat} (h : a < b) (hb : b ≤ n) : n - (intOf (Value.int .i64 (b : Int))).toNat < n - (intOf (Value.int .i64 (a : Int))).toNat := by simp [intOf]; omega
theorem meas_dn13 (i : Nat) : (intOf (Value.int .i64 ((i : Int) - 1)) + 1).toNat < (intOf (Value.int .i64 (i : Int)) + 1).toNat := by simp [intOf]
theorem wrap_dn13 {i : Nat} (h : i ≤ 8) : wrap64 ((i : Int) - 1) = (i : Int) - 1 := by unfold wrap64; omega
theorem step_sum13 {c i k : Nat} (h : c + (i + 1) = k) : c + 1 + i = k := by omega
theorem dn_eq13 {v : Int} {i : Nat} (h : v + 1 = ((i + 1 : Nat) : Int)) : v = (i : Int) := by omega
theorem dn_zero13 {v : Int} (h : v + 1 = ((0 : Nat) : Int)) : v = -1 := by omega
theorem lvl13 {c i k : Nat} (h : c + (i + 1) = k) : k - 1 - c = i ∧ i < k := by omega
theorem pow_le256 {k : Nat} (h : 2 ^ k ≤ 256) : k ≤ 8 := by
  apply Decidable.byContradiction
  intro hk
  have : 2 ^ 9 ≤ 2 ^ k := Nat.pow_le_pow_right (by decide) (by omega)
  omega
set_option maxHeartbeats 4000000 in
set_option maxRecDepth 100000 in
theorem tomono13_yes (v : Value) (k n : Nat) (F : Nat → Nat) (hn : n = 2 ^ k) (hk : n ≤ 256) (w : World) (h : Q6 w v n F) (hT : Tzt w) :
    Calls Tryd.prog 37 #[v] w fun e w' => e = .returned (.tuple #[.slice (some ⟨w.heap.size, 0, none⟩) n n, .int .i64 0]) ∧ R6 w' w.heap.size n (tol n k F) ∧ Below w.heap.size w w' := by
  have c1 : Calls Tryd.prog 27 #[.int .i64 (n : Int), .int .i64 256] w fun e w' => e = .returned (.bool true) ∧ w' = w := isPower_yes k n 256 hn hk (by decide) w
  have hk8 : k ≤ 8 := pow_le256 (hn ▸ hk)
  have c2 : Calls Tryd.prog 47 #[v] w fun e w1 => e = .returned (.slice (some ⟨w.heap.size, 0, none⟩) n n) ∧
      Calls Tryd.prog 28 #[.slice (some ⟨w.heap.size, 0, none⟩) n n] w1 (fun e w' => e = .returned (.int .i64 k) ∧ w' = w1) ∧ Hid (R6 w1 w.heap.size n F ∧ Below w.heap.size w w1) :=
    (copied13_any v n F w h (by omega)).mono fun e w1 ⟨he, h1, h2⟩ => ⟨he, levels13 k n (by omega) hn _ _ w1 (hT.below h2), h1, h2⟩
  obtain ⟨hb0, hF, a, cap, rfl, hc1, hc2, h4⟩ := h
  have HN : Hid (n = 2 ^ k ∧ n ≤ 65536 ∧ k ≤ 8 ∧ k ≤ 8 ∧ k ≤ 8 ∧ n ≤ 256) := ⟨hn, by omega, hk8, hk8, hk8, hk⟩
  
  clear hb0 hF hc1 hc2 h4 hn hk hT hk8
  go_enter Tryd.func37, Tryd.ntmps37
  go_wp2_with (first | (go_at_call 27; ((with_reducible refine (c1).mono ?_); (rintro e w9 ⟨rfl, hw9⟩; have hw9 := hw9.symm; subst hw9))) | (go_at_call 47; ((with_reducible refine (c2).mono ?_); (rintro e w1 ⟨rfl, c3, HS⟩))) | (go_at_call 28; ((with_reducible refine (c3).mono ?_); (rintro e w8 ⟨rfl, hw8⟩; have hw8 := hw8.symm; subst hw8))))
  clear c1 c2 c3
  go_loopw [15] (fun iv wr => ∃ i : Nat, i ≤ k ∧ iv = .int .i64 i ∧ R6 wr w.heap.size n (tol n i F) ∧ Below w.heap.size w wr) (fun iv _ => k - (intOf iv).toNat)
  case atStart => exact ⟨0, Nat.zero_le _, rfl, HS.out.1, HS.out.2⟩
  case round =>
    obtain ⟨i, hi, rfl, hr, hb⟩ := hrel
    by_cases hlt9 : i < k
    · obtain ⟨G, hG⟩ : ∃ G, G = tol n i F := ⟨_, rfl⟩
      rw [← hG] at hr
      have HG : Hid (G = tol n i F) := hG
      obtain ⟨C, hC⟩ : ∃ C, C = n / (2 * 2 ^ i) := ⟨_, rfl⟩
      obtain ⟨D, hD⟩ : ∃ D, D = 2 * 2 ^ i := ⟨_, rfl⟩
      have hbl := blocks HN.out.1 hlt9
      rw [← hD] at hC
      rw [← hD, ← hC] at hbl
      have hD0 : 0 < D := by rw [hD]; have := Nat.two_pow_pos i; omega
      have hD2 : D ≤ n := by rw [← hbl.1]; exact Nat.le_mul_of_pos_left D hbl.2
      have HD : Hid (D = 2 * 2 ^ i ∧ C * D = n ∧ C = n / (2 * 2 ^ i) ∧ 0 < D) := ⟨hD, hbl.1, by rw [← hD]; exact hC, hD0⟩
      have E1 := two_cast hD (Nat.le_trans hD2 HN.out.2.1)
      have HR : Hid (R6 wr w.heap.size n G ∧ Below w.heap.size w wr) := ⟨hr, hb⟩
      have M : min i 64 = i := Nat.min_eq_left (Nat.le_trans (Nat.le_of_lt hlt9) (Nat.le_trans HN.out.2.2.1 (by decide)))
      clear hr hb hC hD hbl hD0 hD2 hG
      have ib : ((i : Nat) : Int) < (k : Int) := Int.ofNat_lt.2 hlt9
      have W1 := wrap_succ8 (j := i) (Nat.lt_of_lt_of_le hlt9 (Nat.le_trans HN.out.2.2.1 (by decide)))
      go_wp2
      go_loopw [6] (fun fv wq => ∃ c : Nat, c ≤ C ∧ fv = .int .i64 ((c * D : Nat) : Int) ∧ R6 wq w.heap.size n (tob i c G) ∧ Below w.heap.size w wq) (fun fv _ => n - (intOf fv).toNat)
      case atStart => exact ⟨0, Nat.zero_le _, by rw [Nat.zero_mul]; rfl, HR.out.1, HR.out.2⟩
      case round =>
        obtain ⟨c, hc, rfl, hr, hb⟩ := hrel
        obtain ⟨k1, k2, k3, k4, k5, k6⟩ := HN.out
        obtain ⟨d1, d2, d3, d4⟩ := HD.out
        by_cases hct : c < C
        · obtain ⟨X, hX⟩ : ∃ X, X = c * D := ⟨_, rfl⟩
          obtain ⟨Y, hY⟩ : ∃ Y, Y = X + D := ⟨_, rfl⟩
          obtain ⟨m1, m2, m3, m4, m5, m6⟩ := blk_nums d2 hct hX hY d4 k2
          have hcut := fun W => cut6 w.heap.size 0 n n X Y m1 m2 (Nat.le_refl _) W
          rw [m6, Nat.zero_add] at hcut
          have W2 := wrap_add_eq hY m3
          have xb : (X : Int) < (n : Int) := Int.ofNat_lt.2 m4
          have c4 := multiply13 w.heap.size n X i (2 ^ i) D (n - X) (tob i c G) wr (Nat.le_of_lt_succ (Nat.lt_trans hlt9 (Nat.lt_succ_of_le (Nat.le_trans k3 (by decide))))) rfl d1 (by rw [← hY]; exact m2) hr
          have HV0 : Hid (∀ w9, R6 w9 w.heap.size n (mlp X i (2 ^ i) (tob i c G)) → Only w.heap.size wr w9 → R6 w9 w.heap.size n (tob i (c + 1) G) ∧ Below w.heap.size w w9) := fun w9 h1 h2 => ⟨by rw [tob, ← d1, ← hX]; exact h1, hb.trans (h2.below (Nat.le_refl _))⟩
          have HM : Hid (Y = (c + 1) * D ∧ X < Y ∧ Y ≤ n) := ⟨m5, m1, m2⟩
          rw [← hX]
          clear hr hb k1 k2 k3 k4 k5 k6 d1 d2 d3 d4 m1 m2 m3 m4 m5 m6 hX hY
          go_wp2_with (go_at_call 48; ((with_reducible refine (c4).mono ?_); (rintro e w9 ⟨rfl, hr9, ho9⟩; have HV := HV0.out w9 hr9 ho9; clear hr9 ho9)))
          have HV1 : Hid (R6 w9 w.heap.size n (tob i (c + 1) G) ∧ Below w.heap.size w w9) := HV
          clear HV HV0
          go_roundw
          case rel => exact ⟨c + 1, hct, by first | (rw [← HM.out.1]; rfl) | (rw [W2, ← HM.out.1]), HV1.out.1, HV1.out.2⟩
          case measure => first | exact meas_up13 HM.out.2.1 HM.out.2.2 | (rw [W2]; exact meas_up13 HM.out.2.1 HM.out.2.2)
        · have hcC : c = C := Nat.le_antisymm hc (Nat.le_of_not_lt hct)
          subst hcC
          rw [d2]
          have HV : Hid (R6 wr w.heap.size n (tol n (i + 1) F) ∧ Below w.heap.size w wr) := ⟨by rw [tol, ← d3, ← HG.out]; exact hr, hb⟩
          clear hr hb k1 k2 k3 k4 k5 k6 d1 d2 d3 d4
          go_wp2
          go_roundw
          case rel => exact ⟨i + 1, hlt9, by first | rfl | (rw [W1]; rfl), HV.out.1, HV.out.2⟩
          case measure => first | exact meas_lt8 hlt9 | (rw [W1]; exact meas_lt8 hlt9)
    · have hik : i = k := Nat.le_antisymm hi (Nat.le_of_not_lt hlt9)
      subst hik
      have HV : Hid (R6 wr w.heap.size n (tol n i F) ∧ Below w.heap.size w wr) := ⟨hr, hb⟩
      clear hr hb
      go_wp2
      go_ret2
      exact ⟨rfl, HV.out⟩
set_option maxHeartbeats 4000000 in
set_option maxRecDepth 100000 in
theorem tomono13_no (v : Value) (n : Nat) (F : Nat → Nat) (w : World) (h : Q6 w v n F) (hn : ¬ pw2 n 256) :
    Calls Tryd.prog 37 #[v] w fun e w' => e = .returned (.tuple #[.slice none 0 0, .int .i64 130]) ∧ w' = w := by
  obtain ⟨hb0, hF, a, cap, rfl, hc1, hc2, h4⟩ := h
  have c1 : Calls Tryd.prog 27 #[.int .i64 (n : Int), .int .i64 256] w fun e w' => e = .returned (.bool false) ∧ w' = w := isPower_no n 256 hn (by decide) hb0 w
  clear hb0 hF hc1 hc2 h4 hn
  go_enter Tryd.func37, Tryd.ntmps37
  go_wp2_with (go_at_call 27; ((with_reducible refine (c1).mono ?_); rintro e w' ⟨rfl, rfl⟩))
  go_ret2
  exact ⟨rfl, rfl⟩
set_option maxHeartbeats 4000000 in
set_option maxRecDepth 100000 in
theorem frommono13_yes (v : Value) (k n : Nat) (F : Nat → Nat) (hn : n = 2 ^ k) (hk : n ≤ 256) (w : World) (h : Q6 w v n F) (hT : Tzt w) :
    Calls Tryd.prog 38 #[v] w fun e w' => e = .returned (.tuple #[.slice (some ⟨w.heap.size, 0, none⟩) n n, .int .i64 0]) ∧ R6 w' w.heap.size n (fol n k k F) ∧ Below w.heap.size w w' := by
  have c1 : Calls Tryd.prog 27 #[.int .i64 (n : Int), .int .i64 256] w fun e w' => e = .returned (.bool true) ∧ w' = w := isPower_yes k n 256 hn hk (by decide) w
  have hk8 : k ≤ 8 := pow_le256 (hn ▸ hk)
  have c2 : Calls Tryd.prog 47 #[v] w fun e w1 => e = .returned (.slice (some ⟨w.heap.size, 0, none⟩) n n) ∧
      Calls Tryd.prog 28 #[.slice (some ⟨w.heap.size, 0, none⟩) n n] w1 (fun e w' => e = .returned (.int .i64 k) ∧ w' = w1) ∧ Hid (R6 w1 w.heap.size n F ∧ Below w.heap.size w w1) :=
    (copied13_any v n F w h (by omega)).mono fun e w1 ⟨he, h1, h2⟩ => ⟨he, levels13 k n (by omega) hn _ _ w1 (hT.below h2), h1, h2⟩
  obtain ⟨hb0, hF, a, cap, rfl, hc1, hc2, h4⟩ := h
  have HN : Hid (n = 2 ^ k ∧ n ≤ 65536 ∧ k ≤ 8 ∧ k ≤ 8 ∧ k ≤ 8 ∧ n ≤ 256) := ⟨hn, by omega, hk8, hk8, hk8, hk⟩
  have W0 : wrap64 ((k : Int) - 1) = (k : Int) - 1 := by unfold wrap64; omega
  clear hb0 hF hc1 hc2 h4 hn hk hT hk8
  go_enter Tryd.func38, Tryd.ntmps38
  go_wp2_with (first | (go_at_call 27; ((with_reducible refine (c1).mono ?_); (rintro e w9 ⟨rfl, hw9⟩; have hw9 := hw9.symm; subst hw9))) | (go_at_call 47; ((with_reducible refine (c2).mono ?_); (rintro e w1 ⟨rfl, c3, HS⟩))) | (go_at_call 28; ((with_reducible refine (c3).mono ?_); (rintro e w8 ⟨rfl, hw8⟩; have hw8 := hw8.symm; subst hw8))))
  clear c1 c2 c3
  rw [W0]
  go_loopw [5] (fun iv wr => ∃ (c I : Nat) (v : Int), c + I = k ∧ v + 1 = (I : Int) ∧ iv = .int .i64 v ∧ R6 wr w.heap.size n (fol n k c F) ∧ Below w.heap.size w wr) (fun iv _ => (intOf iv + 1).toNat)
  case atStart => exact ⟨0, k, (k : Int) - 1, Nat.zero_add _, by omega, rfl, HS.out.1, HS.out.2⟩
  case round =>
    obtain ⟨c0, I, v, hcI, hv, rfl, hr, hb⟩ := hrel
    cases I with
    | succ i =>
      obtain rfl : v = (i : Int) := dn_eq13 hv
      obtain ⟨ei, hlt9⟩ := lvl13 hcI
      obtain ⟨G, hG⟩ : ∃ G, G = fol n k c0 F := ⟨_, rfl⟩
      rw [← hG] at hr
      have HG : Hid (G = fol n k c0 F ∧ k - 1 - c0 = i) := ⟨hG, ei⟩
      clear ei hv
      obtain ⟨C, hC⟩ : ∃ C, C = n / (2 * 2 ^ i) := ⟨_, rfl⟩
      obtain ⟨D, hD⟩ : ∃ D, D = 2 * 2 ^ i := ⟨_, rfl⟩
      have hbl := blocks HN.out.1 hlt9
      rw [← hD] at hC
      rw [← hD, ← hC] at hbl
      have hD0 : 0 < D := by rw [hD]; have := Nat.two_pow_pos i; omega
      have hD2 : D ≤ n := by rw [← hbl.1]; exact Nat.le_mul_of_pos_left D hbl.2
      have HD : Hid (D = 2 * 2 ^ i ∧ C * D = n ∧ C = n / (2 * 2 ^ i) ∧ 0 < D) := ⟨hD, hbl.1, by rw [← hD]; exact hC, hD0⟩
      have E1 := two_cast hD (Nat.le_trans hD2 HN.out.2.1)
      have HR : Hid (R6 wr w.heap.size n G ∧ Below w.heap.size w wr) := ⟨hr, hb⟩
      have M : min i 64 = i := Nat.min_eq_left (Nat.le_trans (Nat.le_of_lt hlt9) (Nat.le_trans HN.out.2.2.1 (by decide)))
      clear hr hb hC hD hbl hD0 hD2 hG
      have W1 : wrap64 ((i : Int) - 1) = (i : Int) - 1 := wrap_dn13 (Nat.le_trans (Nat.le_of_lt hlt9) HN.out.2.2.1)
      go_wp2
      go_loopw [6] (fun fv wq => ∃ c : Nat, c ≤ C ∧ fv = .int .i64 ((c * D : Nat) : Int) ∧ R6 wq w.heap.size n (fob i c G) ∧ Below w.heap.size w wq) (fun fv _ => n - (intOf fv).toNat)
      case atStart => exact ⟨0, Nat.zero_le _, by rw [Nat.zero_mul]; rfl, HR.out.1, HR.out.2⟩
      case round =>
        obtain ⟨c, hc, rfl, hr, hb⟩ := hrel
        obtain ⟨k1, k2, k3, k4, k5, k6⟩ := HN.out
        obtain ⟨d1, d2, d3, d4⟩ := HD.out
        by_cases hct : c < C
        · obtain ⟨X, hX⟩ : ∃ X, X = c * D := ⟨_, rfl⟩
          obtain ⟨Y, hY⟩ : ∃ Y, Y = X + D := ⟨_, rfl⟩
          obtain ⟨m1, m2, m3, m4, m5, m6⟩ := blk_nums d2 hct hX hY d4 k2
          have hcut := fun W => cut6 w.heap.size 0 n n X Y m1 m2 (Nat.le_refl _) W
          rw [m6, Nat.zero_add] at hcut
          have W2 := wrap_add_eq hY m3
          have xb : (X : Int) < (n : Int) := Int.ofNat_lt.2 m4
          have c4 := divide13 w.heap.size n X i (2 ^ i) D (n - X) (fob i c G) wr (Nat.le_of_lt_succ (Nat.lt_trans hlt9 (Nat.lt_succ_of_le (Nat.le_trans k3 (by decide))))) rfl d1 (by rw [← hY]; exact m2) hr
          have HV0 : Hid (∀ w9, R6 w9 w.heap.size n (dvp X i (2 ^ i) (2 ^ i) (fob i c G)) → Only w.heap.size wr w9 → R6 w9 w.heap.size n (fob i (c + 1) G) ∧ Below w.heap.size w w9) := fun w9 h1 h2 => ⟨by rw [fob, ← d1, ← hX]; exact h1, hb.trans (h2.below (Nat.le_refl _))⟩
          have HM : Hid (Y = (c + 1) * D ∧ X < Y ∧ Y ≤ n) := ⟨m5, m1, m2⟩
          rw [← hX]
          clear hr hb k1 k2 k3 k4 k5 k6 d1 d2 d3 d4 m1 m2 m3 m4 m5 m6 hX hY
          go_wp2_with (go_at_call 49; ((with_reducible refine (c4).mono ?_); (rintro e w9 ⟨rfl, hr9, ho9⟩; have HV := HV0.out w9 hr9 ho9; clear hr9 ho9)))
          have HV1 : Hid (R6 w9 w.heap.size n (fob i (c + 1) G) ∧ Below w.heap.size w w9) := HV
          clear HV HV0
          go_roundw
          case rel => exact ⟨c + 1, hct, by first | (rw [← HM.out.1]; rfl) | (rw [W2, ← HM.out.1]), HV1.out.1, HV1.out.2⟩
          case measure => first | exact meas_up13 HM.out.2.1 HM.out.2.2 | (rw [W2]; exact meas_up13 HM.out.2.1 HM.out.2.2)
        · have hcC : c = C := Nat.le_antisymm hc (Nat.le_of_not_lt hct)
          subst hcC
          rw [d2]
          have HV : Hid (R6 wr w.heap.size n (fol n k (c0 + 1) F) ∧ Below w.heap.size w wr) := ⟨by rw [fol, HG.out.2, ← d3, ← HG.out.1]; exact hr, hb⟩
          clear hr hb k1 k2 k3 k4 k5 k6 d1 d2 d3 d4
          go_wp2
          go_roundw
          case rel => exact ⟨c0 + 1, i, (i : Int) - 1, step_sum13 hcI, Int.sub_add_cancel _ _, by first | rfl | rw [W1], HV.out.1, HV.out.2⟩
          case measure => first | exact meas_dn13 i | (rw [W1]; exact meas_dn13 i)
    | zero =>
      obtain rfl : v = -1 := dn_zero13 hv
      obtain rfl : c0 = k := hcI
      have HV : Hid (R6 wr w.heap.size n (fol n c0 c0 F) ∧ Below w.heap.size w wr) := ⟨hr, hb⟩
      clear hr hb hv
      go_wp2
      go_ret2
      exact ⟨rfl, HV.out⟩
set_option maxHeartbeats 4000000 in
set_option maxRecDepth 100000 in
theorem frommono13_no (v : Value) (n : Nat) (F : Nat → Nat) (w : World) (h : Q6 w v n F) (hn : ¬ pw2 n 256) :
    Calls Tryd.prog 38 #[v] w fun e w' => e = .returned (.tuple #[.slice none 0 0, .int .i64 130]) ∧ w' = w := by
  obtain ⟨hb0, hF, a, cap, rfl, hc1, hc2, h4⟩ := h
  have c1 : Calls Tryd.prog 27 #[.int .i64 (n : Int), .int .i64 256] w fun e w' => e = .returned (.bool false) ∧ w' = w := isPower_no n 256 hn (by decide) hb0 w
  clear hb0 hF hc1 hc2 h4 hn
  go_enter Tryd.func38, Tryd.ntmps38
  go_wp2_with (go_at_call 27; ((with_reducible refine (c1).mono ?_); rintro e w' ⟨rfl, rfl⟩))
  go_ret2
  exact ⟨rfl, rfl⟩
end Go.Proofs.YtidcdbjhkgpjcaaDoor
