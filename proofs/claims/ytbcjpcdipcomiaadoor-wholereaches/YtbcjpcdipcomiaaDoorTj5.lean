import Derived.Test.YtbcjpcdipcomiaaDoorLca
import Derived.StillTail
namespace Go.Proofs.YtbcjpcdipcomiaaDoor
open Go.RowKit Gf2
set_option linter.unusedVariables false

end Go.Proofs.YtbcjpcdipcomiaaDoor
namespace Go.Proofs.YtbcjpcdipcomiaaDoor
open Go.RowKit Gf2
set_option linter.unusedVariables false

-- the table of trailing zeros
def tzl : List Nat := [0, 1, 56, 2, 57, 49, 28, 3, 61, 58, 42, 50, 38, 29, 17, 4, 62, 47, 59, 36, 45, 43, 51, 22, 53, 39, 33, 30, 24, 18, 12, 5, 63, 55, 48, 27, 60, 41, 37, 16, 46, 35, 44, 21, 52, 32, 23, 11, 54, 26, 40, 15, 34, 20, 31, 10, 25, 14, 19, 9, 13, 8, 7, 6]
def rT : Array Value := (tzl.map (fun n => Value.int .u8 ((n : Nat) : Int))).toArray
theorem rT_size : rT.size = 64 := by decide +kernel
/-- the table stands as it was laid. -/
def Tzt (w : World) : Prop := ∃ ty fr, w.heap[1]? = some (.cells rT ty fr)
theorem Tzt.below {w w' : World} (h : Tzt w) (hb : Below w.heap.size w w') : Tzt w' := by
  obtain ⟨t1, f1, h1⟩ := h
  exact ⟨t1, f1, by rw [hb.block _ (Array.getElem?_eq_some_iff.1 h1).1]; exact h1⟩
def tzi (k : Nat) : Nat := 2 ^ k * 285870213051353865 % 18446744073709551616 / 288230376151711744
theorem tz_and : ∀ k, k < 18 → bits BinOp.and IntKind.u64 ((2 ^ k : Nat) : Int) (IntKind.u64.wrap (-((2 ^ k : Nat) : Int))) = ((2 ^ k : Nat) : Int) := by decide +kernel
theorem tz_mul : ∀ k, k < 18 → IntKind.u64.wrap (((2 ^ k : Nat) : Int) * 285870213051353865) / 288230376151711744 = (tzi k : Nat) := by decide +kernel
theorem tz_get : ∀ k, k < 18 → tzi k < 64 ∧ tzl[tzi k]? = some k := by decide +kernel
set_option maxHeartbeats 2000000 in
set_option maxRecDepth 100000 in
theorem tz64 (k : Nat) (hk : k < 18) (w : World) (hT : Tzt w) :
    Calls Tryd.prog 30 #[.int .u64 ((2 ^ k : Nat) : Int)] w fun e w' => e = .returned (.int .i64 k) ∧ w' = w := by
  obtain ⟨ty, fr, hg⟩ := hT
  have A1 := tz_and k hk
  have M1 := tz_mul k hk
  obtain ⟨hi, hl⟩ := tz_get k hk
  have q : w.cell? ⟨1, tzi k, none⟩ = some (.int .u8 (k : Nat)) := by
    rw [cell_of_row w _ _ _ _ _ hg]
    unfold rT
    rw [List.getElem?_toArray, List.getElem?_map, hl]
    rfl
  have hp := Nat.two_pow_pos k
  have hp2 : 2 ^ k ≤ 2 ^ 17 := Nat.pow_le_pow_right (by decide) (by omega)
  obtain ⟨X, hX⟩ : ∃ X, X = 2 ^ k := ⟨_, rfl⟩
  obtain ⟨I, hI⟩ : ∃ I, I = tzi k := ⟨_, rfl⟩
  rw [← hX] at A1 M1 hp hp2 ⊢
  rw [← hI] at M1 hi q
  have D1 : ((X : Int) == 0) = false := by simp; omega
  have i0 : ((I : Nat) : Int) < 64 := by omega
  clear hX hI hg hl hp hp2
  go_enter Tryd.func30, Tryd.ntmps30
  go_wp2
  go_ret
  exact ⟨rfl, rfl⟩
set_option maxHeartbeats 2000000 in
set_option maxRecDepth 100000 in
theorem tz (k : Nat) (hk : k < 18) (w : World) (hT : Tzt w) :
    Calls Tryd.prog 25 #[.int .u64 ((2 ^ k : Nat) : Int)] w fun e w' => e = .returned (.int .i64 k) ∧ w' = w := by
  have c := tz64 k hk w hT
  have hp2 : 2 ^ k ≤ 2 ^ 17 := Nat.pow_le_pow_right (by decide) (by omega)
  obtain ⟨X, hX⟩ : ∃ X, X = 2 ^ k := ⟨_, rfl⟩
  rw [← hX] at c hp2 ⊢
  clear hX
  go_enter Tryd.func25, Tryd.ntmps25
  go_wp2_with (go_at_call 30; ((with_reducible refine (c).mono ?_); rintro e w' ⟨rfl, rfl⟩))
  go_ret
  exact ⟨rfl, rfl⟩
/-- a power of two, most at most. -/
def pw2 (n most : Nat) : Prop := ∃ k, n = 2 ^ k ∧ n ≤ most
theorem pow_and {n : Nat} (h0 : 0 < n) (h : n &&& (n - 1) = 0) : ∃ k, n = 2 ^ k := by
  induction n using Nat.strongRecOn with
  | _ n ih =>
    rcases Nat.mod_two_eq_zero_or_one n with h2 | h2
    · obtain ⟨m, rfl⟩ : ∃ m, n = 2 * m := ⟨n / 2, by omega⟩
      have hm : m &&& (m - 1) = 0 := by
        apply Nat.eq_of_testBit_eq
        intro i
        have hb : (2 * m &&& (2 * m - 1)).testBit (i + 1) = false := by rw [h]; exact Nat.zero_testBit _
        rw [Nat.testBit_and, Nat.testBit_succ, Nat.testBit_succ, show 2 * m / 2 = m by omega, show (2 * m - 1) / 2 = m - 1 by omega, ← Nat.testBit_and] at hb
        rw [hb, Nat.zero_testBit]
      obtain ⟨k, hk⟩ := ih m (by omega) (by omega) hm
      exact ⟨k + 1, by rw [hk, Nat.pow_succ, Nat.mul_comm]⟩
    · refine ⟨0, ?_⟩
      obtain ⟨m, rfl⟩ : ∃ m, n = 2 * m + 1 := ⟨n / 2, by omega⟩
      have hm : m = 0 := by
        apply Nat.eq_of_testBit_eq
        intro i
        have hb : ((2 * m + 1) &&& (2 * m + 1 - 1)).testBit (i + 1) = false := by rw [h]; exact Nat.zero_testBit _
        rw [Nat.testBit_and, Nat.testBit_succ, Nat.testBit_succ, show (2 * m + 1) / 2 = m by omega, show (2 * m + 1 - 1) / 2 = m by omega, Bool.and_self] at hb
        rw [hb, Nat.zero_testBit]
      rw [hm]
theorem and_pow (k : Nat) : 2 ^ k &&& (2 ^ k - 1) = 0 := by
  rw [Nat.and_two_pow_sub_one_eq_mod, Nat.mod_self]
theorem i64_and13 (a b : Nat) (ha : a < 9223372036854775808) (hb : b < 9223372036854775808) : bits .and .i64 (a : Int) (b : Int) = ((a &&& b : Nat) : Int) := by
  have hx : a &&& b < 2 ^ 63 := Nat.lt_of_le_of_lt Nat.and_le_left (by omega)
  show IntKind.i64.wrap ((BitVec.ofInt 64 (a : Int) &&& BitVec.ofInt 64 (b : Int)).toNat : Int) = _
  rw [BitVec.toNat_and, ofInt_u64 a (by omega), ofInt_u64 b (by omega), IntKind.wrap_i64]
  omega
set_option maxHeartbeats 2000000 in
set_option maxRecDepth 100000 in
theorem outside13 (i : Int) (w : World) :
    Calls Tryd.prog 31 #[.int .i64 i] w fun e w' => e = .returned (.bool (decide (i < 0 ∨ 16 < i))) ∧ w' = w := by
  by_cases h : i < 0
  · have D1 : decide (i < 0) = true := by simpa using h
    rw [show decide (i < 0 ∨ 16 < i) = true by simp [h]]
    clear h
    go_enter Tryd.func31, Tryd.ntmps31
    go_wp2
    go_ret
    exact ⟨rfl, rfl⟩
  · have D1 : decide (i < 0) = false := by simpa using h
    by_cases h2 : 16 < i
    · have D2 : decide (16 < i) = true := by simpa using h2
      rw [show decide (i < 0 ∨ 16 < i) = true by simp [h2]]
      clear h h2
      go_enter Tryd.func31, Tryd.ntmps31
      go_wp2
      go_ret
      exact ⟨rfl, rfl⟩
    · have D2 : decide (16 < i) = false := by simpa using h2
      rw [show decide (i < 0 ∨ 16 < i) = false by simp; omega]
      clear h h2
      go_enter Tryd.func31, Tryd.ntmps31
      go_wp2
      go_ret
      exact ⟨rfl, rfl⟩
theorem andn13 : ∀ t, t ≤ 16 → ∀ i, i ≤ 16 → decide (bits BinOp.andNot IntKind.i64 ((t : Nat) : Int) ((i : Nat) : Int) = 0) = decide (oc t i = 1) := by decide +kernel
end Go.Proofs.YtbcjpcdipcomiaaDoor
namespace Go.Proofs.YtbcjpcdipcomiaaDoor
open Go.RowKit Gf2
set_option linter.unusedVariables false

theorem region_tail13 {P : Program} {id : Nat} {Q : Exit → Act → World → Prop} {a : Act} {w : World} {l : List Oper} (n : Nat) (hm : P.follows .mixedOrders = true) (hB : Region.lexTailB .any l.toArray n = true)
    (h : wpStill P l.toArray w.drew (fun a' => wpList P l.toArray Q (l.drop n) a' w.drew) (l.take n) a) : (Code.region id l.toArray true).wp P Q a w := wp_region_still_tail n hm hB h
theorem ew_nat13 {n : Nat} (h : n ≤ 65535) : ew (n : Int) = we n ∧ ee (n : Int) = 0 := by
  unfold ew ee
  rw [if_pos (by omega), if_pos (by omega)]
  exact ⟨rfl, rfl⟩
theorem shr_cast (V i : Nat) : ((V : Int) / 2 ^ i) = ((V / 2 ^ i : Nat) : Int) := by simp
/-- Element of a shifted index. -/
theorem element_shr_b (V i : Nat) (hV : V < 65536) (w : World) (hC : Cab w) :
    Calls Tryd.prog 32 #[.int .i64 ((V : Int) / 2 ^ i)] w fun e w' => e = .returned (.tuple #[.int .u16 (we (V / 2 ^ i) : Nat), .int .i64 0]) ∧ w' = w := by
  have h : V / 2 ^ i ≤ 65535 := Nat.le_trans (Nat.div_le_self _ _) (by omega)
  have c := helement_b ((V / 2 ^ i : Nat) : Int) w hC
  rw [(ew_nat13 h).1, (ew_nat13 h).2] at c
  rw [shr_cast]
  exact c
/-- what Vanish answers. -/
def vv (i : Int) (x : Nat) : Nat := if 0 ≤ i ∧ i ≤ 16 then sv i.toNat x else 0
def ve (i : Int) : Nat := if 0 ≤ i ∧ i ≤ 16 then 0 else 7
theorem vv_nat {i : Nat} (h : i ≤ 16) (x : Nat) : vv (i : Int) x = sv i x ∧ ve (i : Int) = 0 := by
  unfold vv ve
  rw [if_pos (by omega), if_pos (by omega)]
  exact ⟨rfl, rfl⟩
theorem vv_out {i : Int} (h : ¬ (0 ≤ i ∧ i ≤ 16)) (x : Nat) : vv i x = 0 ∧ ve i = 7 := by
  unfold vv ve
  rw [if_neg h, if_neg h]
  exact ⟨rfl, rfl⟩
theorem vv_lt (i : Int) (x : Nat) : vv i x < 65536 := by
  unfold vv; split
  · exact sv_lt _ _
  · decide
set_option maxHeartbeats 2000000 in
set_option maxRecDepth 100000 in
theorem skew_b (i j : Nat) (hi : i ≤ 16) (hj : j < 65536) (w : World) (hC : Cab w) :
    Calls Tryd.prog 26 #[.int .i64 (i : Int), .int .i64 (j : Int)] w fun e w' => e = .returned (.tuple #[.int .u16 (we (j / 2 ^ i) : Nat), .int .i64 0]) ∧ w' = w := by
  have c1 := outside13 (i : Int) w
  rw [show decide ((i : Int) < 0 ∨ 16 < (i : Int)) = false by simp; omega] at c1
  have c2 := element_shr_b j i hj w hC
  have D1 : decide ((j : Int) < 0) = false := by simp
  have D2 : decide ((65536 : Int) ≤ (j : Int)) = false := by simp; omega
  have D3 : decide ((65535 : Int) < (j : Int)) = false := by simp; omega
  obtain ⟨Y, hY⟩ : ∃ Y, Y = we (j / 2 ^ i) := ⟨_, rfl⟩
  rw [← hY] at c2 ⊢
  clear hC hj hY
  go_enter Tryd.func26, Tryd.ntmps26
  go_wp2_with (first | (go_at_call 31; ((with_reducible refine (c1).mono ?_); rintro e w' ⟨rfl, rfl⟩)) | (go_at_call 32; ((with_reducible refine (c2).mono ?_); rintro e w' ⟨rfl, rfl⟩)))
  go_ret2
  exact ⟨rfl, rfl⟩
set_option maxHeartbeats 2000000 in
set_option maxRecDepth 100000 in
theorem skew13_range (i j : Int) (hi : ¬ (0 ≤ i ∧ i ≤ 16)) (w : World) :
    Calls Tryd.prog 26 #[.int .i64 i, .int .i64 j] w fun e w' => e = .returned (.tuple #[.int .u16 0, .int .i64 7]) ∧ w' = w := by
  have c1 := outside13 i w
  rw [show decide (i < 0 ∨ 16 < i) = true by simp; omega] at c1
  clear hi
  go_enter Tryd.func26, Tryd.ntmps26
  go_wp2_with (go_at_call 31; ((with_reducible refine (c1).mono ?_); rintro e w' ⟨rfl, rfl⟩))
  go_ret2
  exact ⟨rfl, rfl⟩
set_option maxHeartbeats 2000000 in
set_option maxRecDepth 100000 in
theorem skew13_index (i : Nat) (j : Int) (hi : i ≤ 16) (hj : ¬ (0 ≤ j ∧ j < 65536)) (w : World) :
    Calls Tryd.prog 26 #[.int .i64 (i : Int), .int .i64 j] w fun e w' => e = .returned (.tuple #[.int .u16 0, .int .i64 31]) ∧ w' = w := by
  have c1 := outside13 (i : Int) w
  rw [show decide ((i : Int) < 0 ∨ 16 < (i : Int)) = false by simp; omega] at c1
  by_cases h : j < 0
  · clear hj
    go_enter Tryd.func26, Tryd.ntmps26
    go_wp2_with (go_at_call 31; ((with_reducible refine (c1).mono ?_); rintro e w' ⟨rfl, rfl⟩))
    go_ret2
    exact ⟨rfl, rfl⟩
  · have h2 : 65536 ≤ j := by omega
    clear hj
    go_enter Tryd.func26, Tryd.ntmps26
    go_wp2_with (go_at_call 31; ((with_reducible refine (c1).mono ?_); rintro e w' ⟨rfl, rfl⟩))
    go_ret2
    exact ⟨rfl, rfl⟩
end Go.Proofs.YtbcjpcdipcomiaaDoor
namespace Go.Proofs.YtbcjpcdipcomiaaDoor
open Go.RowKit Gf2
set_option linter.unusedVariables false

/-- the first i rounds of Derivative. -/
def dvs : Nat → (Nat → Nat) → Nat → Nat
  | 0, _, _ => 0
  | i + 1, F, j => dvs i F j ^^^ (if j / 2 ^ i % 2 = 0 then F (j + 2 ^ i) else 0)
theorem up_lt {j i k : Nat} (hi : i < k) (hj : j < 2 ^ k) (hb : j / 2 ^ i % 2 = 0) : j + 2 ^ i < 2 ^ k := by
  have e : j + 2 ^ i = j ^^^ 2 ^ i ∨ True := .inr trivial
  obtain ⟨d, hd⟩ : ∃ d, k = i + 1 + d := ⟨k - (i + 1), by omega⟩
  subst hd
  have h1 := Nat.div_add_mod j (2 ^ i)
  have h2 := Nat.mod_lt j (Nat.two_pow_pos i)
  rw [Nat.pow_add, Nat.pow_succ] at hj ⊢
  obtain ⟨q, hq⟩ : ∃ q, j / 2 ^ i = 2 * q := ⟨j / 2 ^ i / 2, by omega⟩
  rw [hq] at h1
  generalize 2 ^ i = A at *
  generalize 2 ^ d = D at *
  have h3 : q < D := by
    apply Decidable.byContradiction
    intro h
    have : A * 2 * D ≤ A * 2 * q := Nat.mul_le_mul_left _ (by omega)
    have e2 : A * (2 * q) = A * 2 * q := by rw [Nat.mul_assoc]
    omega
  have h4 : A * 2 * (q + 1) ≤ A * 2 * D := Nat.mul_le_mul_left _ h3
  have e2 : A * (2 * q) = A * 2 * q := by rw [Nat.mul_assoc]
  have e3 : A * 2 * (q + 1) = A * 2 * q + A * 2 := by rw [Nat.mul_add, Nat.mul_one]
  omega
theorem dvs_lt {k : Nat} {F : Nat → Nat} (hF : ∀ j, j < 2 ^ k → F j < 65536) : ∀ i, i ≤ k → ∀ j, j < 2 ^ k → dvs i F j < 65536 := by
  intro i
  induction i with
  | zero => intro _ j _; exact Nat.zero_lt_succ _
  | succ i ih =>
    intro hi j hj
    refine Nat.xor_lt_two_pow (n := 16) (ih (by omega) j hj) ?_
    split
    · next h => exact hF _ (up_lt (by omega) hj h)
    · decide
end Go.Proofs.YtbcjpcdipcomiaaDoor
namespace Go.Proofs.YtbcjpcdipcomiaaDoor
open Go.RowKit Gf2
set_option linter.unusedVariables false
theorem R6.step {w : World} {g n j v : Nat} {A B : Nat → Nat} (h : R6 w g n (fun x => if x < j then A x else B x)) (hv : v < 65536) (e : v = A j) :
    R6 (w.setCell ⟨g, j, none⟩ (.int .u16 ((v : Nat) : Int))) g n (fun x => if x < j + 1 then A x else B x) :=
  (h.set j v hv).congr (fun x _ => by
    by_cases e1 : x = j
    · subst e1
      rw [if_pos rfl, if_pos (Nat.lt_succ_self _), e]
    · rw [if_neg e1]
      by_cases e2 : x < j
      · rw [if_pos e2, if_pos (by omega)]
      · rw [if_neg e2, if_neg (by omega)])
theorem R6.skip {w : World} {g n j : Nat} {A B : Nat → Nat} (h : R6 w g n (fun x => if x < j then A x else B x)) (e : B j = A j) : R6 w g n (fun x => if x < j + 1 then A x else B x) :=
  h.congr (fun x _ => by
    by_cases e1 : x = j
    · subst e1
      rw [if_neg (Nat.lt_irrefl _), if_pos (Nat.lt_succ_self _), e]
    · by_cases e2 : x < j
      · rw [if_pos e2, if_pos (by omega)]
      · rw [if_neg e2, if_neg (by omega)])
theorem R6.done {w : World} {g n : Nat} {A B : Nat → Nat} (h : R6 w g n (fun x => if x < n then A x else B x)) : R6 w g n A := h.congr (fun x hx => if_pos hx)
theorem R6.begin {w : World} {g n : Nat} {A B : Nat → Nat} (h : R6 w g n B) : R6 w g n (fun x => if x < 0 then A x else B x) := h.congr (fun x _ => (if_neg (Nat.not_lt_zero _)).symm)
theorem R6.drew {w : World} {g N : Nat} {F : Nat → Nat} (h : R6 w g N F) : R6 w.drew g N F := ⟨h.1, h.2.1, h.2.2.drew⟩
theorem dvs_yes {i j : Nat} {F : Nat → Nat} {P : Nat} (hP : P = 2 ^ i) (h : j / 2 ^ i % 2 = 0) : dvs i F j ^^^ F (j + P) = dvs (i + 1) F j := by subst hP; unfold dvs; rw [if_pos h]; cases i <;> rfl
theorem dvs_no {i j : Nat} {F : Nat → Nat} (h : ¬ j / 2 ^ i % 2 = 0) : dvs i F j = dvs (i + 1) F j := by
  show _ = dvs i F j ^^^ (if j / 2 ^ i % 2 = 0 then F (j + 2 ^ i) else 0)
  rw [if_neg h, Nat.xor_zero]
theorem wrap_k {x y : Int} (h : wrap64 x = y) : IntKind.i64.wrap x = y := by rw [IntKind.wrap_i64]; unfold wrap64 at h; exact h
theorem wrap_add13 {j P n : Nat} (h : j + P < n) (hn : n ≤ 65536) : wrap64 ((j : Int) + (P : Int)) = (j : Int) + (P : Int) ∧ (j : Int) + (P : Int) < (n : Int) := by unfold wrap64; omega
end Go.Proofs.YtbcjpcdipcomiaaDoor
namespace Go.Proofs.YtbcjpcdipcomiaaDoor
open Go.RowKit Gf2
set_option linter.unusedVariables false

/-- four words. -/
def f4 (a b c d : Nat) (i : Nat) : Nat := if i = 0 then a else if i = 1 then b else if i = 2 then c else d
/-- four words written out. -/
theorem lit4 (w : World) (a b c d : Nat) (ha : a < 65536) (hb : b < 65536) (hc : c < 65536) (hd : d < 65536) :
    Q6 (w.alloc (.cells #[.int .u16 (a : Nat), .int .u16 (b : Nat), .int .u16 (c : Nat), .int .u16 (d : Nat)] 26)) (.slice (some ⟨w.heap.size, 0, none⟩) 4 4) 4 (f4 a b c d) := by
  refine ⟨by decide, fun i hi => ?_, _, _, rfl, by decide, by decide, fun _ => ⟨_, _, rfl, by simp, fun i hi => ?_⟩⟩
  · unfold f4
    split
    · exact ha
    · split
      · exact hb
      · split
        · exact hc
        · exact hd
  · rw [cell_of_row _ w.heap.size (0 + i) _ _ _ (heap_alloc_new _ _)]
    match i, hi with
    | 0, _ => rfl
    | 1, _ => rfl
    | 2, _ => rfl
    | 3, _ => rfl
theorem R6.all {w : World} {g N : Nat} {F : Nat → Nat} (h : R6 w g N F) : Q6 w (.slice (some ⟨g, 0, none⟩) N N) N F := h.q6 (Nat.le_refl _) (Nat.le_refl _) h.1 (fun _ _ => rfl)
theorem below_alloc (w : World) (o : Obj) : Below w.heap.size w (w.alloc o) := (Below.refl _ _).alloc (Nat.le_refl _) _
theorem bthen13 {w a b : World} (h : Below w.heap.size w a) (k : Below a.heap.size a b) : Below w.heap.size w b := h.trans (k.mono h.size)
theorem oc_3 : ∀ i, i < 4 → oc i 3 = f4 1 1 1 1 i := by decide +kernel
theorem dv_4 : ∀ i, i < 4 → dvs 2 (f4 9 1 2 4) i = f4 3 4 4 0 i := by decide +kernel
end Go.Proofs.YtbcjpcdipcomiaaDoor
