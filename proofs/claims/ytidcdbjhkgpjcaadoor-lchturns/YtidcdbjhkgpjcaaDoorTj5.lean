import Derived.Test.YtidcdbjhkgpjcaaDoorLca
import Derived.StillTail
namespace Go.Proofs.YtidcdbjhkgpjcaaDoor
open Go.RowKit Gf2
set_option linter.unusedVariables false

set_option maxHeartbeats 2000000 in
set_option maxRecDepth 100000 in
theorem same13_true (u v : Value) (n : Nat) (F : Nat → Nat) (w : World) (h : Q6 w u n F) (k : Q6 w v n F) :
    Calls Tryd.prog 9 #[u, v] w fun e w' => e = .returned (.bool true) ∧ ∃ m, w' = w.drewN m := by
  obtain ⟨hn, hF, a, cap, rfl, -, -, h4⟩ := h
  obtain ⟨-, -, c, cap', rfl, -, -, k4⟩ := k
  go_enter Tryd.func9, Tryd.ntmps9
  go_wp2
  go_loopw [5] (fun i wr => ∃ k m : Nat, k ≤ n ∧ i = .int .i64 k ∧ wr = w.drewN m) (fun i _ => n - (intOf i).toNat)
  case atStart => exact ⟨0, 0, Nat.zero_le _, rfl, rfl⟩
  case round =>
    obtain ⟨k, m, hk, rfl, hw⟩ := hrel
    by_cases hlt : k < n
    · obtain ⟨b, o, rfl, -, hc⟩ := h4 (by omega)
      obtain ⟨b', o', rfl, -, hc'⟩ := k4 (by omega)
      have q1 : wr.cell? ⟨b, o + k, none⟩ = some (.int .u16 (F k : Nat)) := by rw [hw]; exact hc k hlt
      have q2 : wr.cell? ⟨b', o' + k, none⟩ = some (.int .u16 (F k : Nat)) := by rw [hw]; exact hc' k hlt
      have HW : Hid (wr = w.drewN m) := hw
      have ib : ((k : Nat) : Int) < (n : Int) := by omega
      have W1 := wrap_succ8 (j := k) (by omega)
      have HN : Hid (n ≤ big) := hn
      clear hc hc' hw h4 k4 hF hn
      go_wp2
      go_quiet (fail)
      go_wp2
      go_roundw
      case rel => exact ⟨k + 1, m + nq, hlt, by first | rfl | (rw [W1]; rfl), by rw [HW.out, World.drewN_drewN]⟩
      case measure => first | exact meas_lt8 hlt | (rw [W1]; exact meas_lt8 hlt)
    · have hk5 : k = n := by omega
      subst hk5
      subst hw
      go_wp2
      go_ret
      exact ⟨rfl, _, rfl⟩


set_option maxHeartbeats 2000000 in
set_option maxRecDepth 100000 in
theorem twin13_any (v : Value) (n : Nat) (F : Nat → Nat) (w : World) (h : Q6 w v n F) (hn : 2 * n ≤ 140737488355328) :
    Calls Tryd.prog 19 #[v] w fun e w' => e = .returned (.slice (some ⟨w.heap.size, 0, none⟩) n n) ∧ R6 w' w.heap.size n F ∧ Below w.heap.size w w' := by
  have hmk := make_w6 n hn
  have r0 := made_r6 n (by omega) w
  have b0 := made_b6 n w
  obtain ⟨-, hF, a, cap, rfl, -, -, h4⟩ := h
  obtain ⟨w1, hrun, hR, ho⟩ := copy6w _ r0 (a := a) (cap' := cap) (S := F) hF (fun h0 => by
    obtain ⟨b, o, e, hl, hc⟩ := h4 h0
    exact ⟨b, o, e, fun i hi => (b0.cell (p := ⟨b, o + i, none⟩) hl).trans (hc i hi)⟩)
  have HR : Hid (R6 w1 w.heap.size n F ∧ Below w.heap.size w w1) := ⟨hR, b0.trans (ho.below (Nat.le_refl _))⟩
  clear h4 hR ho r0 b0 hn hF
  go_enter Tryd.func19, Tryd.ntmps19
  go_wp2
  go_ret
  exact ⟨rfl, HR.out⟩
set_option maxHeartbeats 2000000 in
set_option maxRecDepth 100000 in
theorem copied13_any (v : Value) (n : Nat) (F : Nat → Nat) (w : World) (h : Q6 w v n F) (hn : 2 * n ≤ 140737488355328) :
    Calls Tryd.prog 47 #[v] w fun e w' => e = .returned (.slice (some ⟨w.heap.size, 0, none⟩) n n) ∧ R6 w' w.heap.size n F ∧ Below w.heap.size w w' := by
  have hmk := make_w6 n hn
  have r0 := made_r6 n (by omega) w
  have b0 := made_b6 n w
  obtain ⟨-, hF, a, cap, rfl, -, -, h4⟩ := h
  obtain ⟨w1, hrun, hR, ho⟩ := copy6w _ r0 (a := a) (cap' := cap) (S := F) hF (fun h0 => by
    obtain ⟨b, o, e, hl, hc⟩ := h4 h0
    exact ⟨b, o, e, fun i hi => (b0.cell (p := ⟨b, o + i, none⟩) hl).trans (hc i hi)⟩)
  have HR : Hid (R6 w1 w.heap.size n F ∧ Below w.heap.size w w1) := ⟨hR, b0.trans (ho.below (Nat.le_refl _))⟩
  clear h4 hR ho r0 b0 hn hF
  go_enter Tryd.func47, Tryd.ntmps47
  go_wp2
  go_ret
  exact ⟨rfl, HR.out⟩
end Go.Proofs.YtidcdbjhkgpjcaaDoor
namespace Go.Proofs.YtidcdbjhkgpjcaaDoor
open Go.RowKit Gf2
set_option linter.unusedVariables false

-- the table of trailing zeros
def tzl : List Nat := [0, 1, 56, 2, 57, 49, 28, 3, 61, 58, 42, 50, 38, 29, 17, 4, 62, 47, 59, 36, 45, 43, 51, 22, 53, 39, 33, 30, 24, 18, 12, 5, 63, 55, 48, 27, 60, 41, 37, 16, 46, 35, 44, 21, 52, 32, 23, 11, 54, 26, 40, 15, 34, 20, 31, 10, 25, 14, 19, 9, 13, 8, 7, 6]
def rT : Array Value := (tzl.map (fun n => Value.int .u8 ((n : Nat) : Int))).toArray
theorem rT_size : rT.size = 64 := by decide +kernel
/-- the table stands as it was laid. -/
def Tzt (w : World) : Prop := ∃ ty fr, w.heap[3]? = some (.cells rT ty fr)
theorem Tzt.below {w w' : World} (h : Tzt w) (hb : Below w.heap.size w w') : Tzt w' := by
  obtain ⟨t1, f1, h1⟩ := h
  exact ⟨t1, f1, by rw [hb.block _ (Array.getElem?_eq_some_iff.1 h1).1]; exact h1⟩
def tzi (k : Nat) : Nat := 2 ^ k * 285870213051353865 % 18446744073709551616 / 288230376151711744
theorem tz_and : ∀ k, k < 18 → bits BinOp.and IntKind.u64 ((2 ^ k : Nat) : Int) (IntKind.u64.wrap (-((2 ^ k : Nat) : Int))) = ((2 ^ k : Nat) : Int) := by decide +kernel
theorem tz_mul : ∀ k, k < 18 → IntKind.u64.wrap (((2 ^ k : Nat) : Int) * 285870213051353865) / 288230376151711744 = (tzi k : Nat) := by decide +kernel
theorem tz_get : ∀ k, k < 18 → tzi k < 64 ∧ tzl[tzi k]? = some k := by decide +kernel
set_option maxHeartbeats 2000000 in
set_option maxRecDepth 100000 in
theorem tz64 (k : Nat) (hk : k < 18) (w : World) (hT : Tzt w) :
    Calls Tryd.prog 53 #[.int .u64 ((2 ^ k : Nat) : Int)] w fun e w' => e = .returned (.int .i64 k) ∧ w' = w := by
  obtain ⟨ty, fr, hg⟩ := hT
  have A1 := tz_and k hk
  have M1 := tz_mul k hk
  obtain ⟨hi, hl⟩ := tz_get k hk
  have q : w.cell? ⟨3, tzi k, none⟩ = some (.int .u8 (k : Nat)) := by
    rw [cell_of_row w _ _ _ _ _ hg]
    unfold rT
    rw [List.getElem?_toArray, List.getElem?_map, hl]
    rfl
  have hp := Nat.two_pow_pos k
  have hp2 : 2 ^ k ≤ 2 ^ 17 := Nat.pow_le_pow_right (by decide) (by omega)
  obtain ⟨X, hX⟩ : ∃ X, X = 2 ^ k := ⟨_, rfl⟩
  obtain ⟨I, hI⟩ : ∃ I, I = tzi k := ⟨_, rfl⟩
  rw [← hX] at A1 M1 hp hp2 ⊢
  rw [← hI] at M1 hi q
  have D1 : ((X : Int) == 0) = false := by simp; omega
  have i0 : ((I : Nat) : Int) < 64 := by omega
  clear hX hI hg hl hp hp2
  go_enter Tryd.func53, Tryd.ntmps53
  go_wp2
  go_ret
  exact ⟨rfl, rfl⟩
set_option maxHeartbeats 2000000 in
set_option maxRecDepth 100000 in
theorem tz (k : Nat) (hk : k < 18) (w : World) (hT : Tzt w) :
    Calls Tryd.prog 41 #[.int .u64 ((2 ^ k : Nat) : Int)] w fun e w' => e = .returned (.int .i64 k) ∧ w' = w := by
  have c := tz64 k hk w hT
  have hp2 : 2 ^ k ≤ 2 ^ 17 := Nat.pow_le_pow_right (by decide) (by omega)
  obtain ⟨X, hX⟩ : ∃ X, X = 2 ^ k := ⟨_, rfl⟩
  rw [← hX] at c hp2 ⊢
  clear hX
  go_enter Tryd.func41, Tryd.ntmps41
  go_wp2_with (go_at_call 53; ((with_reducible refine (c).mono ?_); rintro e w' ⟨rfl, rfl⟩))
  go_ret
  exact ⟨rfl, rfl⟩
set_option maxHeartbeats 2000000 in
set_option maxRecDepth 100000 in
theorem levels13 (k n : Nat) (hk : k < 18) (hn : n = 2 ^ k) (a : Option Addr) (cap : Nat) (w : World) (hT : Tzt w) :
    Calls Tryd.prog 28 #[.slice a n cap] w fun e w' => e = .returned (.int .i64 k) ∧ w' = w := by
  have c := tz k hk w hT
  have hp2 : 2 ^ k ≤ 2 ^ 17 := Nat.pow_le_pow_right (by decide) (by omega)
  rw [← hn] at c hp2
  clear hn
  go_enter Tryd.func28, Tryd.ntmps28
  go_wp2_with (go_at_call 41; ((with_reducible refine (c).mono ?_); rintro e w' ⟨rfl, rfl⟩))
  go_ret
  exact ⟨rfl, rfl⟩

/-- a power of two, most at most. -/
def pw2 (n most : Nat) : Prop := ∃ k, n = 2 ^ k ∧ n ≤ most
theorem pow_and {n : Nat} (h0 : 0 < n) (h : n &&& (n - 1) = 0) : ∃ k, n = 2 ^ k := by
  induction n using Nat.strongRecOn with
  | _ n ih =>
    rcases Nat.mod_two_eq_zero_or_one n with h2 | h2
    · obtain ⟨m, rfl⟩ : ∃ m, n = 2 * m := ⟨n / 2, by omega⟩
      have hm : m &&& (m - 1) = 0 := by
        apply Nat.eq_of_testBit_eq
        intro i
        have hb : (2 * m &&& (2 * m - 1)).testBit (i + 1) = false := by rw [h]; exact Nat.zero_testBit _
        rw [Nat.testBit_and, Nat.testBit_succ, Nat.testBit_succ, show 2 * m / 2 = m by omega, show (2 * m - 1) / 2 = m - 1 by omega, ← Nat.testBit_and] at hb
        rw [hb, Nat.zero_testBit]
      obtain ⟨k, hk⟩ := ih m (by omega) (by omega) hm
      exact ⟨k + 1, by rw [hk, Nat.pow_succ, Nat.mul_comm]⟩
    · refine ⟨0, ?_⟩
      obtain ⟨m, rfl⟩ : ∃ m, n = 2 * m + 1 := ⟨n / 2, by omega⟩
      have hm : m = 0 := by
        apply Nat.eq_of_testBit_eq
        intro i
        have hb : ((2 * m + 1) &&& (2 * m + 1 - 1)).testBit (i + 1) = false := by rw [h]; exact Nat.zero_testBit _
        rw [Nat.testBit_and, Nat.testBit_succ, Nat.testBit_succ, show (2 * m + 1) / 2 = m by omega, show (2 * m + 1 - 1) / 2 = m by omega, Bool.and_self] at hb
        rw [hb, Nat.zero_testBit]
      rw [hm]
theorem and_pow (k : Nat) : 2 ^ k &&& (2 ^ k - 1) = 0 := by
  rw [Nat.and_two_pow_sub_one_eq_mod, Nat.mod_self]
theorem i64_and13 (a b : Nat) (ha : a < 9223372036854775808) (hb : b < 9223372036854775808) : bits .and .i64 (a : Int) (b : Int) = ((a &&& b : Nat) : Int) := by
  have hx : a &&& b < 2 ^ 63 := Nat.lt_of_le_of_lt Nat.and_le_left (by omega)
  show IntKind.i64.wrap ((BitVec.ofInt 64 (a : Int) &&& BitVec.ofInt 64 (b : Int)).toNat : Int) = _
  rw [BitVec.toNat_and, ofInt_u64 a (by omega), ofInt_u64 b (by omega), IntKind.wrap_i64]
  omega
set_option maxHeartbeats 2000000 in
set_option maxRecDepth 100000 in
theorem isPower_yes (k n most : Nat) (hn : n = 2 ^ k) (hm : n ≤ most) (hb : most ≤ 65536) (w : World) :
    Calls Tryd.prog 27 #[.int .i64 (n : Int), .int .i64 (most : Int)] w fun e w' => e = .returned (.bool true) ∧ w' = w := by
  have h0 : 0 < n := by rw [hn]; exact Nat.two_pow_pos k
  have A1 : bits .and .i64 (n : Int) ((n : Int) - 1) = 0 := by
    have := i64_and13 n (n - 1) (by omega) (by omega)
    rw [hn, and_pow, ← hn] at this
    rw [show ((n : Int) - 1) = ((n - 1 : Nat) : Int) by omega, this]; rfl
  have W1 : wrap64 ((n : Int) - 1) = (n : Int) - 1 := by unfold wrap64; omega
  have D1 : decide ((0 : Int) < (n : Int)) = true := by simp; omega
  have D2 : (n : Int) ≤ (most : Int) := by omega
  clear hn hm
  go_enter Tryd.func27, Tryd.ntmps27
  go_wp2
  go_ret
  exact ⟨rfl, rfl⟩
set_option maxHeartbeats 2000000 in
set_option maxRecDepth 100000 in
theorem isPower_no (n most : Nat) (hn : ¬ pw2 n most) (hb : most ≤ 65536) (hnb : n ≤ 9223372036854775807) (w : World) :
    Calls Tryd.prog 27 #[.int .i64 (n : Int), .int .i64 (most : Int)] w fun e w' => e = .returned (.bool false) ∧ w' = w := by
  by_cases h0 : n = 0
  · subst h0
    go_enter Tryd.func27, Tryd.ntmps27
    go_wp2
    go_ret
    exact ⟨rfl, rfl⟩
  · have D1 : (0 : Int) < (n : Int) := by omega
    by_cases h1 : n ≤ most
    · have D2 : (n : Int) ≤ (most : Int) := by omega
      have W1 : wrap64 ((n : Int) - 1) = (n : Int) - 1 := by unfold wrap64; omega
      have A0 := i64_and13 n (n - 1) (by omega) (by omega)
      have hz : n &&& (n - 1) ≠ 0 := fun e => by
        obtain ⟨k, hk⟩ := pow_and (by omega) e
        exact hn ⟨k, hk, h1⟩
      obtain ⟨Z, hZ⟩ : ∃ Z, Z = n &&& (n - 1) := ⟨_, rfl⟩
      rw [← hZ] at hz A0
      rw [show ((n - 1 : Nat) : Int) = (n : Int) - 1 by omega] at A0
      have D3 : ((Z : Int) == 0) = false := by simp; omega
      clear hZ hz hn h0 h1
      go_enter Tryd.func27, Tryd.ntmps27
      go_wp2
      go_ret
      exact ⟨rfl, rfl⟩
    · have D2 : ¬ (n : Int) ≤ (most : Int) := by omega
      clear h0 h1 hn
      go_enter Tryd.func27, Tryd.ntmps27
      go_wp2
      go_ret
      exact ⟨rfl, rfl⟩

set_option maxHeartbeats 2000000 in
set_option maxRecDepth 100000 in
theorem outside13 (i : Int) (w : World) :
    Calls Tryd.prog 25 #[.int .i64 i] w fun e w' => e = .returned (.bool (decide (i < 0 ∨ 16 < i))) ∧ w' = w := by
  by_cases h : i < 0
  · have D1 : decide (i < 0) = true := by simpa using h
    rw [show decide (i < 0 ∨ 16 < i) = true by simp [h]]
    clear h
    go_enter Tryd.func25, Tryd.ntmps25
    go_wp2
    go_ret
    exact ⟨rfl, rfl⟩
  · have D1 : decide (i < 0) = false := by simpa using h
    by_cases h2 : 16 < i
    · have D2 : decide (16 < i) = true := by simpa using h2
      rw [show decide (i < 0 ∨ 16 < i) = true by simp [h2]]
      clear h h2
      go_enter Tryd.func25, Tryd.ntmps25
      go_wp2
      go_ret
      exact ⟨rfl, rfl⟩
    · have D2 : decide (16 < i) = false := by simpa using h2
      rw [show decide (i < 0 ∨ 16 < i) = false by simp; omega]
      clear h h2
      go_enter Tryd.func25, Tryd.ntmps25
      go_wp2
      go_ret
      exact ⟨rfl, rfl⟩
theorem andn13 : ∀ t, t ≤ 16 → ∀ i, i ≤ 16 → decide (bits BinOp.andNot IntKind.i64 ((t : Nat) : Int) ((i : Nat) : Int) = 0) = decide (oc t i = 1) := by decide +kernel
set_option maxHeartbeats 2000000 in
set_option maxRecDepth 100000 in
theorem occurs13 (t i : Nat) (ht : t ≤ 16) (hi : i ≤ 16) (w : World) :
    Calls Tryd.prog 26 #[.int .i64 (t : Int), .int .i64 (i : Int)] w fun e w' => e = .returned (.bool (decide (oc t i = 1))) ∧ w' = w := by
  have A1 := andn13 t ht i hi
  rw [← A1]
  clear A1
  go_enter Tryd.func26, Tryd.ntmps26
  go_wp2
  go_ret
  exact ⟨rfl, rfl⟩
end Go.Proofs.YtidcdbjhkgpjcaaDoor
namespace Go.Proofs.YtidcdbjhkgpjcaaDoor
open Go.RowKit Gf2
set_option linter.unusedVariables false

theorem region_tail13 {P : Program} {id : Nat} {Q : Exit → Act → World → Prop} {a : Act} {w : World} {l : List Oper} (n : Nat) (hm : P.follows .mixedOrders = true) (hB : Region.lexTailB .any l.toArray n = true)
    (h : wpStill P l.toArray w.drew (fun a' => wpList P l.toArray Q (l.drop n) a' w.drew) (l.take n) a) : (Code.region id l.toArray true).wp P Q a w := wp_region_still_tail n hm hB h
theorem ew_nat13 {n : Nat} (h : n ≤ 65535) : ew (n : Int) = we n ∧ ee (n : Int) = 0 := by
  unfold ew ee
  rw [if_pos (by omega), if_pos (by omega)]
  exact ⟨rfl, rfl⟩
theorem shr_cast (V i : Nat) : ((V : Int) / 2 ^ i) = ((V / 2 ^ i : Nat) : Int) := by simp
/-- Element of a shifted index. -/
theorem element_shr_b (V i : Nat) (hV : V < 65536) (w : World) (hC : Cab w) :
    Calls Tryd.prog 29 #[.int .i64 ((V : Int) / 2 ^ i)] w fun e w' => e = .returned (.tuple #[.int .u16 (we (V / 2 ^ i) : Nat), .int .i64 0]) ∧ w' = w := by
  have h : V / 2 ^ i ≤ 65535 := Nat.le_trans (Nat.div_le_self _ _) (by omega)
  have c := helement_b ((V / 2 ^ i : Nat) : Int) w hC
  rw [(ew_nat13 h).1, (ew_nat13 h).2] at c
  rw [shr_cast]
  exact c
theorem element_shr (V i : Nat) (hV : V < 65536) (w : World) (hC : Cant w) :
    Calls Tryd.prog 29 #[.int .i64 ((V : Int) / 2 ^ i)] w fun e w' => e = .returned (.tuple #[.int .u16 (we (V / 2 ^ i) : Nat), .int .i64 0]) ∧ w' = w := element_shr_b V i hV w hC.1
set_option maxHeartbeats 2000000 in
set_option maxRecDepth 100000 in
theorem vanish13 (i x : Nat) (hi : i ≤ 16) (hx : x < 65536) (w : World) (hC : Cant w) :
    Calls Tryd.prog 30 #[.int .i64 (i : Int), .int .u16 (x : Int)] w fun e w' => e = .returned (.int .u16 (sv i x : Nat)) ∧ w' = w := by
  have c1 := hindex_nat x w hx hC
  have hV := wi_lt x
  have c2 := element_shr (wi x) i hV w hC
  have e : sv i x = we (wi x / 2 ^ i) := rfl
  rw [e]
  obtain ⟨V, hV'⟩ : ∃ V, V = wi x := ⟨_, rfl⟩
  rw [← hV'] at c1 c2 hV ⊢
  clear e hV' hC
  have ib : ((i : Nat) : Int) ≤ 16 := by omega
  have iv : ((V : Nat) : Int) < 65536 := by omega
  go_enter Tryd.func30, Tryd.ntmps30
  go_wp2_with (first | (go_at_call 42; ((with_reducible refine (c1).mono ?_); rintro e w' ⟨rfl, rfl⟩)) | (go_at_call 29; ((with_reducible refine (c2).mono ?_); rintro e w' ⟨rfl, rfl⟩)))
  go_ret
  exact ⟨rfl, rfl⟩
/-- what Vanish answers. -/
def vv (i : Int) (x : Nat) : Nat := if 0 ≤ i ∧ i ≤ 16 then sv i.toNat x else 0
def ve (i : Int) : Nat := if 0 ≤ i ∧ i ≤ 16 then 0 else 7
theorem vv_nat {i : Nat} (h : i ≤ 16) (x : Nat) : vv (i : Int) x = sv i x ∧ ve (i : Int) = 0 := by
  unfold vv ve
  rw [if_pos (by omega), if_pos (by omega)]
  exact ⟨rfl, rfl⟩
theorem vv_out {i : Int} (h : ¬ (0 ≤ i ∧ i ≤ 16)) (x : Nat) : vv i x = 0 ∧ ve i = 7 := by
  unfold vv ve
  rw [if_neg h, if_neg h]
  exact ⟨rfl, rfl⟩
theorem vv_lt (i : Int) (x : Nat) : vv i x < 65536 := by
  unfold vv; split
  · exact sv_lt _ _
  · decide
set_option maxHeartbeats 2000000 in
set_option maxRecDepth 100000 in
theorem vanish13_any (i : Int) (x : Nat) (hx : x < 65536) (w : World) (hC : Cant w) :
    Calls Tryd.prog 12 #[.int .i64 i, .int .u16 (x : Int)] w fun e w' => e = .returned (.tuple #[.int .u16 (vv i x : Nat), .int .i64 (ve i : Nat)]) ∧ w' = w := by
  have c1 := outside13 i w
  by_cases h : 0 ≤ i ∧ i ≤ 16
  · obtain ⟨n, rfl⟩ := Int.eq_ofNat_of_zero_le h.1
    have hn : n ≤ 16 := by omega
    rw [(vv_nat hn x).1, (vv_nat hn x).2]
    rw [show decide ((n : Int) < 0 ∨ 16 < (n : Int)) = false by simp; omega] at c1
    have c2 := vanish13 n x hn hx w hC
    clear h hC
    go_enter Tryd.func12, Tryd.ntmps12
    go_wp2_with (first | (go_at_call 25; ((with_reducible refine (c1).mono ?_); rintro e w' ⟨rfl, rfl⟩)) | (go_at_call 30; ((with_reducible refine (c2).mono ?_); rintro e w' ⟨rfl, rfl⟩)))
    go_ret2
    exact ⟨rfl, rfl⟩
  · rw [(vv_out h x).1, (vv_out h x).2]
    rw [show decide (i < 0 ∨ 16 < i) = true by simp; omega] at c1
    clear h hC
    go_enter Tryd.func12, Tryd.ntmps12
    go_wp2_with (go_at_call 25; ((with_reducible refine (c1).mono ?_); rintro e w' ⟨rfl, rfl⟩))
    go_ret2
    exact ⟨rfl, rfl⟩
set_option maxHeartbeats 2000000 in
set_option maxRecDepth 100000 in
theorem skew_b (i j : Nat) (hi : i ≤ 16) (hj : j < 65536) (w : World) (hC : Cab w) :
    Calls Tryd.prog 11 #[.int .i64 (i : Int), .int .i64 (j : Int)] w fun e w' => e = .returned (.tuple #[.int .u16 (we (j / 2 ^ i) : Nat), .int .i64 0]) ∧ w' = w := by
  have c1 := outside13 (i : Int) w
  rw [show decide ((i : Int) < 0 ∨ 16 < (i : Int)) = false by simp; omega] at c1
  have c2 := element_shr_b j i hj w hC
  have D1 : decide ((j : Int) < 0) = false := by simp
  have D2 : decide ((65536 : Int) ≤ (j : Int)) = false := by simp; omega
  have D3 : decide ((65535 : Int) < (j : Int)) = false := by simp; omega
  obtain ⟨Y, hY⟩ : ∃ Y, Y = we (j / 2 ^ i) := ⟨_, rfl⟩
  rw [← hY] at c2 ⊢
  clear hC hj hY
  go_enter Tryd.func11, Tryd.ntmps11
  go_wp2_with (first | (go_at_call 25; ((with_reducible refine (c1).mono ?_); rintro e w' ⟨rfl, rfl⟩)) | (go_at_call 29; ((with_reducible refine (c2).mono ?_); rintro e w' ⟨rfl, rfl⟩)))
  go_ret2
  exact ⟨rfl, rfl⟩
theorem skew13_yes (i j : Nat) (hi : i ≤ 16) (hj : j < 65536) (w : World) (hC : Cant w) :
    Calls Tryd.prog 11 #[.int .i64 (i : Int), .int .i64 (j : Int)] w fun e w' => e = .returned (.tuple #[.int .u16 (we (j / 2 ^ i) : Nat), .int .i64 0]) ∧ w' = w := skew_b i j hi hj w hC.1
set_option maxHeartbeats 2000000 in
set_option maxRecDepth 100000 in
theorem skew13_range (i j : Int) (hi : ¬ (0 ≤ i ∧ i ≤ 16)) (w : World) :
    Calls Tryd.prog 11 #[.int .i64 i, .int .i64 j] w fun e w' => e = .returned (.tuple #[.int .u16 0, .int .i64 7]) ∧ w' = w := by
  have c1 := outside13 i w
  rw [show decide (i < 0 ∨ 16 < i) = true by simp; omega] at c1
  clear hi
  go_enter Tryd.func11, Tryd.ntmps11
  go_wp2_with (go_at_call 25; ((with_reducible refine (c1).mono ?_); rintro e w' ⟨rfl, rfl⟩))
  go_ret2
  exact ⟨rfl, rfl⟩
set_option maxHeartbeats 2000000 in
set_option maxRecDepth 100000 in
theorem skew13_index (i : Nat) (j : Int) (hi : i ≤ 16) (hj : ¬ (0 ≤ j ∧ j < 65536)) (w : World) :
    Calls Tryd.prog 11 #[.int .i64 (i : Int), .int .i64 j] w fun e w' => e = .returned (.tuple #[.int .u16 0, .int .i64 31]) ∧ w' = w := by
  have c1 := outside13 (i : Int) w
  rw [show decide ((i : Int) < 0 ∨ 16 < (i : Int)) = false by simp; omega] at c1
  by_cases h : j < 0
  · clear hj
    go_enter Tryd.func11, Tryd.ntmps11
    go_wp2_with (go_at_call 25; ((with_reducible refine (c1).mono ?_); rintro e w' ⟨rfl, rfl⟩))
    go_ret2
    exact ⟨rfl, rfl⟩
  · have h2 : 65536 ≤ j := by omega
    clear hj
    go_enter Tryd.func11, Tryd.ntmps11
    go_wp2_with (go_at_call 25; ((with_reducible refine (c1).mono ?_); rintro e w' ⟨rfl, rfl⟩))
    go_ret2
    exact ⟨rfl, rfl⟩
set_option maxHeartbeats 4000000 in
set_option maxRecDepth 100000 in
theorem linear13_yes (i : Nat) (hi : i ≤ 16) (w : World) :
    Calls Tryd.prog 8 #[.int .i64 (i : Int)] w fun e w' => e = .returned (.tuple #[.slice (some ⟨w.heap.size, 0, none⟩) (i + 1) (i + 1), .int .i64 0]) ∧ R6 w' w.heap.size (i + 1) (fun t => oc t i) ∧ Below w.heap.size w w' := by
  have c1 := outside13 (i : Int) w
  rw [show decide ((i : Int) < 0 ∨ 16 < (i : Int)) = false by simp; omega] at c1
  obtain ⟨N, hN⟩ : ∃ N, N = i + 1 := ⟨_, rfl⟩
  rw [← hN]
  have hmk := make_w6 N (by omega)
  rw [show ((N : Nat) : Int) = (i : Int) + 1 by omega] at hmk
  have W0 : wrap64 ((i : Int) + 1) = (i : Int) + 1 := by unfold wrap64; omega
  have HN : Hid (N = i + 1) := hN
  clear hN
  go_enter Tryd.func8, Tryd.ntmps8
  go_wp2_with (go_at_call 25; ((with_reducible refine (c1).mono ?_); (rintro e w9 ⟨rfl, hw9⟩; have hw9 := hw9.symm; subst hw9)))
  clear hmk W0 c1
  have hN := HN.out
  go_loopw [13] (fun tv wr => ∃ t : Nat, t ≤ N ∧ tv = .int .i64 t ∧ R6 wr w.heap.size N (fun x => if x < t then oc x i else 0) ∧ Below w.heap.size w wr) (fun tv _ => N - (intOf tv).toNat)
  case atStart =>
    refine ⟨0, Nat.zero_le _, rfl, ?_, made_b6 _ w⟩
    exact (made_r6 N (by omega) w).congr (fun x _ => (if_neg (Nat.not_lt_zero _)).symm)
  case round =>
    obtain ⟨t, ht, rfl, hr, hb⟩ := hrel
    by_cases hlt : t < N
    · have c2 := occurs13 t i (by omega) hi wr
      have q1 := hr.2.2.cell hlt
      simp only [Nat.lt_irrefl, if_false] at q1
      have q2 := hr.2.2.frozen t
      have ib : ((t : Nat) : Int) < (i : Int) + 1 := by omega
      have W1 := wrap_succ8 (j := t) (by unfold big; omega)
      rcases oc_bit t i with ho | ho
      · rw [ho, show decide (0 = 1) = false by decide] at c2
        have HV : Hid (R6 wr w.heap.size N (fun x => if x < t + 1 then oc x i else 0) ∧ Below w.heap.size w wr) := ⟨hr.congr (fun x _ => by
          by_cases e : x = t
          · subst e; rw [if_neg (Nat.lt_irrefl _), if_pos (Nat.lt_succ_self _), ho]
          · by_cases e2 : x < t
            · rw [if_pos e2, if_pos (by omega)]
            · rw [if_neg e2, if_neg (by omega)]), hb⟩
        clear hr hb q1 q2 ho hN
        go_wp2_with (go_at_call 26; ((with_reducible refine (c2).mono ?_); rintro e w' ⟨rfl, rfl⟩))
        go_roundw
        case rel => exact ⟨t + 1, hlt, by first | rfl | (rw [W1]; rfl), HV.out.1, HV.out.2⟩
        case measure => first | exact meas_lt8 hlt | (rw [W1]; exact meas_lt8 hlt)
      · rw [ho, show decide (1 = 1) = true by decide] at c2
        have HV : Hid (R6 (wr.setCell ⟨w.heap.size, t, none⟩ (.int .u16 1)) w.heap.size N (fun x => if x < t + 1 then oc x i else 0) ∧ Below w.heap.size w (wr.setCell ⟨w.heap.size, t, none⟩ (.int .u16 1))) := ⟨(hr.set t 1 (by decide)).congr (fun x _ => by
          by_cases e : x = t
          · subst e; rw [if_pos rfl, if_pos (Nat.lt_succ_self _), ho]
          · rw [if_neg e]
            by_cases e2 : x < t
            · rw [if_pos e2, if_pos (by omega)]
            · rw [if_neg e2, if_neg (by omega)]), hb.setCell (Nat.le_refl _) _⟩
        clear hr hb ho hN
        go_wp2_with (go_at_call 26; ((with_reducible refine (c2).mono ?_); rintro e w' ⟨rfl, rfl⟩))
        go_roundw
        case rel => exact ⟨t + 1, hlt, by first | rfl | (rw [W1]; rfl), HV.out.1, HV.out.2⟩
        case measure => first | exact meas_lt8 hlt | (rw [W1]; exact meas_lt8 hlt)
    · have ht1 : t = N := by omega
      subst ht1
      have HV : Hid (R6 wr w.heap.size t (fun x => oc x i) ∧ Below w.heap.size w wr) := ⟨hr.congr (fun x hx => if_pos hx), hb⟩
      clear hr hb hN
      go_wp2
      go_ret2
      exact ⟨rfl, HV.out⟩
set_option maxHeartbeats 4000000 in
set_option maxRecDepth 100000 in
theorem linear13_no (i : Int) (hi : ¬ (0 ≤ i ∧ i ≤ 16)) (w : World) :
    Calls Tryd.prog 8 #[.int .i64 i] w fun e w' => e = .returned (.tuple #[.slice none 0 0, .int .i64 7]) ∧ w' = w := by
  have c1 := outside13 i w
  rw [show decide (i < 0 ∨ 16 < i) = true by simp; omega] at c1
  clear hi
  go_enter Tryd.func8, Tryd.ntmps8
  go_wp2_with (go_at_call 25; ((with_reducible refine (c1).mono ?_); rintro e w' ⟨rfl, rfl⟩))
  go_ret2
  exact ⟨rfl, rfl⟩
end Go.Proofs.YtidcdbjhkgpjcaaDoor
namespace Go.Proofs.YtidcdbjhkgpjcaaDoor
open Go.RowKit Gf2
set_option linter.unusedVariables false

/-- the first i rounds of Derivative. -/
def dvs : Nat → (Nat → Nat) → Nat → Nat
  | 0, _, _ => 0
  | i + 1, F, j => dvs i F j ^^^ (if j / 2 ^ i % 2 = 0 then F (j + 2 ^ i) else 0)
theorem up_lt {j i k : Nat} (hi : i < k) (hj : j < 2 ^ k) (hb : j / 2 ^ i % 2 = 0) : j + 2 ^ i < 2 ^ k := by
  have e : j + 2 ^ i = j ^^^ 2 ^ i ∨ True := .inr trivial
  obtain ⟨d, hd⟩ : ∃ d, k = i + 1 + d := ⟨k - (i + 1), by omega⟩
  subst hd
  have h1 := Nat.div_add_mod j (2 ^ i)
  have h2 := Nat.mod_lt j (Nat.two_pow_pos i)
  rw [Nat.pow_add, Nat.pow_succ] at hj ⊢
  obtain ⟨q, hq⟩ : ∃ q, j / 2 ^ i = 2 * q := ⟨j / 2 ^ i / 2, by omega⟩
  rw [hq] at h1
  generalize 2 ^ i = A at *
  generalize 2 ^ d = D at *
  have h3 : q < D := by
    apply Decidable.byContradiction
    intro h
    have : A * 2 * D ≤ A * 2 * q := Nat.mul_le_mul_left _ (by omega)
    have e2 : A * (2 * q) = A * 2 * q := by rw [Nat.mul_assoc]
    omega
  have h4 : A * 2 * (q + 1) ≤ A * 2 * D := Nat.mul_le_mul_left _ h3
  have e2 : A * (2 * q) = A * 2 * q := by rw [Nat.mul_assoc]
  have e3 : A * 2 * (q + 1) = A * 2 * q + A * 2 := by rw [Nat.mul_add, Nat.mul_one]
  omega
theorem dvs_lt {k : Nat} {F : Nat → Nat} (hF : ∀ j, j < 2 ^ k → F j < 65536) : ∀ i, i ≤ k → ∀ j, j < 2 ^ k → dvs i F j < 65536 := by
  intro i
  induction i with
  | zero => intro _ j _; exact Nat.zero_lt_succ _
  | succ i ih =>
    intro hi j hj
    refine Nat.xor_lt_two_pow (n := 16) (ih (by omega) j hj) ?_
    split
    · next h => exact hF _ (up_lt (by omega) hj h)
    · decide
end Go.Proofs.YtidcdbjhkgpjcaaDoor
namespace Go.Proofs.YtidcdbjhkgpjcaaDoor
open Go.RowKit Gf2
set_option linter.unusedVariables false
theorem R6.step {w : World} {g n j v : Nat} {A B : Nat → Nat} (h : R6 w g n (fun x => if x < j then A x else B x)) (hv : v < 65536) (e : v = A j) :
    R6 (w.setCell ⟨g, j, none⟩ (.int .u16 ((v : Nat) : Int))) g n (fun x => if x < j + 1 then A x else B x) :=
  (h.set j v hv).congr (fun x _ => by
    by_cases e1 : x = j
    · subst e1
      rw [if_pos rfl, if_pos (Nat.lt_succ_self _), e]
    · rw [if_neg e1]
      by_cases e2 : x < j
      · rw [if_pos e2, if_pos (by omega)]
      · rw [if_neg e2, if_neg (by omega)])
theorem R6.skip {w : World} {g n j : Nat} {A B : Nat → Nat} (h : R6 w g n (fun x => if x < j then A x else B x)) (e : B j = A j) : R6 w g n (fun x => if x < j + 1 then A x else B x) :=
  h.congr (fun x _ => by
    by_cases e1 : x = j
    · subst e1
      rw [if_neg (Nat.lt_irrefl _), if_pos (Nat.lt_succ_self _), e]
    · by_cases e2 : x < j
      · rw [if_pos e2, if_pos (by omega)]
      · rw [if_neg e2, if_neg (by omega)])
theorem R6.done {w : World} {g n : Nat} {A B : Nat → Nat} (h : R6 w g n (fun x => if x < n then A x else B x)) : R6 w g n A := h.congr (fun x hx => if_pos hx)
theorem R6.begin {w : World} {g n : Nat} {A B : Nat → Nat} (h : R6 w g n B) : R6 w g n (fun x => if x < 0 then A x else B x) := h.congr (fun x _ => (if_neg (Nat.not_lt_zero _)).symm)
theorem R6.drew {w : World} {g N : Nat} {F : Nat → Nat} (h : R6 w g N F) : R6 w.drew g N F := ⟨h.1, h.2.1, h.2.2.drew⟩
theorem dvs_yes {i j : Nat} {F : Nat → Nat} {P : Nat} (hP : P = 2 ^ i) (h : j / 2 ^ i % 2 = 0) : dvs i F j ^^^ F (j + P) = dvs (i + 1) F j := by subst hP; unfold dvs; rw [if_pos h]; cases i <;> rfl
theorem dvs_no {i j : Nat} {F : Nat → Nat} (h : ¬ j / 2 ^ i % 2 = 0) : dvs i F j = dvs (i + 1) F j := by
  show _ = dvs i F j ^^^ (if j / 2 ^ i % 2 = 0 then F (j + 2 ^ i) else 0)
  rw [if_neg h, Nat.xor_zero]
theorem wrap_k {x y : Int} (h : wrap64 x = y) : IntKind.i64.wrap x = y := by rw [IntKind.wrap_i64]; unfold wrap64 at h; exact h
theorem wrap_add13 {j P n : Nat} (h : j + P < n) (hn : n ≤ 65536) : wrap64 ((j : Int) + (P : Int)) = (j : Int) + (P : Int) ∧ (j : Int) + (P : Int) < (n : Int) := by unfold wrap64; omega
set_option maxHeartbeats 4000000 in
set_option maxRecDepth 100000 in
theorem derivative13_yes (v : Value) (k n : Nat) (F : Nat → Nat) (hn : n = 2 ^ k) (hk : k ≤ 16) (w : World) (h : Q6 w v n F) (hT : Tzt w) :
    Calls Tryd.prog 10 #[v] w fun e w' => e = .returned (.tuple #[.slice (some ⟨w.heap.size, 0, none⟩) n n, .int .i64 0]) ∧ R6 w' w.heap.size n (dvs k F) ∧ Below w.heap.size w w' := by
  have hn2 : n ≤ 65536 := by rw [hn]; exact Nat.pow_le_pow_right (by decide) hk
  have h0 : 0 < n := by rw [hn]; exact Nat.two_pow_pos k
  obtain ⟨hb0, hF, a, cap, rfl, hc1, hc2, h4⟩ := h
  obtain ⟨b, o, rfl, hbl, hcell⟩ := h4 h0
  have c1 : Calls Tryd.prog 27 #[.int .i64 (n : Int), .int .i64 65536] w fun e w' => e = .returned (.bool true) ∧ w' = w := isPower_yes k n 65536 hn hn2 (Nat.le_refl _) w
  have hmk := make_w6 n (by omega)
  have b0 := made_b6 n w
  have c2 := levels13 k n (by omega) hn (some ⟨b, o, none⟩) cap _ (hT.below b0)
  have HN : Hid (n = 2 ^ k ∧ n ≤ 65536 ∧ 0 < n ∧ k ≤ 16) := ⟨hn, hn2, h0, hk⟩
  have HF : Hid (∀ j, j < n → F j < 65536) := hF
  have HC : Hid (∀ i, i < n → w.cell? ⟨b, o + i, none⟩ = some (.int .u16 (F i : Nat))) := hcell
  have HB : Hid (b < w.heap.size) := hbl
  have R0 : Hid (R6 (w.alloc (.cells (madeCells #[.int .u16 0] n) 26)) w.heap.size n (fun _ => 0)) := made_r6 n (by omega) w
  have B0 : Hid (Below w.heap.size w (w.alloc (.cells (madeCells #[.int .u16 0] n) 26))) := b0
  clear hn hn2 h0 hk hF hcell hbl h4 hT hc1 hc2 hb0 b0
  go_enter Tryd.func10, Tryd.ntmps10
  go_wp2_with (first | (go_at_call 27; ((with_reducible refine (c1).mono ?_); (rintro e w9 ⟨rfl, hw9⟩; have hw9 := hw9.symm; subst hw9))) | (go_at_call 28; ((with_reducible refine (c2).mono ?_); (rintro e w9 ⟨rfl, hw9⟩; have hw9 := hw9.symm; subst hw9))))
  clear hmk c1 c2
  go_loopw [16] (fun iv wr => ∃ i : Nat, i ≤ k ∧ iv = .int .i64 i ∧ R6 wr w.heap.size n (dvs i F) ∧ Below w.heap.size w wr) (fun iv _ => k - (intOf iv).toNat)
  case atStart => exact ⟨0, Nat.zero_le _, rfl, R0.out, B0.out⟩
  case round =>
    obtain ⟨i, hi, rfl, hr, hb⟩ := hrel
    by_cases hlt : i < k
    · have ib : ((i : Nat) : Int) < (k : Int) := by omega
      have W1 := wrap_succ8 (j := i) (by have := HN.out.2.2.2; unfold big; omega)
      have HR : Hid (R6 wr w.heap.size n (dvs i F) ∧ Below w.heap.size w wr) := ⟨hr, hb⟩
      have i16 : i < 16 := by have := HN.out.2.2.2; omega
      have M : min i 64 = i := by omega
      clear hr hb
      go_wp2
      go_loopw [21] (fun jv wq => ∃ j : Nat, j ≤ n ∧ jv = .int .i64 j ∧ R6 wq w.heap.size n (fun x => if x < j then dvs (i + 1) F x else dvs i F x) ∧ Below w.heap.size w wq) (fun jv _ => n - (intOf jv).toNat)
      case atStart => exact ⟨0, Nat.zero_le _, rfl, HR.out.1.congr (fun x _ => (if_neg (Nat.not_lt_zero _)).symm), HR.out.2⟩
      case round =>
        obtain ⟨j, hj, rfl, hr, hb⟩ := hrel
        by_cases hjt : j < n
        · have jb : ((j : Nat) : Int) < (n : Int) := by omega
          have W2 := wrap_succ8 (j := j) (by have := HN.out.2.1; unfold big; omega)
          have A1 := i64_andH j i (by have := HN.out.2.1; omega)
          by_cases hbit : j / 2 ^ i % 2 = 0
          · have hup : j + 2 ^ i < n := by rw [HN.out.1]; exact up_lt hlt (by rw [← HN.out.1]; exact hjt) hbit
            obtain ⟨P, hP⟩ : ∃ P, P = 2 ^ i := ⟨_, rfl⟩
            have hP0 : 0 < P := by rw [hP]; exact Nat.two_pow_pos i
            have E : wrap64 (2 ^ i) = (P : Int) := by
              have e : ((2 : Int) ^ i) = ((2 ^ i : Nat) : Int) := by simp
              have := HN.out.2.1
              rw [← hP] at hup
              rw [e, ← hP]; unfold wrap64; omega
            rw [hbit] at A1
            have q1 := hr.2.2.cell hjt
            simp only [Nat.lt_irrefl, if_false] at q1
            have q2 := hr.2.2.frozen j
            have q3 : wr.cell? ⟨b, o + (j + P), none⟩ = some (.int .u16 (F (j + P) : Nat)) := by
              rw [hP]
              exact (hb.cell (p := ⟨b, o + (j + 2 ^ i), none⟩) HB.out).trans (HC.out _ hup)
            have l1 : dvs i F j < 65536 := dvs_lt (k := k) (fun x hx => HF.out x (by rw [HN.out.1]; exact hx)) i (by omega) j (by rw [← HN.out.1]; exact hjt)
            have l2 : F (j + P) < 65536 := HF.out _ (by rw [hP]; exact hup)
            have X := u16_xor_nat (dvs i F j) (F (j + P)) l1 l2
            have lx : dvs i F j ^^^ F (j + P) < 65536 := Nat.xor_lt_two_pow (n := 16) l1 l2
            have hup' : j + P < n := hP ▸ hup
            obtain ⟨W3, jb3⟩ := wrap_add13 hup' HN.out.2.1
            obtain ⟨J, hJ⟩ : ∃ J, J = j + P := ⟨_, rfl⟩
            rw [show (j : Int) + (P : Int) = (J : Int) by rw [hJ]; rfl] at jb3
            have W4 : wrap64 ((j : Int) + (P : Int)) = (J : Int) := by rw [W3, hJ]; rfl
            have E2 := wrap_k E
            have W5 := wrap_k W4
            clear W3
            rw [← hJ] at q3 l2 X lx
            have HV : Hid (R6 (wr.setCell ⟨w.heap.size, j, none⟩ (.int .u16 ((dvs i F j ^^^ F J : Nat) : Int))) w.heap.size n (fun x => if x < j + 1 then dvs (i + 1) F x else dvs i F x) ∧ Below w.heap.size w (wr.setCell ⟨w.heap.size, j, none⟩ (.int .u16 ((dvs i F j ^^^ F J : Nat) : Int)))) := ⟨hr.step lx (hJ ▸ dvs_yes hP hbit), hb.setCell (Nat.le_refl _) _⟩
            obtain ⟨D, hD⟩ : ∃ D, D = dvs i F j := ⟨_, rfl⟩
            obtain ⟨G, hG⟩ : ∃ G, G = F J := ⟨_, rfl⟩
            rw [← hD, ← hG] at X HV
            rw [← hD] at q1
            rw [← hG] at q3
            clear hr hb hup hup' l1 l2 lx hbit hP hD hG hJ
            go_wp2
            refine region_tail13 13 (by kernel_rfl) (by kernel_rfl) ?_
            simp only [List.take_succ_cons, List.take_zero, List.drop_succ_cons, List.drop_zero]
            repeat still_step
            refine wpStill_nil ?_
            go_wp2
            go_roundw
            case rel => exact ⟨j + 1, hjt, by first | rfl | (rw [W2]; rfl), ⟨HV.out.1.1, HV.out.1.2.1, HV.out.1.2.2.drew⟩, HV.out.2.drew⟩
            case measure => first | exact meas_lt8 hjt | (rw [W2]; exact meas_lt8 hjt)
          · have hb1 : j / 2 ^ i % 2 = 1 := by omega
            rw [hb1] at A1
            have HV : Hid (R6 wr w.heap.size n (fun x => if x < j + 1 then dvs (i + 1) F x else dvs i F x) ∧ Below w.heap.size w wr) := ⟨hr.skip (dvs_no hbit), hb⟩
            clear hr hb hbit hb1
            go_wp2
            go_roundw
            case rel => exact ⟨j + 1, hjt, by first | rfl | (rw [W2]; rfl), HV.out.1, HV.out.2⟩
            case measure => first | exact meas_lt8 hjt | (rw [W2]; exact meas_lt8 hjt)
        · have hjn : j = n := by omega
          subst hjn
          have HV : Hid (R6 wr w.heap.size j (dvs (i + 1) F) ∧ Below w.heap.size w wr) := ⟨hr.congr (fun x hx => if_pos hx), hb⟩
          clear hr hb
          go_wp2
          go_roundw
          case rel => exact ⟨i + 1, hlt, by first | rfl | (rw [W1]; rfl), HV.out.1, HV.out.2⟩
          case measure => first | exact meas_lt8 hlt | (rw [W1]; exact meas_lt8 hlt)
    · have hik : i = k := by omega
      subst hik
      have HV : Hid (R6 wr w.heap.size n (dvs i F) ∧ Below w.heap.size w wr) := ⟨hr, hb⟩
      clear hr hb
      go_wp2
      go_ret2
      exact ⟨rfl, HV.out⟩
set_option maxHeartbeats 4000000 in
set_option maxRecDepth 100000 in
theorem derivative13_no (v : Value) (n : Nat) (F : Nat → Nat) (w : World) (h : Q6 w v n F) (hn : ¬ pw2 n 65536) :
    Calls Tryd.prog 10 #[v] w fun e w' => e = .returned (.tuple #[.slice none 0 0, .int .i64 130]) ∧ w' = w := by
  obtain ⟨hb0, hF, a, cap, rfl, hc1, hc2, h4⟩ := h
  have c1 : Calls Tryd.prog 27 #[.int .i64 (n : Int), .int .i64 65536] w fun e w' => e = .returned (.bool false) ∧ w' = w := isPower_no n 65536 hn (Nat.le_refl _) hb0 w
  clear hb0 hF hc1 hc2 h4 hn
  go_enter Tryd.func10, Tryd.ntmps10
  go_wp2_with (go_at_call 27; ((with_reducible refine (c1).mono ?_); rintro e w' ⟨rfl, rfl⟩))
  go_ret2
  exact ⟨rfl, rfl⟩
end Go.Proofs.YtidcdbjhkgpjcaaDoor
namespace Go.Proofs.YtidcdbjhkgpjcaaDoor
open Go.RowKit Gf2
set_option linter.unusedVariables false

/-- four words. -/
def f4 (a b c d : Nat) (i : Nat) : Nat := if i = 0 then a else if i = 1 then b else if i = 2 then c else d
/-- four words written out. -/
theorem lit4 (w : World) (a b c d : Nat) (ha : a < 65536) (hb : b < 65536) (hc : c < 65536) (hd : d < 65536) :
    Q6 (w.alloc (.cells #[.int .u16 (a : Nat), .int .u16 (b : Nat), .int .u16 (c : Nat), .int .u16 (d : Nat)] 26)) (.slice (some ⟨w.heap.size, 0, none⟩) 4 4) 4 (f4 a b c d) := by
  refine ⟨by decide, fun i hi => ?_, _, _, rfl, by decide, by decide, fun _ => ⟨_, _, rfl, by simp, fun i hi => ?_⟩⟩
  · unfold f4
    split
    · exact ha
    · split
      · exact hb
      · split
        · exact hc
        · exact hd
  · rw [cell_of_row _ w.heap.size (0 + i) _ _ _ (heap_alloc_new _ _)]
    match i, hi with
    | 0, _ => rfl
    | 1, _ => rfl
    | 2, _ => rfl
    | 3, _ => rfl
theorem R6.all {w : World} {g N : Nat} {F : Nat → Nat} (h : R6 w g N F) : Q6 w (.slice (some ⟨g, 0, none⟩) N N) N F := h.q6 (Nat.le_refl _) (Nat.le_refl _) h.1 (fun _ _ => rfl)
theorem below_alloc (w : World) (o : Obj) : Below w.heap.size w (w.alloc o) := (Below.refl _ _).alloc (Nat.le_refl _) _
theorem bthen13 {w a b : World} (h : Below w.heap.size w a) (k : Below a.heap.size a b) : Below w.heap.size w b := h.trans (k.mono h.size)
theorem oc_3 : ∀ i, i < 4 → oc i 3 = f4 1 1 1 1 i := by decide +kernel
theorem dv_4 : ∀ i, i < 4 → dvs 2 (f4 9 1 2 4) i = f4 3 4 4 0 i := by decide +kernel
theorem awake_first (w : World) (hC : Cant w) (hT : Tzt w) :
    Calls Tryd.prog 8 #[.int .i64 3] w fun e w1 => e = .returned (.tuple #[.slice (some ⟨w.heap.size, 0, none⟩) 4 4, .int .i64 0]) ∧
      Calls Tryd.prog 9 #[.slice (some ⟨w.heap.size, 0, none⟩) 4 4, .slice (some ⟨w1.heap.size, 0, none⟩) 4 4] (w1.alloc (.cells #[.int .u16 1, .int .u16 1, .int .u16 1, .int .u16 1] 26)) fun e w2 => e = .returned (.bool true) ∧
      Calls Tryd.prog 10 #[.slice (some ⟨w2.heap.size, 0, none⟩) 4 4] (w2.alloc (.cells #[.int .u16 9, .int .u16 1, .int .u16 2, .int .u16 4] 26)) fun e w3 => e = .returned (.tuple #[.slice (some ⟨w2.heap.size + 1, 0, none⟩) 4 4, .int .i64 0]) ∧
      Calls Tryd.prog 9 #[.slice (some ⟨w2.heap.size + 1, 0, none⟩) 4 4, .slice (some ⟨w3.heap.size, 0, none⟩) 4 4] (w3.alloc (.cells #[.int .u16 3, .int .u16 4, .int .u16 4, .int .u16 0] 26)) fun e w4 => e = .returned (.bool true) ∧
      Calls Tryd.prog 11 #[.int .i64 2, .int .i64 7] w4 fun e w5 => e = .returned (.tuple #[.int .u16 1, .int .i64 0]) ∧ Hid (Below w.heap.size w w5) := by
  refine (linear13_yes 3 (by decide) w).mono fun e w1 ⟨he, h1, b1⟩ => ⟨he, ?_⟩
  have a1 := below_alloc w1 (.cells #[.int .u16 1, .int .u16 1, .int .u16 1, .int .u16 1] 26)
  refine (same13_true _ _ 4 (f4 1 1 1 1) _ ((h1.all.congr oc_3).below a1) (lit4 w1 1 1 1 1 (by decide) (by decide) (by decide) (by decide))).mono fun e w2 ⟨he, m, hw2⟩ => ⟨he, ?_⟩
  have b2 : Below w.heap.size w w2 := by rw [hw2]; exact below_drewN (bthen13 b1 a1) m
  have a2 := below_alloc w2 (.cells #[.int .u16 9, .int .u16 1, .int .u16 2, .int .u16 4] 26)
  have b3 := bthen13 b2 a2
  have c := derivative13_yes (.slice (some ⟨w2.heap.size, 0, none⟩) 4 4) 2 4 (f4 9 1 2 4) rfl (by decide) _ (lit4 w2 9 1 2 4 (by decide) (by decide) (by decide) (by decide)) (hT.below b3)
  rw [show (w2.alloc (.cells #[.int .u16 ((9 : Nat) : Int), .int .u16 ((1 : Nat) : Int), .int .u16 ((2 : Nat) : Int), .int .u16 ((4 : Nat) : Int)] 26)).heap.size = w2.heap.size + 1 by simp] at c
  refine c.mono fun e w3 ⟨he, h3, b4⟩ => ⟨he, ?_⟩
  have a3 := below_alloc w3 (.cells #[.int .u16 3, .int .u16 4, .int .u16 4, .int .u16 0] 26)
  have b5 : Below w.heap.size w w3 := b3.trans (b4.mono (by have := b3.size; simp at this; omega))
  refine (same13_true _ _ 4 (f4 3 4 4 0) _ ((h3.all.congr dv_4).below a3) (lit4 w3 3 4 4 0 (by decide) (by decide) (by decide) (by decide))).mono fun e w4 ⟨he, m4, hw4⟩ => ⟨he, ?_⟩
  have b6 : Below w.heap.size w w4 := by rw [hw4]; exact below_drewN (bthen13 b5 a3) m4
  refine (skew13_yes 2 7 (by decide) (by decide) w4 (hC.below b6)).mono fun e w5 ⟨he, hw5⟩ => ⟨?_, by rw [hw5]; exact b6⟩
  rw [he, show we (7 / 2 ^ 2) = 1 by decide]
  rfl
set_option maxHeartbeats 4000000 in
set_option maxRecDepth 100000 in
theorem awake13 (w : World) (hC : Cant w) (hT : Tzt w) :
    Calls Tryd.prog 5 #[] w fun e w' => e = .returned (.bool true) ∧ Below w.heap.size w w' := by
  have c1 := awake_first w hC hT
  clear hC hT
  go_enter Tryd.func5, Tryd.ntmps5
  go_wp2_with (first | (go_at_call 8; ((with_reducible refine (c1).mono ?_); (rintro e w1 ⟨rfl, c2⟩))) | (go_at_call 9; first | ((with_reducible refine (c2).mono ?_); (rintro e w2 ⟨rfl, c3⟩)) | ((with_reducible refine (c4).mono ?_); (rintro e w4 ⟨rfl, c5⟩))) | (go_at_call 10; ((with_reducible refine (c3).mono ?_); (rintro e w3 ⟨rfl, c4⟩))) | (go_at_call 11; ((with_reducible refine (c5).mono ?_); (rintro e w5 ⟨rfl, HB⟩))))
  go_ret
  exact ⟨rfl, HB.out⟩
end Go.Proofs.YtidcdbjhkgpjcaaDoor
