import Derived.Test.YtnbpbdhncnagdaaDgfm
import Derived.Test.YtnbpbdhncnagdaaDtas
namespace Go.Proofs.Ytnbpbdhncnagdaa
open Go.RowKit Gf2

set_option maxHeartbeats 400000 in
theorem refTimes_nat (a n : Nat) (w : World) (ha : a < 256) (hn : n ≤ 255) :
    Calls Try.prog 43 #[.int .u8 (a : Int), .int .i64 (n : Int)] w fun e w' => e = .returned (.int .u8 (fp 285 a n : Nat)) ∧ w' = w := by
  go_enter Try.func43, Try.ntmps43
  go_wp2
  go_loop [5, 6] (fun p i => ∃ k : Nat, k ≤ n ∧ p = .int .u8 (fp 285 a k : Nat) ∧ i = .int .i64 k) (fun _ i => n - (intOf i).toNat)
  case atStart => exact ⟨0, Nat.zero_le _, by rw [fld8.fp_zero]; rfl, rfl⟩
  case round =>
    obtain ⟨k, hk, rfl, rfl⟩ := hrel
    by_cases hlt : k < n
    · have c1 := fun w => refMul_nat (fp 285 a k) a w (fp8_lt _ _) ha
      have e := fld8.fp_succ (a := a) ha k
      rw [← e] at c1
      clear e
      go_wp2_with (go_at_call 28; ((with_reducible refine (c1 _).mono ?_); rintro e w' ⟨rfl, rfl⟩))
      go_round
      case rel => exact ⟨k + 1, by omega, rfl, by go_num⟩
      case measure => simp [intOf]; omega
    · have hkn : k = n := by omega
      subst hkn
      go_wp2
      go_ret
      exact ⟨rfl, rfl⟩

set_option maxHeartbeats 400000 in
theorem refRest_int (n : Int) (w : World) :
    Calls Try.prog 44 #[.int .i64 n] w fun e w' => e = .returned (.int .i64 (er n : Nat)) ∧ w' = w := by
  go_enter Try.func44, Try.ntmps44
  go_wp2
  · next h =>
    go_ret
    exact ⟨ret_int (er_neg h), rfl⟩
  · next h =>
    go_ret
    exact ⟨ret_int (er_pos h), rfl⟩

set_option maxHeartbeats 400000 in
theorem refExp_int (n : Int) (w : World) :
    Calls Try.prog 35 #[.int .i64 n] w fun e w' => e = .returned (.int .u8 (fp 285 2 (er n) : Nat)) ∧ w' = w := by
  have l1 := er_lt n
  have c1 := fun w => refRest_int n w
  have c2 : ∀ w, Calls Try.prog 43 #[.int .u8 2, .int .i64 (er n : Nat)] w fun e w' => e = .returned (.int .u8 (fp 285 2 (er n) : Nat)) ∧ w' = w := fun w => refTimes_nat 2 (er n) w (by decide) (by omega)
  go_enter Try.func35, Try.ntmps35
  go_wp2_with (first | (go_at_call 44; ((with_reducible refine (c1 _).mono ?_); rintro e w' ⟨rfl, rfl⟩)) | (go_at_call 43; ((with_reducible refine (c2 _).mono ?_); rintro e w' ⟨rfl, rfl⟩)))
  go_ret
  exact ⟨rfl, rfl⟩

set_option maxHeartbeats 400000 in
theorem refPow_int (a : Nat) (n : Int) (w : World) (ha : a < 256) :
    Calls Try.prog 31 #[.int .u8 (a : Int), .int .i64 n] w fun e w' => e = .returned (.tuple #[.int .u8 (gp a n : Nat), .int .i64 (ge a n : Nat)]) ∧ w' = w := by
  by_cases hn : n = 0
  · subst hn
    have e1 : gp a 0 = 1 := by
      unfold gp
      split
      · rfl
      · rw [show er 0 = 0 by decide, fld8.fp_zero]
    have e2 : ge a 0 = 0 := by unfold ge; rw [if_neg (by omega)]
    rw [e1, e2]
    go_enter Try.func31, Try.ntmps31
    go_wp2
    go_ret2
    exact ⟨rfl, rfl⟩
  · by_cases h0 : a = 0
    · subst h0
      by_cases h : n < 0
      · rw [show gp 0 n = 0 by simp [gp]; omega, show ge 0 n = 20 by simp [ge]; omega]
        go_enter Try.func31, Try.ntmps31
        go_wp2
        go_ret2
        exact ⟨rfl, rfl⟩
      · rw [show gp 0 n = 0 by simp [gp]; omega, show ge 0 n = 0 by simp [ge]; omega]
        go_enter Try.func31, Try.ntmps31
        go_wp2
        go_ret2
        exact ⟨rfl, rfl⟩
    · rw [gp_ne n h0, ge_ne n h0]
      have l1 := er_lt n
      have c1 := fun w => refRest_int n w
      have c2 := fun w => refTimes_nat a (er n) w ha (by omega)
      go_enter Try.func31, Try.ntmps31
      go_wp2_with (first | (go_at_call 44; ((with_reducible refine (c1 _).mono ?_); rintro e w' ⟨rfl, rfl⟩)) | (go_at_call 43; ((with_reducible refine (c2 _).mono ?_); rintro e w' ⟨rfl, rfl⟩)))
      go_ret2
      exact ⟨rfl, rfl⟩

theorem inv_round {a : Nat} (i : Nat) : fm 285 (fp 285 a (2 ^ (i + 1) - 2)) (fp 285 a (2 ^ (i + 1))) = fp 285 a (2 ^ (i + 2) - 2) ∧ fm 285 (fp 285 a (2 ^ (i + 1))) (fp 285 a (2 ^ (i + 1))) = fp 285 a (2 ^ (i + 2)) := by
  have h : 2 ≤ 2 ^ (i + 1) := by
    have : 2 ^ 1 ≤ 2 ^ (i + 1) := Nat.pow_le_pow_right (by decide) (by omega)
    omega
  have h2 : 2 ^ (i + 2) = 2 ^ (i + 1) + 2 ^ (i + 1) := by rw [Nat.pow_succ 2 (i + 1)]; omega
  rw [← fld8.fp_add, ← fld8.fp_add, h2]
  exact ⟨by congr 1; omega, rfl⟩

set_option maxHeartbeats 400000 in
theorem refInv_nat (a : Nat) (w : World) (ha : a < 256) :
    Calls Try.prog 29 #[.int .u8 (a : Int)] w fun e w' => e = .returned (.tuple #[.int .u8 (ti a : Nat), .int .i64 (te a : Nat)]) ∧ w' = w := by
  by_cases h0 : a = 0
  · subst h0
    rw [show ti 0 = 0 by decide, show te 0 = 20 by decide]
    go_enter Try.func29, Try.ntmps29
    go_wp2
    go_ret2
    exact ⟨rfl, rfl⟩
  · have e1 : ti a = fp 285 a 254 := by unfold ti; rw [if_neg h0]; exact fld8.fi_fp ha h0
    have e2 : te a = 0 := by unfold te; rw [if_neg h0]
    rw [e1, e2]
    have c1 := fun w => refMul_nat a a w ha ha
    rw [← fp_two] at c1
    clear e1 e2
    go_enter Try.func29, Try.ntmps29
    go_wp2_with (go_at_call 28; ((with_reducible refine (c1 _).mono ?_); rintro e w' ⟨rfl, rfl⟩))
    go_loop [4, 5, 6] (fun two p i => ∃ k : Nat, k ≤ 7 ∧ two = .int .u8 (fp 285 a (2 ^ (k + 1)) : Nat) ∧ p = .int .u8 (fp 285 a (2 ^ (k + 1) - 2) : Nat) ∧ i = .int .i64 k) (fun _ _ i => 7 - (intOf i).toNat)
    case atStart => exact ⟨0, by decide, rfl, by rw [show (2 ^ (0 + 1) - 2) = 0 by decide, fld8.fp_zero]; rfl, rfl⟩
    case round =>
      obtain ⟨k, hk, rfl, rfl, rfl⟩ := hrel
      by_cases hlt : k < 7
      · obtain ⟨r1, r2⟩ := inv_round (a := a) k
        have c2 := fun w => refMul_nat (fp 285 a (2 ^ (k + 1) - 2)) (fp 285 a (2 ^ (k + 1))) w (fp8_lt _ _) (fp8_lt _ _)
        have c3 := fun w => refMul_nat (fp 285 a (2 ^ (k + 1))) (fp 285 a (2 ^ (k + 1))) w (fp8_lt _ _) (fp8_lt _ _)
        rw [r1] at c2
        rw [r2] at c3
        clear r1 r2 c1
        obtain ⟨x, hx⟩ : ∃ x, x = fp 285 a (2 ^ (k + 1)) := ⟨_, rfl⟩
        obtain ⟨y, hy⟩ : ∃ y, y = fp 285 a (2 ^ (k + 1) - 2) := ⟨_, rfl⟩
        obtain ⟨x', hx'⟩ : ∃ x, x = fp 285 a (2 ^ (k + 2)) := ⟨_, rfl⟩
        obtain ⟨y', hy'⟩ : ∃ y, y = fp 285 a (2 ^ (k + 2) - 2) := ⟨_, rfl⟩
        rw [← hx, ← hy, ← hy'] at c2
        rw [← hx, ← hx'] at c3
        rw [← hx, ← hy]
        have HX : Hid (x' = fp 285 a (2 ^ (k + 2)) ∧ y' = fp 285 a (2 ^ (k + 2) - 2)) := ⟨hx', hy'⟩
        clear hx hy hx' hy'
        go_wp2_with (go_at_call 28; first | ((with_reducible refine (c2 _).mono ?_); rintro e w' ⟨rfl, rfl⟩) | ((with_reducible refine (c3 _).mono ?_); rintro e w' ⟨rfl, rfl⟩))
        go_round
        case rel => exact ⟨k + 1, by omega, by rw [HX.out.1], by rw [HX.out.2], by go_num⟩
        case measure => simp [intOf]; omega
      · have hk7 : k = 7 := by omega
        subst hk7
        go_wp2
        go_ret2
        exact ⟨rfl, rfl⟩

set_option maxHeartbeats 400000 in
theorem refDiv_nat (a b : Nat) (w : World) (ha : a < 256) (hb : b < 256) :
    Calls Try.prog 30 #[.int .u8 (a : Int), .int .u8 (b : Int)] w fun e w' => e = .returned (.tuple #[.int .u8 (td a b : Nat), .int .i64 (te b : Nat)]) ∧ w' = w := by
  have c1 := fun w => refInv_nat b w hb
  by_cases h0 : b = 0
  · subst h0
    rw [show ti 0 = 0 by decide, show te 0 = 20 by decide] at c1
    rw [show td a 0 = 0 by unfold td; rw [if_pos rfl], show te 0 = 20 by decide]
    have c1 : ∀ w, Calls Try.prog 29 #[.int .u8 0] w fun e w' => e = .returned (.tuple #[.int .u8 0, .int .i64 20]) ∧ w' = w := c1
    go_enter Try.func30, Try.ntmps30
    go_wp2_with (go_at_call 29; ((with_reducible refine (c1 _).mono ?_); rintro e w' ⟨rfl, rfl⟩))
    go_ret2
    exact ⟨rfl, rfl⟩
  · have e1 : ti b = fi 285 b := by unfold ti; rw [if_neg h0]
    have e2 : te b = 0 := by unfold te; rw [if_neg h0]
    have e3 : td a b = fm 285 a (fi 285 b) := by unfold td; rw [if_neg h0]
    rw [e1, e2] at c1
    rw [e2, e3]
    have c2 := fun w => refMul_nat a (fi 285 b) w ha (fi8_lt hb h0)
    clear e1 e2 e3
    go_enter Try.func30, Try.ntmps30
    go_wp2_with (first | (go_at_call 29; ((with_reducible refine (c1 _).mono ?_); rintro e w' ⟨rfl, rfl⟩)) | (go_at_call 28; ((with_reducible refine (c2 _).mono ?_); rintro e w' ⟨rfl, rfl⟩)))
    go_ret2
    exact ⟨rfl, rfl⟩

set_option maxHeartbeats 400000 in
set_option maxRecDepth 10000 in
theorem refLog_nat (a : Nat) (w : World) (ha : a < 256) :
    Calls Try.prog 36 #[.int .u8 (a : Int)] w fun e w' => e = .returned (.tuple #[.int .i64 (tl a : Nat), .int .i64 (te a : Nat)]) ∧ w' = w := by
  have key : ∀ k, k < 255 → fp 285 2 k = a → tl a = k ∧ te a = 0 := by
    intro k hk e
    have h0 : a ≠ 0 := by rw [← e]; exact fld8.fp_ne (by decide) (by decide) k
    unfold tl te
    rw [if_neg h0, if_neg h0, ← e, l8_fp hk]
    exact ⟨rfl, rfl⟩
  have key2 : (∀ k, k < 255 → fp 285 2 k ≠ a) → tl a = 0 ∧ te a = 20 := by
    intro h
    have h0 : a = 0 := by
      apply Classical.byContradiction
      intro h0
      exact h (l8 a) (l8_lt a) (l8_spec ha h0)
    subst h0
    exact ⟨by unfold tl; rw [if_pos rfl], by decide⟩
  have KEY : Hid ((∀ k, k < 255 → fp 285 2 k = a → tl a = k ∧ te a = 0) ∧ ((∀ k, k < 255 → fp 285 2 k ≠ a) → tl a = 0 ∧ te a = 20)) := ⟨key, key2⟩
  clear key key2
  go_enter Try.func36, Try.ntmps36
  go_wp2
  go_loop [4, 5] (fun p i => ∃ k : Nat, k ≤ 255 ∧ (∀ j, j < k → fp 285 2 j ≠ a) ∧ p = .int .u8 (fp 285 2 k : Nat) ∧ i = .int .i64 k) (fun _ i => 255 - (intOf i).toNat)
  case atStart => exact ⟨0, by decide, fun j hj => absurd hj (by omega), by rw [fld8.fp_zero]; rfl, rfl⟩
  case round =>
    obtain ⟨k, hk, hall, rfl, rfl⟩ := hrel
    have HA : Hid (∀ j, j < k → fp 285 2 j ≠ a) := hall
    clear hall
    by_cases hlt : k < 255
    · by_cases he : fp 285 2 k = a
      · obtain ⟨k1, k2⟩ := KEY.out.1 k hlt he
        have T : (((fp 285 2 k : Nat) : Int) == (a : Int)) = true := by simp; omega
        have K : Hid (tl a = k ∧ te a = 0) := ⟨k1, k2⟩
        clear k1 k2 he
        go_wp2
        go_ret2
        rw [K.out.1, K.out.2]
        exact ⟨rfl, rfl⟩
      · have T : (((fp 285 2 k : Nat) : Int) == (a : Int)) = false := by simp; omega
        have c1 := fun w => refMul_nat (fp 285 2 k) 2 w (fp8_lt _ _) (by decide)
        have e := fld8.fp_succ (a := 2) (by decide) k
        rw [← e] at c1
        have c1 : ∀ w, Calls Try.prog 28 #[.int .u8 (fp 285 2 k : Nat), .int .u8 2] w fun e w' => e = .returned (.int .u8 (fp 285 2 (k + 1) : Nat)) ∧ w' = w := c1
        have HB : Hid (∀ j, j < k + 1 → fp 285 2 j ≠ a) := by
          intro j hj
          by_cases e : j = k
          · rw [e]; exact he
          · exact HA.out j (by omega)
        clear e he
        go_wp2_with (go_at_call 28; ((with_reducible refine (c1 _).mono ?_); rintro e w' ⟨rfl, rfl⟩))
        go_round
        case rel => exact ⟨k + 1, by omega, HB.out, rfl, by go_num⟩
        case measure => simp [intOf]; omega
    · have hk5 : k = 255 := by omega
      subst hk5
      obtain ⟨k1, k2⟩ := KEY.out.2 HA.out
      have K : Hid (tl a = 0 ∧ te a = 20) := ⟨k1, k2⟩
      clear k1 k2
      go_wp2
      go_ret2
      rw [K.out.1, K.out.2]
      exact ⟨rfl, rfl⟩

set_option maxHeartbeats 2000000 in
set_option maxRecDepth 100000 in
theorem refRow_nat (a : Nat) (w : World) (ha : a < 256) :
    Calls Try.prog 38 #[.int .u8 (a : Int)] w fun e w' => e = .returned (.slice (some ⟨w.heap.size, 0, none⟩) 256 256) ∧
      w'.rowIs w.heap.size 5 256 (fun x => .int .u8 (fm 285 a x : Nat)) ∧ Below w.heap.size w w' ∧ w'.heap.size = w.heap.size + 1 := by
  have hmk := run_make_row' (P := Try.prog) 62 5 (.int .u8 0) 1 Try.underlying62 info_u8 rfl .i64 .i64 256 (by decide) (by decide)
  have hmk : ∀ w, (Instr.makeSlice 62 (.int .i64 256) (.int .i64 256)).run Try.prog w = .ok (.slice (some ⟨w.heap.size, 0, none⟩) 256 256) (w.alloc (.cells (madeCells #[.int .u8 0] 256) 5)) := hmk
  go_enter Try.func38, Try.ntmps38
  go_wp2
  go_loopw [4] (fun i wr => ∃ k : Nat, k ≤ 256 ∧ i = .int .i64 k ∧ wr.heap.size = w.heap.size + 1 ∧
      wr.rowIs w.heap.size 5 256 (fun x => .int .u8 (if x < k then (fm 285 a x : Nat) else 0)) ∧ Below w.heap.size w wr) (fun i _ => 256 - (intOf i).toNat)
  case atStart =>
    refine ⟨0, by decide, rfl, by simp, ?_, (Below.refl _ _).alloc (Nat.le_refl _) _⟩
    exact (World.rowIs_made w (.int .u8 0) 256 5).congr (fun i _ => by simp)
  case round =>
    obtain ⟨k, hk, rfl, hsz, hr, hb⟩ := hrel
    by_cases hlt : k < 256
    · have c1 := fun w => refMul_nat a k w ha hlt
      have q := hr.cell hlt
      have f := hr.frozen k
      simp only [Nat.lt_irrefl, if_false] at q
      have HR : Hid (wr.heap.size = w.heap.size + 1 ∧ wr.rowIs w.heap.size 5 256 (fun x => .int .u8 (if x < k then (fm 285 a x : Nat) else 0))) := ⟨hsz, hr⟩
      clear hsz hr
      go_wp2_with (go_at_call 28; ((with_reducible refine (c1 _).mono ?_); rintro e w' ⟨rfl, rfl⟩))
      go_roundw
      case rel =>
        obtain ⟨g0, g1⟩ := HR.out
        refine ⟨k + 1, by omega, by go_num, by simp [g0], ?_, hb.setCell (by simp) _⟩
        refine (World.rowIs.set g1 k _).congr (fun i hi => ?_)
        by_cases e : i = k
        · subst e; simp
        · by_cases e2 : i < k
          · simp [e, e2, show i < k + 1 by omega]
          · simp [e, e2, show ¬ i < k + 1 by omega]
      case measure => simp [intOf]; omega
    · have hk5 : k = 256 := by omega
      subst hk5
      go_wp2
      go_ret
      exact ⟨rfl, hr.congr (fun i hi => by simp [hi]), hb, hsz⟩

set_option maxHeartbeats 2000000 in
set_option maxRecDepth 100000 in
theorem same_rows (x y : Nat) (f : Nat → Nat) (w : World) (hx : ∀ i, i < 256 → w.cell? ⟨x, i, none⟩ = some (.int .u8 (f i : Nat))) (hy : ∀ i, i < 256 → w.cell? ⟨y, i, none⟩ = some (.int .u8 (f i : Nat))) :
    Calls Try.prog 37 #[.slice (some ⟨x, 0, none⟩) 256 256, .slice (some ⟨y, 0, none⟩) 256 256] w fun e w' => e = .returned (.bool true) ∧ ∃ m, w' = w.drewN m := by
  go_enter Try.func37, Try.ntmps37
  go_wp2
  go_loopw [5] (fun i wr => ∃ k m : Nat, k ≤ 256 ∧ i = .int .i64 k ∧ wr = w.drewN m) (fun i _ => 256 - (intOf i).toNat)
  case atStart => exact ⟨0, 0, by decide, rfl, rfl⟩
  case round =>
    obtain ⟨k, m, hk, rfl, hw⟩ := hrel
    by_cases hlt : k < 256
    · have q1 : wr.cell? ⟨x, k, none⟩ = some (.int .u8 (f k : Nat)) := by rw [hw]; exact hx k hlt
      have q2 : wr.cell? ⟨y, k, none⟩ = some (.int .u8 (f k : Nat)) := by rw [hw]; exact hy k hlt
      have HW : Hid (wr = w.drewN m) := hw
      have ib : ((k : Nat) : Int) < 256 := by omega
      clear hx hy hw
      go_wp2
      go_quiet (fail)
      go_wp2
      go_roundw
      case rel => exact ⟨k + 1, m + nq, by omega, by go_num, by rw [HW.out, World.drewN_drewN]⟩
      case measure => simp [intOf]; omega
    · have hk5 : k = 256 := by omega
      subst hk5
      subst hw
      go_wp2
      go_ret
      exact ⟨rfl, _, rfl⟩
end Go.Proofs.Ytnbpbdhncnagdaa
