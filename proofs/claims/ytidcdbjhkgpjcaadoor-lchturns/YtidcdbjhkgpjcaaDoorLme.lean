import Derived.Test.YtidcdbjhkgpjcaaDoorLmd
import Derived.Test.YtidcdbjhkgpjcaaDoorLed
import Derived.Test.YtidcdbjhkgpjcaaDoorEsj
namespace Go.Proofs.YtidcdbjhkgpjcaaDoor
open Go.RowKit Gf2
set_option linter.unusedVariables false

/-- the sum of the first j members. -/
def qs (F : Nat → Nat) (j : Nat) : Nat → Nat := pn j (fun i => pc 65581 (F i) (mb 8 i))
theorem qs_next (F : Nat → Nat) (j y : Nat) : qs F (j + 1) y = qs F j y ^^^ fm 65581 (F j) (mb 8 j y) := rfl
theorem qs_el (F : Nat → Nat) : ∀ j y, qs F j y < 65536 := by
  intro j
  induction j with
  | zero => intro y; exact Nat.zero_lt_succ _
  | succ j ih => intro y; rw [qs_next]; exact Nat.xor_lt_two_pow (n := 16) (ih y) (fm16_lt _ _)
theorem qs_bp {n k : Nat} (hn : n = 2 ^ k) (hk : k ≤ 8) {F : Nat → Nat} (hF : ∀ y, y < n → F y < 65536) : qs F n = bp k F := by
  rw [← mb_bp k F (fun y hy => hF y (by rw [hn]; exact hy)), ← hn]
  exact pn_congr (fun j hj => by
    have e := mb_up (i := k) (j := j) (hn ▸ hj) (8 - k)
    rw [show k + (8 - k) = 8 by omega] at e
    rw [e])
theorem mb_beyond {j y : Nat} {M : List Nat} (h : co M = mb 8 j) (hy : M.length ≤ y) : mb 8 j y = 0 := by
  rw [← h]
  unfold co
  rw [List.getD_eq_getElem?_getD, List.getElem?_eq_none hy]
  rfl
set_option maxHeartbeats 8000000 in
set_option maxRecDepth 100000 in
theorem refTo13_yes (v : Value) (k n : Nat) (F : Nat → Nat) (hn : n = 2 ^ k) (hk : k ≤ 8) (w : World) (h : Q6 w v n F) :
    Calls Tryd.prog 23 #[v] w fun e w' => ∃ g, e = .returned (.tuple #[.slice (some ⟨g, 0, none⟩) n n, .int .i64 0]) ∧ R6 w' g n (bp k F) ∧ Below w.heap.size w w' := by
  have hn2 : n ≤ 256 := by rw [hn]; exact Nat.pow_le_pow_right (by decide) hk
  have h0 : 0 < n := by rw [hn]; exact Nat.two_pow_pos k
  obtain ⟨hb0, hF, a, cap, rfl, hc1, hc2, h4⟩ := h
  obtain ⟨b, o, rfl, hbl, hcell⟩ := h4 h0
  have c1 : Calls Tryd.prog 39 #[.int .i64 (n : Int), .int .i64 256] w fun e w' => e = .returned (.bool true) ∧ w' = w :=
    (refpower13 n 256 (by decide) w).mono fun e w' ⟨⟨h1, _⟩, hw⟩ => ⟨h1 ⟨k, hn, hn2⟩, hw⟩
  have c2 : Calls Tryd.prog 40 #[.int .i64 (n : Int)] w fun e w1 => ∃ gl C, e = .returned (.slice (some ⟨gl, 0, none⟩) n C) ∧ Hid (Mm w w1 (.slice (some ⟨gl, 0, none⟩) n C) n) :=
    (members13 n k w hn hk).mono fun e w1 ⟨lv, he, hm⟩ => by
      obtain ⟨gl, C, rfl⟩ := hm.form
      exact ⟨gl, C, he, hm⟩
  have hmk := make_w6 n (by omega)
  have HN : Hid (n = 2 ^ k ∧ n ≤ 256 ∧ k ≤ 8) := ⟨hn, hn2, hk⟩
  have HF : Hid (∀ j, j < n → F j < 65536) := hF
  have HC : Hid (∀ i, i < n → w.cell? ⟨b, o + i, none⟩ = some (.int .u16 (F i : Nat))) := hcell
  have HB : Hid (b < w.heap.size) := hbl
  clear hn hn2 h0 hk hF hcell hbl h4 hc1 hc2 hb0
  go_enter Tryd.func23, Tryd.ntmps23
  go_wp2_with (first | (go_at_call 39; ((with_reducible refine (c1).mono ?_); (rintro e w9 ⟨rfl, hw9⟩; have hw9 := hw9.symm; subst hw9))) | (go_at_call 40; ((with_reducible refine (c2).mono ?_); (rintro e w1 ⟨gl, C, rfl, HM⟩))))
  clear hmk c1 c2
  have R0 : Hid (R6 (w1.alloc (.cells (madeCells #[.int .u16 0] n) 26)) w1.heap.size n (qs F 0)) := made_r6 n (by have := HN.out.2.1; omega) w1
  have B0 : Hid (Below w1.heap.size w1 (w1.alloc (.cells (madeCells #[.int .u16 0] n) 26))) := made_b6 _ w1
  go_loopw [6] (fun jv wr => ∃ j : Nat, j ≤ n ∧ jv = .int .i64 j ∧ R6 wr w1.heap.size n (qs F j) ∧ Below w1.heap.size w1 wr) (fun jv _ => n - (intOf jv).toNat)
  case atStart => exact ⟨0, Nat.zero_le _, rfl, R0.out, B0.out⟩
  case round =>
    obtain ⟨j, hj, rfl, hr, hb⟩ := hrel
    by_cases hjt : j < n
    · have jb : ((j : Nat) : Int) < (n : Int) := Int.ofNat_lt.2 hjt
      have W1 := wrap_succ8 (j := j) (Nat.lt_of_lt_of_le hjt (Nat.le_trans HN.out.2.1 (by decide)))
      have HR : Hid (R6 wr w1.heap.size n (qs F j) ∧ Below w1.heap.size w1 wr) := ⟨hr, hb⟩
      obtain ⟨gx, Cx, U, ex, x1, x2, x3, x4, x5, x6⟩ := HM.out
      cases ex
      obtain ⟨M, y1, y2, y3⟩ := x6 j hjt
      have y9 := y1
      obtain ⟨-, -, gj, -, ej, yrow⟩ := y1
      have hMn : M.length ≤ n := by omega
      have cU : w1.cell? ⟨gl, j, none⟩ = some (.slice (some ⟨gj, 0, none⟩) M.length M.length) := by rw [x3.cell (show j < C by omega), ej]
      have HX : Hid (M.length ≤ n ∧ gl < w1.heap.size ∧ w1.cell? ⟨gl, j, none⟩ = some (.slice (some ⟨gj, 0, none⟩) M.length M.length) ∧ gj < w1.heap.size ∧ (∀ t, t < M.length → w1.cell? ⟨gj, t, none⟩ = some (.int .u16 (mb 8 j t : Nat))) ∧ co M = mb 8 j ∧ ∀ x ∈ M, x < 65536) := ⟨hMn, x3.lt, cU, yrow.lt, fun t ht => by rw [yrow.cell ht, y2], y2, y9.1⟩
      have lFj := HF.out j hjt
      have qd : ∀ W : World, Below w1.heap.size w1 W → W.cell? ⟨b, o + j, none⟩ = some (.int .u16 (F j : Nat)) := fun W hW => by
        rw [(x5.trans (hW.mono x5.size)).cell (p := ⟨b, o + j, none⟩) HB.out]
        exact HC.out j hjt
      have HD : Hid (∀ W : World, Below w1.heap.size w1 W → W.cell? ⟨b, o + j, none⟩ = some (.int .u16 (F j : Nat))) := qd
      obtain ⟨K, hK⟩ : ∃ K, K = M.length := ⟨_, rfl⟩
      rw [← hK] at HX
      have HK : Hid (K = M.length) := hK
      clear hr hb x1 x2 x3 x4 x5 x6 y2 y3 y9 ej yrow cU qd hMn hK
      go_wp2
      go_loopw [7] (fun tv wq => ∃ t : Nat, t ≤ K ∧ tv = .int .i64 t ∧ R6 wq w1.heap.size n (fun y => if y < t then qs F (j + 1) y else qs F j y) ∧ Below w1.heap.size w1 wq) (fun tv _ => K - (intOf tv).toNat)
      case atStart => exact ⟨0, Nat.zero_le _, rfl, HR.out.1.begin, HR.out.2⟩
      case round =>
        obtain ⟨t, ht, rfl, hr, hb⟩ := hrel
        obtain ⟨z0, z1, z2, z3, z4, z5, z6⟩ := HX.out
        have q0 : wr.cell? ⟨gl, j, none⟩ = some (.slice (some ⟨gj, 0, none⟩) K K) := (hb.cell (p := ⟨gl, j, none⟩) z1).trans z2
        have q9 := HD.out wr hb
        by_cases htt : t < K
        · have tb : ((t : Nat) : Int) < (K : Int) := Int.ofNat_lt.2 htt
          have htn : t < n := Nat.lt_of_lt_of_le htt z0
          have tb2 : ((t : Nat) : Int) < (n : Int) := Int.ofNat_lt.2 htn
          by_cases hz : F j = 0
          · have HV : Hid (R6 wr w1.heap.size n (qs F (j + 1)) ∧ Below w1.heap.size w1 wr) := ⟨hr.congr (fun y _ => by
              have e : qs F (j + 1) y = qs F j y := by rw [qs_next, hz, zero_fm16, Nat.xor_zero]
              by_cases h9 : y < t
              · rw [if_pos h9]
              · rw [if_neg h9, e]), hb⟩
            rw [hz] at q9
            clear hr hb z0 z1 z2 z3 z4 z5 hz htn
            go_wp2
            go_roundw
            case rel => exact ⟨j + 1, hjt, by first | rfl | (rw [W1]; rfl), HV.out.1, HV.out.2⟩
            case measure => first | exact meas_lt8 hjt | (rw [W1]; exact meas_lt8 hjt)
          · have Dz : (((F j : Nat) : Int) == 0) = false := by simp; exact hz
            have Dz2 : (((F j : Nat) : Int) != 0) = true := by simp; exact hz
            have q1 := hr.2.2.cell htn
            simp only [Nat.lt_irrefl, if_false] at q1
            have q2 := hr.2.2.frozen t
            have q3 : wr.cell? ⟨gj, t, none⟩ = some (.int .u16 (mb 8 j t : Nat)) := (hb.cell (p := ⟨gj, t, none⟩) z3).trans (z4 t htt)
            have lm8 : mb 8 j t < 65536 := by rw [← z5]; exact co_lt z6 t
            have c5 := refMulH_nat (F j) (mb 8 j t) wr.drew lFj lm8
            have X := u16_xor_nat (qs F j t) (fm 65581 (F j) (mb 8 j t)) (qs_el _ _ _) (fm16_lt _ _)
            have HV : Hid (R6 (wr.setCell ⟨w1.heap.size, t, none⟩ (.int .u16 ((qs F j t ^^^ fm 65581 (F j) (mb 8 j t) : Nat) : Int))) w1.heap.size n (fun y => if y < t + 1 then qs F (j + 1) y else qs F j y) ∧ Below w1.heap.size w1 (wr.setCell ⟨w1.heap.size, t, none⟩ (.int .u16 ((qs F j t ^^^ fm 65581 (F j) (mb 8 j t) : Nat) : Int)))) :=
              ⟨hr.step (Nat.xor_lt_two_pow (n := 16) (qs_el _ _ _) (fm16_lt _ _)) (qs_next F j t).symm, hb.setCell (Nat.le_refl _) _⟩
            have W2 := wrap_succ8 (j := t) (Nat.lt_of_lt_of_le htn (Nat.le_trans HN.out.2.1 (by decide)))
            obtain ⟨A0, hA0⟩ : ∃ A0, A0 = qs F j t := ⟨_, rfl⟩
            obtain ⟨C0, hC0⟩ : ∃ C0, C0 = mb 8 j t := ⟨_, rfl⟩
            obtain ⟨D0, hD0⟩ : ∃ D0, D0 = F j := ⟨_, rfl⟩
            rw [← hA0] at q1 X HV
            rw [← hC0] at q3 c5 X HV
            rw [← hD0] at q9 c5 X HV Dz Dz2
            obtain ⟨M0, hM0⟩ : ∃ M0, M0 = fm 65581 D0 C0 := ⟨_, rfl⟩
            rw [← hM0] at c5 X HV
            obtain ⟨M2, hM2⟩ : ∃ M2, M2 = A0 ^^^ M0 := ⟨_, rfl⟩
            rw [← hM2] at X HV
            clear hr hb z0 z1 z2 z3 z4 z5 hz htn lm8 hA0 hC0 hD0 hM0 hM2
            go_wp2
            refine region_planT (fun w' => w'.cell? ⟨w1.heap.size, t, none⟩ = some (.int .u16 (A0 : Nat)) ∧ w'.cell? ⟨b, o + j, none⟩ = some (.int .u16 (D0 : Nat)) ∧ w'.cell? ⟨gl, j, none⟩ = some (.slice (some ⟨gj, 0, none⟩) K K) ∧ w'.cell? ⟨gj, t, none⟩ = some (.int .u16 (C0 : Nat))) 19 [17, 1] 61 ⟨q1, q9, q0, q3⟩ (by kernel_rfl) (by kernel_rfl) (fun _ a d v _ h => by cases d <;> exact h) ?_
            refine planT_step ?A1x0 rfl (fun w' hS => ?s1x0) rfl (fun K hK => ?n1x0)
            case s1x0 =>
              obtain ⟨hS1, hS2, hS3, hS4⟩ := hS
              simp only [List.take_succ_cons, List.take_zero]
              repeat still_step
              exact rfl
            case n1x0 =>
            go_simp
            go_wp2_with (go_at_call 33; ((with_reducible refine c5.mono ?_); rintro e w9 ⟨rfl, hw9⟩; have hw9 := hw9.symm; subst hw9))
            refine hK _ _ ⟨q1, q9, q0, q3⟩ ?_
            clear hK K c5
            refine planT_last ?A2x0 rfl (fun w' hS => ?s2x0) rfl ?n2x0
            case s2x0 =>
              simp only [List.take_succ_cons, List.take_zero]
              repeat still_step
              exact rfl
            case n2x0 =>
            simp only [List.drop_succ_cons, List.drop_zero]
            go_wp2
            go_roundw
            case rel => exact ⟨t + 1, htt, by first | rfl | (rw [W2]; rfl), HV.out.1.drew, HV.out.2.drew⟩
            case measure => first | exact meas_lt8 htt | (rw [W2]; exact meas_lt8 htt)
        · have htK : t = K := Nat.le_antisymm ht (Nat.le_of_not_lt htt)
          have tb : ¬ ((t : Nat) : Int) < (K : Int) := fun e => htt (Int.ofNat_lt.1 e)
          have HV : Hid (R6 wr w1.heap.size n (qs F (j + 1)) ∧ Below w1.heap.size w1 wr) := ⟨hr.congr (fun y _ => by
            by_cases h9 : y < t
            · rw [if_pos h9]
            · rw [if_neg h9, qs_next, mb_beyond z5 (by rw [← HK.out]; omega), fld16.fm_zero, Nat.xor_zero]), hb⟩
          clear hr hb z0 z1 z2 z3 z4 z5 htK
          go_wp2
          go_roundw
          case rel => exact ⟨j + 1, hjt, by first | rfl | (rw [W1]; rfl), HV.out.1, HV.out.2⟩
          case measure => first | exact meas_lt8 hjt | (rw [W1]; exact meas_lt8 hjt)
    · have hjn : j = n := Nat.le_antisymm hj (Nat.le_of_not_lt hjt)
      subst hjn
      have jb : ¬ ((j : Nat) : Int) < (j : Int) := Int.lt_irrefl _
      have HV : Hid (R6 wr w1.heap.size j (bp k F) ∧ Below w.heap.size w wr) := ⟨by rw [← qs_bp HN.out.1 HN.out.2.2 HF.out]; exact hr, bthen13 HM.out.size hb⟩
      clear hr hb
      go_wp2
      go_ret2
      exact ⟨_, rfl, HV.out⟩
end Go.Proofs.YtidcdbjhkgpjcaaDoor
