import Derived.Test.YtoofoamondepoaaDoorLrb
import Derived.Test.YtoofoamondepoaaDoorEsj
namespace Go.Proofs.YtoofoamondepoaaDoor
open Go.RowKit Gf2
set_option linter.unusedVariables false

/-- what U rounds have made of the next coefficients. -/
def ld (t U x : Nat) : Nat := (if 1 ≤ x ∧ x ≤ U then oc (x - 1) t else 0) ^^^ (if x < U then oc x t else 0)
theorem ld_end : ∀ t, t < 16 → ∀ x, x < t + 2 → ld t (t + 1) x = oc x (t + 1) := by decide +kernel
theorem ld_lt (t U x : Nat) : ld t U x < 65536 := by
  unfold ld
  refine Nat.xor_lt_two_pow (n := 16) ?_ ?_
  · split
    · exact oc_lt _ _
    · exact Nat.zero_lt_succ _
  · split
    · exact oc_lt _ _
    · exact Nat.zero_lt_succ _
/-- between the two statements of a round. -/
def lm (t U x : Nat) : Nat := if x = U + 1 then oc U t else ld t U x
theorem ld_0 (t x : Nat) : ld t 0 x = 0 := by
  unfold ld
  rw [if_neg (by omega), if_neg (Nat.not_lt_zero _)]
  rfl
theorem ld_top (t U : Nat) : ld t U (U + 1) = 0 := by
  unfold ld
  rw [if_neg (by omega), if_neg (by omega)]
  rfl
theorem lm_next (t U x : Nat) : (if x = U then lm t U U ^^^ oc U t else lm t U x) = ld t (U + 1) x := by
  unfold lm
  by_cases e : x = U
  · subst e
    rw [if_pos rfl, if_neg (by omega)]
    unfold ld
    rw [if_neg (show ¬ x < x by omega), if_pos (show x < x + 1 by omega)]
    by_cases h : 1 ≤ x
    · rw [if_pos (by omega), if_pos (by omega), Nat.xor_zero]
    · rw [if_neg (by omega), if_neg (by omega), Nat.xor_zero]
  · rw [if_neg e]
    by_cases e2 : x = U + 1
    · subst e2
      rw [if_pos rfl]
      unfold ld
      rw [if_pos (by omega), if_neg (by omega), Nat.xor_zero, Nat.add_sub_cancel]
    · rw [if_neg e2]
      unfold ld
      by_cases h : x < U
      · by_cases h1 : 1 ≤ x
        · rw [if_pos (by omega), if_pos h, if_pos (by omega), if_pos (by omega)]
        · rw [if_neg (by omega), if_pos h, if_neg (by omega), if_pos (by omega)]
      · rw [if_neg (by omega), if_neg h, if_neg (by omega), if_neg (by omega)]
theorem sq_bit (t i : Nat) : fm 65581 (oc t i) (oc t i) = oc t i := by
  rcases oc_bit t i with h | h <;> rw [h]
  · exact zero_fm16 0
  · exact fld16.one_fm (by decide)
theorem fm_bit (t i : Nat) : fm 65581 (oc t i) 1 = oc t i := fld16.fm_one (oc_lt t i)
theorem sv_cbn {t : Nat} (ht : t < 16) : sv t (cbn t) = 1 := by
  rw [← we_pow t ht, sv_we (Nat.lt_of_le_of_lt (Nat.pow_le_pow_right (by decide) (show t ≤ 15 by omega)) (by decide)) t, Nat.div_self (Nat.two_pow_pos t)]
  decide
set_option maxHeartbeats 4000000 in
set_option maxRecDepth 100000 in
theorem refLinear13_yes (i : Nat) (hi : i ≤ 16) (w : World) :
    Calls Tryd.prog 41 #[.int .i64 (i : Int)] w fun e w' => ∃ g, e = .returned (.tuple #[.slice (some ⟨g, 0, none⟩) (i + 1) (i + 1), .int .i64 0]) ∧ R6 w' g (i + 1) (fun t => oc t i) ∧ Below w.heap.size w w' := by
  have a0 := below_alloc w (.cells #[.int .u16 1] 26)
  have r0 : R6 (w.alloc (.cells #[.int .u16 1] 26)) w.heap.size 1 (fun t => oc t 0) := by
    refine ⟨by decide, fun t _ => oc_lt t 0, _, heap_alloc_new _ _, rfl, fun t ht => ?_⟩
    obtain rfl : t = 0 := by omega
    rfl
  have c1 : Calls Tryd.prog 57 #[] (w.alloc (.cells #[.int .u16 1] 26)) fun e w2 => ∃ g cap, e = .returned (.slice (some ⟨g, 0, none⟩) 16 cap) ∧ Hid (Q6 w2 (.slice (some ⟨g, 0, none⟩) 16 cap) 16 cbn ∧ R6 w2 w.heap.size 1 (fun t => oc t 0) ∧ Below w.heap.size w w2) :=
    (refBasis_any _).mono fun e w2 ⟨g, cap, he, h1, h2, h3⟩ => ⟨g, cap, he, own_q6 h1 h2 (by decide) (fun j hj => ⟨cbt_get hj, cbn_lt j hj⟩), r0.below h3, bthen13 a0 h3⟩
  have D1 : decide ((i : Int) < 0) = false := by simp
  have D2 : decide ((16 : Int) < (i : Int)) = false := by simp; omega
  clear a0 r0
  go_enter Tryd.func41, Tryd.ntmps41
  go_wp2_with (go_at_call 57; ((with_reducible refine (c1).mono ?_); (rintro e w2 ⟨gb, capb, rfl, HQ⟩)))
  clear c1
  go_loopw [4, 6] (fun cv tv wr => ∃ t gc : Nat, t ≤ i ∧ tv = .int .i64 t ∧ cv = .slice (some ⟨gc, 0, none⟩) (t + 1) (t + 1) ∧ R6 wr gc (t + 1) (fun x => oc x t) ∧ Q6 wr (.slice (some ⟨gb, 0, none⟩) 16 capb) 16 cbn ∧ Below w.heap.size w wr) (fun _ tv _ => i - (intOf tv).toNat)
  case atStart => exact ⟨0, w.heap.size, Nat.zero_le _, rfl, rfl, HQ.out.2.1, HQ.out.1, HQ.out.2.2⟩
  case round =>
    obtain ⟨t, gc, ht, rfl, rfl, hr, hq, hb⟩ := hrel
    by_cases hlt : t < i
    · have ht16 : t < 16 := by omega
      have tb : ((t : Nat) : Int) < (i : Int) := Int.ofNat_lt.2 hlt
      have tb16 : ((t : Nat) : Int) < 16 := Int.ofNat_lt.2 ht16
      have W1 := wrap_succ8 (j := t) (Nat.lt_trans ht16 (by decide))
      have q0 : wr.cell? ⟨gb, t, none⟩ = some (.int .u16 (cbn t : Nat)) := by
        obtain ⟨-, -, a, c, e, -, -, h4⟩ := id hq
        cases e
        obtain ⟨b, o, e2, -, hc⟩ := h4 (by decide)
        cases e2
        have := hc t ht16
        rwa [Nat.zero_add] at this
      obtain ⟨N, hN⟩ : ∃ N, N = t + 1 := ⟨_, rfl⟩
      rw [← hN] at hr ⊢
      have c2 : Calls Tryd.prog 56 #[.int .i64 (t : Int), .int .u16 (cbn t : Nat)] wr fun e w3 => e = .returned (.int .u16 1) ∧ Hid (R6 w3 gc N (fun x => oc x t) ∧ Q6 w3 (.slice (some ⟨gb, 0, none⟩) 16 capb) 16 cbn ∧ Below w.heap.size w w3) :=
        (refvanish13 t (cbn t) wr (by omega) (cbn_lt t ht16)).mono fun e w3 ⟨he, h3⟩ => ⟨by rw [he, sv_cbn ht16]; rfl, hr.below h3, hq.below h3, bthen13 hb h3⟩
      obtain ⟨L, hL⟩ : ∃ L, L = N + 1 := ⟨_, rfl⟩
      have hmk := make_w6 L (by omega)
      have W2 : wrap64 ((N : Int) + 1) = (L : Int) := by rw [hL]; exact wrap_succ8 (j := N) (by unfold big; omega)
      have HN : Hid (N = t + 1 ∧ t < 16 ∧ L = N + 1) := ⟨hN, ht16, hL⟩
      clear hr hq hb hN ht16 hL
      obtain ⟨B, hB⟩ : ∃ B, B = cbn t := ⟨_, rfl⟩
      rw [← hB] at q0 c2
      clear hB
      go_wp2_with (go_at_call 56; ((with_reducible refine (c2).mono ?_); (rintro e w3 ⟨rfl, H3⟩)))
      clear hmk c2 q0
      rw [W2]
      have R1 : Hid (R6 (w3.alloc (.cells (madeCells #[.int .u16 0] L) 26)) w3.heap.size L (ld t 0)) := (made_r6 L (by have := HN.out; omega) w3).congr (fun x _ => (ld_0 t x).symm)
      have B1 : Hid (Below w3.heap.size w3 (w3.alloc (.cells (madeCells #[.int .u16 0] L) 26))) := made_b6 _ w3
      go_loopw [9] (fun uv wq => ∃ U : Nat, U ≤ N ∧ uv = .int .i64 U ∧ R6 wq w3.heap.size L (ld t U) ∧ Below w3.heap.size w3 wq) (fun uv _ => N - (intOf uv).toNat)
      case atStart => exact ⟨0, Nat.zero_le _, rfl, R1.out, B1.out⟩
      case round =>
        obtain ⟨U, hU, rfl, hr, hb⟩ := hrel
        by_cases hUt : U < N
        · have ub : ((U : Nat) : Int) < (N : Int) := Int.ofNat_lt.2 hUt
          obtain ⟨V, hV⟩ : ∃ V, V = U + 1 := ⟨_, rfl⟩
          have W3 : wrap64 ((U : Int) + 1) = (V : Int) := by rw [hV]; exact wrap_succ8 (j := U) (Nat.lt_trans hUt (by have := HN.out; unfold big; omega))
          have W3k := wrap_k W3
          have hVL : V < L := by rw [hV, HN.out.2.2]; exact Nat.succ_lt_succ hUt
          have ub2 : ((V : Nat) : Int) < (L : Int) := Int.ofNat_lt.2 hVL
          have ub3 : ((U : Nat) : Int) < (L : Int) := Int.ofNat_lt.2 (by rw [HN.out.2.2]; exact Nat.lt_succ_of_lt hUt)
          have HV9 : Hid (V = U + 1) := hV
          have hgc := H3.out.1.lt
          have q1 : wr.cell? ⟨gc, U, none⟩ = some (.int .u16 (oc U t : Nat)) := (hb.cell (p := ⟨gc, U, none⟩) hgc).trans (H3.out.1.2.2.cell hUt)
          have q2 : wr.cell? ⟨w3.heap.size, V, none⟩ = some (.int .u16 (ld t U V : Nat)) := hr.2.2.cell hVL
          have q3 := hr.2.2.frozen V
          have q4 := hr.2.2.frozen U
          have c5 := refMulH_nat (oc U t) (oc U t) wr.drew (oc_lt _ _) (oc_lt _ _)
          rw [sq_bit] at c5
          have X := u16_xor_nat (ld t U V) (oc U t) (ld_lt _ _ _) (oc_lt _ _)
          have e0 : ld t U V ^^^ oc U t = oc U t := by rw [hV, ld_top, Nat.zero_xor]
          rw [e0] at X
          have HM : Hid (R6 (wr.setCell ⟨w3.heap.size, V, none⟩ (.int .u16 ((oc U t : Nat) : Int))) w3.heap.size L (lm t U) ∧ Below w3.heap.size w3 (wr.setCell ⟨w3.heap.size, V, none⟩ (.int .u16 ((oc U t : Nat) : Int)))) :=
            ⟨by unfold lm; rw [← hV]; exact hr.set V _ (oc_lt _ _), hb.setCell (Nat.le_refl _) _⟩
          obtain ⟨A0, hA0⟩ : ∃ A0, A0 = ld t U V := ⟨_, rfl⟩
          obtain ⟨C0, hC0⟩ : ∃ C0, C0 = oc U t := ⟨_, rfl⟩
          rw [← hA0] at q2 X
          rw [← hC0] at q1 c5 X HM
          have HC0 : Hid (C0 = oc U t) := hC0
          clear hr hb e0 hA0 hC0 hV hVL
          go_wp2
          refine region_planT (fun w' => w'.cell? ⟨w3.heap.size, V, none⟩ = some (.int .u16 (A0 : Nat)) ∧ w'.cell? ⟨gc, U, none⟩ = some (.int .u16 (C0 : Nat))) 18 [16, 1] 74 ⟨q2, q1⟩ (by kernel_rfl) (by kernel_rfl) (fun _ a d v _ h => by cases d <;> exact h) ?_
          refine planT_step ?A1x0 rfl (fun w' hS => ?s1x0) rfl (fun K hK => ?n1x0)
          case s1x0 =>
            obtain ⟨hS1, hS2⟩ := hS
            simp only [List.take_succ_cons, List.take_zero]
            repeat still_step
            exact rfl
          case n1x0 =>
          go_simp
          go_wp2_with (go_at_call 58; ((with_reducible refine c5.mono ?_); rintro e w9 ⟨rfl, hw9⟩; have hw9 := hw9.symm; subst hw9))
          refine hK _ _ ⟨q2, q1⟩ ?_
          clear hK K c5
          refine planT_last ?A2x0 rfl (fun w' hS => ?s2x0) rfl ?n2x0
          case s2x0 =>
            simp only [List.take_succ_cons, List.take_zero]
            repeat still_step
            exact rfl
          case n2x0 =>
          simp only [List.drop_succ_cons, List.drop_zero]
          go_wp2
          clear q1 q2 q3 q4 X
          obtain ⟨Z, hZ⟩ : ∃ Z, Z = (wr.setCell ⟨w3.heap.size, V, none⟩ (.int .u16 ((C0 : Nat) : Int))).drew := ⟨_, rfl⟩
          rw [← hZ]
          have hm1 : R6 Z w3.heap.size L (lm t U) := by rw [hZ]; exact HM.out.1.drew
          have hm2 : Below w3.heap.size w3 Z := by rw [hZ]; exact HM.out.2.drew
          clear HM hZ
          have hUL : U < L := by rw [HN.out.2.2]; exact Nat.lt_succ_of_lt hUt
          have q1 : Z.cell? ⟨gc, U, none⟩ = some (.int .u16 (C0 : Nat)) := by rw [HC0.out]; exact (hm2.cell (p := ⟨gc, U, none⟩) hgc).trans (H3.out.1.2.2.cell hUt)
          have q2 : Z.cell? ⟨w3.heap.size, U, none⟩ = some (.int .u16 (lm t U U : Nat)) := hm1.2.2.cell hUL
          have q3 := hm1.2.2.frozen U
          have c6 : Calls Tryd.prog 58 #[.int .u16 (C0 : Nat), .int .u16 1] Z.drew fun e w' => e = .returned (.int .u16 (C0 : Nat)) ∧ w' = Z.drew := by
            have c := refMulH_nat (oc U t) 1 Z.drew (oc_lt _ _) (by decide)
            rw [fm_bit, ← HC0.out] at c
            exact c
          have lm0 : lm t U U < 65536 := hm1.2.1 U hUL
          have X := u16_xor_nat (lm t U U) C0 lm0 (by rw [HC0.out]; exact oc_lt _ _)
          have lx : lm t U U ^^^ C0 < 65536 := Nat.xor_lt_two_pow (n := 16) lm0 (by rw [HC0.out]; exact oc_lt _ _)
          have HE : Hid (R6 (Z.setCell ⟨w3.heap.size, U, none⟩ (.int .u16 ((lm t U U ^^^ C0 : Nat) : Int))) w3.heap.size L (ld t (U + 1)) ∧ Below w3.heap.size w3 (Z.setCell ⟨w3.heap.size, U, none⟩ (.int .u16 ((lm t U U ^^^ C0 : Nat) : Int)))) :=
            ⟨(hm1.set U _ lx).congr (fun x _ => by rw [HC0.out]; exact lm_next t U x), hm2.setCell (Nat.le_refl _) _⟩
          obtain ⟨A1, hA1⟩ : ∃ A1, A1 = lm t U U := ⟨_, rfl⟩
          rw [← hA1] at q2 X HE
          obtain ⟨M2, hM2⟩ : ∃ M2, M2 = A1 ^^^ C0 := ⟨_, rfl⟩
          rw [← hM2] at X HE
          clear hm1 hm2 lm0 lx hA1 hM2 hUL hgc
          refine region_planT (fun w' => w'.cell? ⟨w3.heap.size, U, none⟩ = some (.int .u16 (A1 : Nat)) ∧ w'.cell? ⟨gc, U, none⟩ = some (.int .u16 (C0 : Nat))) 13 [11, 1] 74 ⟨q2, q1⟩ (by kernel_rfl) (by kernel_rfl) (fun _ a d v _ h => by cases d <;> exact h) ?_
          refine planT_step ?B1x0 rfl (fun w' hS => ?t1x0) rfl (fun K hK => ?m1x0)
          case t1x0 =>
            obtain ⟨hS1, hS2⟩ := hS
            simp only [List.take_succ_cons, List.take_zero]
            repeat still_step
            exact rfl
          case m1x0 =>
          go_simp
          go_wp2_with (go_at_call 58; ((with_reducible refine c6.mono ?_); rintro e w9 ⟨rfl, hw9⟩; have hw9 := hw9.symm; subst hw9))
          refine hK _ _ ⟨q2, q1⟩ ?_
          clear hK K c6
          refine planT_last ?B2x0 rfl (fun w' hS => ?t2x0) rfl ?m2x0
          case t2x0 =>
            simp only [List.take_succ_cons, List.take_zero]
            repeat still_step
            exact rfl
          case m2x0 =>
          simp only [List.drop_succ_cons, List.drop_zero]
          go_wp2
          go_roundw
          case rel => exact ⟨U + 1, hUt, by first | rw [HV9.out] | rw [W3, HV9.out], HE.out.1.drew, HE.out.2.drew⟩
          case measure => first | (rw [HV9.out]; exact meas_lt8 hUt) | (rw [W3, HV9.out]; exact meas_lt8 hUt)
        · have hUN : U = N := Nat.le_antisymm hU (Nat.le_of_not_lt hUt)
          have HF : Hid (R6 wr w3.heap.size L (ld t U) ∧ Below w3.heap.size w3 wr) := ⟨hr, hb⟩
          clear hr hb
          subst hUN
          go_wp2
          go_roundw
          case rel =>
            obtain ⟨n1, n2, n3⟩ := HN.out
            refine ⟨t + 1, w3.heap.size, hlt, by first | rfl | (rw [W1]; rfl), by rw [n3, n1], ?_, H3.out.2.1.below HF.out.2, bthen13 H3.out.2.2 HF.out.2⟩
            have h := HF.out.1
            rw [n3, n1] at h
            exact h.congr (fun x hx => ld_end t n2 x hx)
          case measure => first | exact meas_lt8 hlt | (rw [W1]; exact meas_lt8 hlt)
    · have hti : t = i := Nat.le_antisymm ht (Nat.le_of_not_lt hlt)
      subst hti
      have HV : Hid (R6 wr gc (t + 1) (fun x => oc x t) ∧ Below w.heap.size w wr) := ⟨hr, hb⟩
      clear hr hq hb
      go_wp2
      go_ret2
      exact ⟨gc, rfl, HV.out⟩
set_option maxHeartbeats 2000000 in
set_option maxRecDepth 100000 in
theorem refLinear13_no (i : Int) (hi : ¬ (0 ≤ i ∧ i ≤ 16)) (w : World) :
    Calls Tryd.prog 41 #[.int .i64 i] w fun e w' => e = .returned (.tuple #[.slice none 0 0, .int .i64 7]) ∧ w' = w := by
  by_cases h1 : i < 0
  · have D1 : decide (i < 0) = true := by simpa using h1
    clear hi h1
    go_enter Tryd.func41, Tryd.ntmps41
    go_wp2
    go_ret2
    exact ⟨rfl, rfl⟩
  · have D1 : decide (i < 0) = false := by simpa using h1
    have D2 : decide (16 < i) = true := by simp; omega
    clear hi h1
    go_enter Tryd.func41, Tryd.ntmps41
    go_wp2
    go_ret2
    exact ⟨rfl, rfl⟩
end Go.Proofs.YtoofoamondepoaaDoor
