import Derived.Test.YtidcdbjhkgpjcaaDoorLme
namespace Go.Proofs.YtidcdbjhkgpjcaaDoor
open Go.RowKit Gf2
set_option linter.unusedVariables false

theorem mb_top : ∀ i, i ≤ 8 → ∀ j, j < 2 ^ i → mb i j j = 1 := by
  intro i
  induction i with
  | zero => intro _ j hj; obtain rfl : j = 0 := by simpa using hj
            rfl
  | succ i ih =>
    intro hi j hj
    show (if j < 2 ^ i then mb i j else pm 65581 (mb i (j - 2 ^ i)) (sp i)) j = 1
    rw [Nat.pow_succ] at hj
    by_cases h : j < 2 ^ i
    · rw [if_pos h]; exact ih (by omega) j h
    · rw [if_neg h]
      have h1 := fld16.top_pm (mb_dg i (j - 2 ^ i) (by omega)) (sp_dg i)
      rw [show j - 2 ^ i + 2 ^ i = j by omega] at h1
      rw [h1, ih (by omega) _ (by omega), sp_top (by omega), fld16.fm_one (by decide)]
/-- D, but a at K. -/
def ud (D : Nat → Nat) (K a : Nat) : Nat → Nat := fun y => if y = K then a else D y
theorem qs_ud {D : Nat → Nat} {K a : Nat} (h0 : D K = 0) : ∀ n y, qs (ud D K a) n y = qs D n y ^^^ (if K < n then fm 65581 a (mb 8 K y) else 0) := by
  intro n
  induction n with
  | zero => intro y; rw [if_neg (Nat.not_lt_zero _), Nat.xor_zero]; rfl
  | succ n ih =>
    intro y
    rw [qs_next, qs_next, ih y]
    by_cases e : n = K
    · subst e
      have e1 : ud D n a n = a := if_pos rfl
      rw [e1, h0, zero_fm16, if_neg (Nat.lt_irrefl _), if_pos (Nat.lt_succ_self _), Nat.xor_zero]
    · have e1 : ud D K a n = D n := if_neg e
      rw [e1]
      by_cases h : K < n
      · rw [if_pos h, if_pos (by omega), Nat.xor_assoc, Nat.xor_assoc, Nat.xor_comm (fm 65581 a _)]
      · rw [if_neg h, if_neg (by omega), Nat.xor_zero, Nat.xor_zero]
theorem wrap_dn256 {K n : Nat} (h : K < n) (hn : n ≤ 256) : wrap64 ((K : Int) - 1) = (K : Int) - 1 := by unfold wrap64; omega
theorem qs_zero : ∀ n y, qs (fun _ => 0) n y = 0 := by
  intro n
  induction n with
  | zero => intro y; rfl
  | succ n ih => intro y; rw [qs_next, ih, zero_fm16]; rfl
/-- the rows of FromMonomials when J places are left. -/
structure Sf (w1 W : World) (gL gD n : Nat) (F D Lf : Nat → Nat) (J : Nat) : Prop where
  bel : Below w1.heap.size w1 W
  left : R6 W gL n Lf
  d : R6 W gD n D
  eq : ∀ y, y < n → Lf y = F y ^^^ qs D n y
  done : ∀ y, y < n → J ≤ y → Lf y = 0
  zero : ∀ y, y < J → D y = 0
theorem from_only {n k : Nat} (hn : n = 2 ^ k) (hk : k ≤ 8) {F D : Nat → Nat} (hd : ∀ y, y < n → fol n k k F y < 65536) (hD : ∀ y, y < n → D y < 65536) (h : ∀ y, y < n → F y = qs D n y) : ∀ y, y < n → D y = fol n k k F y := by
  intro y hy
  refine bp_only k (by omega) D (fol n k k F) (fun z hz => hD z (by rw [hn]; exact hz)) (fun z hz => hd z (by rw [hn]; exact hz)) ?_ y (hn ▸ hy)
  funext z
  by_cases hz : z < n
  · rw [from_bp hn (by omega) hd hz, h z hz, qs_bp hn hk hD]
  · rw [bp_dg k D z (by rw [← hn]; omega), bp_dg k _ z (by rw [← hn]; omega)]
set_option maxHeartbeats 8000000 in
set_option maxRecDepth 100000 in
theorem refFrom13_yes (v : Value) (k n : Nat) (F : Nat → Nat) (hn : n = 2 ^ k) (hk : k ≤ 8) (hd : ∀ y, y < n → fol n k k F y < 65536) (w : World) (h : Q6 w v n F) :
    Calls Tryd.prog 24 #[v] w fun e w' => ∃ g, e = .returned (.tuple #[.slice (some ⟨g, 0, none⟩) n n, .int .i64 0]) ∧ R6 w' g n (fol n k k F) ∧ Below w.heap.size w w' := by
  have hn2 : n ≤ 256 := by rw [hn]; exact Nat.pow_le_pow_right (by decide) hk
  have h0 : 0 < n := by rw [hn]; exact Nat.two_pow_pos k
  obtain ⟨hb0, hF, a, cap, rfl, hc1, hc2, h4⟩ := h
  obtain ⟨b, o, rfl, hbl, hcell⟩ := h4 h0
  have c1 : Calls Tryd.prog 39 #[.int .i64 (n : Int), .int .i64 256] w fun e w' => e = .returned (.bool true) ∧ w' = w :=
    (refpower13 n 256 (by decide) w).mono fun e w' ⟨⟨h1, _⟩, hw⟩ => ⟨h1 ⟨k, hn, hn2⟩, hw⟩
  have c2 : Calls Tryd.prog 40 #[.int .i64 (n : Int)] w fun e w1 => ∃ gl C w2, e = .returned (.slice (some ⟨gl, 0, none⟩) n C) ∧
      (Builtin.copy_ #[27, 27] 3 #[.slice (some ⟨w1.heap.size, 0, none⟩) n n, .slice (some ⟨b, o, none⟩) n cap]).run Tryd.prog (w1.alloc (.cells (madeCells #[.int .u16 0] n) 26)) = .ok (goInt n) w2 ∧
      Hid (Mm w w1 (.slice (some ⟨gl, 0, none⟩) n C) n ∧ R6 w2 w1.heap.size n F ∧ Below w1.heap.size w1 w2) :=
    (members13 n k w hn hk).mono fun e w1 ⟨lv, he, hm⟩ => by
      obtain ⟨gl, C, rfl⟩ := hm.form
      have b1 := made_b6 n w1
      obtain ⟨w2, hrun, hR, ho⟩ := copy6w _ (made_r6 n (by omega) w1) (a := some ⟨b, o, none⟩) (cap' := cap) (S := F) hF (fun _ => ⟨b, o, rfl, fun i hi => ((bthen13 hm.size b1).cell (p := ⟨b, o + i, none⟩) hbl).trans (hcell i hi)⟩)
      exact ⟨gl, C, w2, he, hrun, hm, hR, b1.trans (ho.below (Nat.le_refl _))⟩
  have hmk := make_w6 n (by omega)
  have W0 : wrap64 ((n : Int) - 1) = (n : Int) - 1 := by unfold wrap64; omega
  have HN : Hid (n = 2 ^ k ∧ n ≤ 256 ∧ k ≤ 8 ∧ ∀ y, y < n → fol n k k F y < 65536) := ⟨hn, hn2, hk, hd⟩
  clear hn hn2 h0 hk hF hcell hbl h4 hc1 hc2 hb0 hd
  go_enter Tryd.func24, Tryd.ntmps24
  go_wp2_with (first | (go_at_call 39; ((with_reducible refine (c1).mono ?_); (rintro e w9 ⟨rfl, hw9⟩; have hw9 := hw9.symm; subst hw9))) | (go_at_call 40; ((with_reducible refine (c2).mono ?_); (rintro e w1 ⟨gl, C, w2, rfl, hcp, HM⟩))))
  clear hmk c1 c2 hcp
  simp only [W0]
  have S0 : Hid (Sf w1 (w2.alloc (.cells (madeCells #[.int .u16 0] n) 26)) w1.heap.size w2.heap.size n F (fun _ => 0) F n) := by
    obtain ⟨h1, h2, h3⟩ := HM.out
    have b2 := made_b6 n w2
    exact ⟨bthen13 h3 b2, h2.below b2, made_r6 n (by have := HN.out.2.1; omega) w2, fun y _ => by rw [qs_zero, Nat.xor_zero], fun y hy hy2 => absurd hy (by omega), fun _ _ => rfl⟩
  have HG : Hid (w1.heap.size < w2.heap.size) := HM.out.2.1.lt
  go_loopw [7] (fun jv wr => ∃ (J : Nat) (x : Int) (D Lf : Nat → Nat), J ≤ n ∧ x + 1 = (J : Int) ∧ jv = .int .i64 x ∧ Sf w1 wr w1.heap.size w2.heap.size n F D Lf J) (fun jv _ => (intOf jv + 1).toNat)
  case atStart => exact ⟨n, (n : Int) - 1, _, _, Nat.le_refl _, Int.sub_add_cancel _ _, rfl, S0.out⟩
  case round =>
    obtain ⟨J, x, D, Lf, hJ, hxJ, rfl, hs⟩ := hrel
    cases J with
    | zero =>
      obtain rfl : x = -1 := dn_zero13 hxJ
      have HV : Hid (R6 wr w2.heap.size n (fol n k k F) ∧ Below w.heap.size w wr) := ⟨hs.d.congr (fun y hy => from_only HN.out.1 HN.out.2.2.1 HN.out.2.2.2 (fun z hz => hs.d.2.1 z hz) (fun z hz => by
        have h1 := hs.eq z hz
        rw [hs.done z hz (Nat.zero_le _)] at h1
        exact xor_eq_zero h1.symm) y hy), bthen13 HM.out.1.size hs.bel⟩
      clear hs hxJ
      go_wp2
      go_ret2
      exact ⟨_, rfl, HV.out⟩
    | succ K =>
      obtain rfl : x = (K : Int) := dn_eq13 hxJ
      have hKn : K < n := hJ
      have kb : ((K : Nat) : Int) < (n : Int) := Int.ofNat_lt.2 hKn
      have W1 : wrap64 ((K : Int) - 1) = (K : Int) - 1 := wrap_dn256 hKn HN.out.2.1
      obtain ⟨gx, Cx, U, ex, x1, x2, x3, x4, x5, x6⟩ := HM.out.1
      cases ex
      obtain ⟨M, y1, y2, y3⟩ := x6 K hKn
      have y9 := y1.1
      obtain ⟨-, -, gj, -, ej, yrow⟩ := y1
      have hMn : M.length ≤ n := by omega
      have HX : Hid (M.length ≤ n ∧ gl < w1.heap.size ∧ w1.cell? ⟨gl, K, none⟩ = some (.slice (some ⟨gj, 0, none⟩) M.length M.length) ∧ gj < w1.heap.size ∧ (∀ t, t < M.length → w1.cell? ⟨gj, t, none⟩ = some (.int .u16 (mb 8 K t : Nat))) ∧ co M = mb 8 K ∧ ∀ x ∈ M, x < 65536) :=
        ⟨hMn, x3.lt, by rw [x3.cell (show K < C by omega), ej], yrow.lt, fun t ht => by rw [yrow.cell ht, y2], y2, y9⟩
      obtain ⟨Q, hQ⟩ : ∃ Q, Q = M.length := ⟨_, rfl⟩
      rw [← hQ] at HX
      have HQ : Hid (Q = M.length) := hQ
      have p1 := hs.left.2.2.cell hKn
      have p2 := hs.d.2.2.cell hKn
      have p3 := hs.d.2.2.frozen K
      have la := hs.left.2.1 K hKn
      have hD0 : D K = 0 := hs.zero K (Nat.lt_succ_self _)
      obtain ⟨A, hA⟩ : ∃ A, A = Lf K := ⟨_, rfl⟩
      have HA : Hid (A = Lf K ∧ A < 65536) := ⟨hA, by rw [hA]; exact la⟩
      have HR : Hid (R6 (wr.setCell ⟨w2.heap.size, K, none⟩ (.int .u16 ((A : Nat) : Int))) w1.heap.size n Lf ∧ R6 (wr.setCell ⟨w2.heap.size, K, none⟩ (.int .u16 ((A : Nat) : Int))) w2.heap.size n (ud D K A) ∧ Below w1.heap.size w1 (wr.setCell ⟨w2.heap.size, K, none⟩ (.int .u16 ((A : Nat) : Int)))) :=
        ⟨⟨hs.left.1, hs.left.2.1, hs.left.2.2.of_block (heap_set_ne (Nat.ne_of_lt HG.out))⟩, hs.d.set K A (by rw [hA]; exact la), hs.bel.setCell (Nat.le_of_lt HG.out) _⟩
      have HE : Hid ((∀ y, y < n → Lf y ^^^ fm 65581 A (mb 8 K y) = F y ^^^ qs (ud D K A) n y) ∧ (∀ y, y < n → K ≤ y → Lf y ^^^ fm 65581 A (mb 8 K y) = 0) ∧ (∀ y, y < K → ud D K A y = 0)) := by
        refine ⟨fun y hy => by rw [qs_ud hD0, if_pos hKn, hs.eq y hy, Nat.xor_assoc], fun y hy hy2 => ?_, fun y hy => ?_⟩
        · have hK8 : K < 2 ^ 8 := by have := HN.out.2.1; simp; omega
          by_cases e : y = K
          · rw [e, mb_top 8 (Nat.le_refl _) K hK8, fld16.fm_one HA.out.2, hA, Nat.xor_self]
          · rw [hs.done y hy (by omega), mb_dg 8 K hK8 y (by omega), fld16.fm_zero]; rfl
        · show (if y = K then A else D y) = 0
          rw [if_neg (by omega)]
          exact hs.zero y (by omega)
      rw [← hA] at p1
      clear hs hxJ x1 x2 x3 x4 x5 x6 y2 y3 y9 ej yrow hMn hQ la hD0 hA
      go_wp2
      go_loopw [8] (fun tv wq => ∃ t : Nat, t ≤ Q ∧ tv = .int .i64 t ∧ R6 wq w1.heap.size n (fun y => if y < t then Lf y ^^^ fm 65581 A (mb 8 K y) else Lf y) ∧ R6 wq w2.heap.size n (ud D K A) ∧ Below w1.heap.size w1 wq) (fun tv _ => Q - (intOf tv).toNat)
      case atStart => exact ⟨0, Nat.zero_le _, rfl, HR.out.1.begin, HR.out.2.1, HR.out.2.2⟩
      case round =>
        obtain ⟨t, ht, rfl, hr, hd, hb⟩ := hrel
        obtain ⟨z0, z1, z2, z3, z4, z5, z6⟩ := HX.out
        have q0 : wr.cell? ⟨gl, K, none⟩ = some (.slice (some ⟨gj, 0, none⟩) Q Q) := (hb.cell (p := ⟨gl, K, none⟩) z1).trans z2
        have q9 : wr.cell? ⟨w2.heap.size, K, none⟩ = some (.int .u16 (A : Nat)) := by rw [hd.2.2.cell hKn]; unfold ud; rw [if_pos rfl]
        by_cases htt : t < Q
        · have tb : ((t : Nat) : Int) < (Q : Int) := Int.ofNat_lt.2 htt
          have htn : t < n := Nat.lt_of_lt_of_le htt z0
          have tb2 : ((t : Nat) : Int) < (n : Int) := Int.ofNat_lt.2 htn
          by_cases hz : A = 0
          · have HV : Hid (Sf w1 wr w1.heap.size w2.heap.size n F (ud D K A) (fun y => Lf y ^^^ fm 65581 A (mb 8 K y)) K) := ⟨hb, hr.congr (fun y _ => by
              by_cases h9 : y < t
              · rw [if_pos h9]
              · rw [if_neg h9, hz, zero_fm16, Nat.xor_zero]), hd, HE.out.1, HE.out.2.1, HE.out.2.2⟩
            rw [hz] at q9
            clear hr hd hb z0 z1 z2 z3 z4 z5 z6 hz htn
            go_wp2
            go_roundw
            case rel => exact ⟨K, (K : Int) - 1, _, _, Nat.le_of_lt hKn, Int.sub_add_cancel _ _, by first | rfl | rw [W1], HV.out⟩
            case measure => first | exact meas_dn13 K | (rw [W1]; exact meas_dn13 K)
          · have Dz : (((A : Nat) : Int) == 0) = false := by simp; exact hz
            have Dz2 : (((A : Nat) : Int) != 0) = true := by simp; exact hz
            have q1 := hr.2.2.cell htn
            simp only [Nat.lt_irrefl, if_false] at q1
            have q2 := hr.2.2.frozen t
            have q3 : wr.cell? ⟨gj, t, none⟩ = some (.int .u16 (mb 8 K t : Nat)) := (hb.cell (p := ⟨gj, t, none⟩) z3).trans (z4 t htt)
            have lm8 : mb 8 K t < 65536 := by rw [← z5]; exact co_lt z6 t
            have lLt : Lf t < 65536 := by
              have := hr.2.1 t htn
              simp only [Nat.lt_irrefl, if_false] at this
              exact this
            have c5 := refMulH_nat A (mb 8 K t) wr.drew HA.out.2 lm8
            have X := u16_xor_nat (Lf t) (fm 65581 A (mb 8 K t)) lLt (fm16_lt _ _)
            have HV : Hid (R6 (wr.setCell ⟨w1.heap.size, t, none⟩ (.int .u16 ((Lf t ^^^ fm 65581 A (mb 8 K t) : Nat) : Int))) w1.heap.size n (fun y => if y < t + 1 then Lf y ^^^ fm 65581 A (mb 8 K y) else Lf y) ∧ R6 (wr.setCell ⟨w1.heap.size, t, none⟩ (.int .u16 ((Lf t ^^^ fm 65581 A (mb 8 K t) : Nat) : Int))) w2.heap.size n (ud D K A) ∧ Below w1.heap.size w1 (wr.setCell ⟨w1.heap.size, t, none⟩ (.int .u16 ((Lf t ^^^ fm 65581 A (mb 8 K t) : Nat) : Int)))) :=
              ⟨hr.step (Nat.xor_lt_two_pow (n := 16) lLt (fm16_lt _ _)) rfl, ⟨hd.1, hd.2.1, hd.2.2.of_block (heap_set_ne (Nat.ne_of_gt HG.out))⟩, hb.setCell (Nat.le_refl _) _⟩
            have W2 := wrap_succ8 (j := t) (Nat.lt_of_lt_of_le htn (Nat.le_trans HN.out.2.1 (by decide)))
            obtain ⟨A0, hA0⟩ : ∃ A0, A0 = Lf t := ⟨_, rfl⟩
            obtain ⟨C0, hC0⟩ : ∃ C0, C0 = mb 8 K t := ⟨_, rfl⟩
            rw [← hA0] at q1 X
            rw [← hC0] at q3 c5 X
            obtain ⟨M0, hM0⟩ : ∃ M0, M0 = fm 65581 A C0 := ⟨_, rfl⟩
            rw [← hM0] at c5 X
            obtain ⟨M2, hM2⟩ : ∃ M2, M2 = A0 ^^^ M0 := ⟨_, rfl⟩
            rw [← hM2] at X
            have e9 : Lf t ^^^ fm 65581 A (mb 8 K t) = M2 := by rw [hM2, hM0, hA0, hC0]
            rw [e9] at HV
            clear hr hd hb z0 z1 z2 z3 z4 z5 z6 hz htn lm8 lLt hA0 hC0 hM0 hM2 e9
            go_wp2
            refine region_planT (fun w' => w'.cell? ⟨w1.heap.size, t, none⟩ = some (.int .u16 (A0 : Nat)) ∧ w'.cell? ⟨w2.heap.size, K, none⟩ = some (.int .u16 (A : Nat)) ∧ w'.cell? ⟨gl, K, none⟩ = some (.slice (some ⟨gj, 0, none⟩) Q Q) ∧ w'.cell? ⟨gj, t, none⟩ = some (.int .u16 (C0 : Nat))) 19 [17, 1] 76 ⟨q1, q9, q0, q3⟩ (by kernel_rfl) (by kernel_rfl) (fun _ a d v _ h => by cases d <;> exact h) ?_
            refine planT_step ?A1x0 rfl (fun w' hS => ?s1x0) rfl (fun K9 hK9 => ?n1x0)
            case s1x0 =>
              obtain ⟨hS1, hS2, hS3, hS4⟩ := hS
              simp only [List.take_succ_cons, List.take_zero]
              repeat still_step
              exact rfl
            case n1x0 =>
            go_simp
            go_wp2_with (go_at_call 33; ((with_reducible refine c5.mono ?_); rintro e w9 ⟨rfl, hw9⟩; have hw9 := hw9.symm; subst hw9))
            refine hK9 _ _ ⟨q1, q9, q0, q3⟩ ?_
            clear hK9 K9 c5
            refine planT_last ?A2x0 rfl (fun w' hS => ?s2x0) rfl ?n2x0
            case s2x0 =>
              simp only [List.take_succ_cons, List.take_zero]
              repeat still_step
              exact rfl
            case n2x0 =>
            simp only [List.drop_succ_cons, List.drop_zero]
            go_wp2
            go_roundw
            case rel => exact ⟨t + 1, htt, by first | rfl | (rw [W2]; rfl), HV.out.1.drew, HV.out.2.1.drew, HV.out.2.2.drew⟩
            case measure => first | exact meas_lt8 htt | (rw [W2]; exact meas_lt8 htt)
        · have tb : ¬ ((t : Nat) : Int) < (Q : Int) := fun e => htt (Int.ofNat_lt.1 e)
          have htQ : t = Q := Nat.le_antisymm ht (Nat.le_of_not_lt htt)
          have HV : Hid (Sf w1 wr w1.heap.size w2.heap.size n F (ud D K A) (fun y => Lf y ^^^ fm 65581 A (mb 8 K y)) K) := ⟨hb, hr.congr (fun y _ => by
            by_cases h9 : y < t
            · rw [if_pos h9]
            · rw [if_neg h9, mb_beyond z5 (by rw [← HQ.out]; omega), fld16.fm_zero, Nat.xor_zero]), hd, HE.out.1, HE.out.2.1, HE.out.2.2⟩
          clear hr hd hb z0 z1 z2 z3 z4 z5 z6 htQ
          go_wp2
          go_roundw
          case rel => exact ⟨K, (K : Int) - 1, _, _, Nat.le_of_lt hKn, Int.sub_add_cancel _ _, by first | rfl | rw [W1], HV.out⟩
          case measure => first | exact meas_dn13 K | (rw [W1]; exact meas_dn13 K)
end Go.Proofs.YtidcdbjhkgpjcaaDoor
