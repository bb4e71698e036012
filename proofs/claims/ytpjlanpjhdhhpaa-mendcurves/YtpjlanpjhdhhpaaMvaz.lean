import Derived.Test.YtpjlanpjhdhhpaaMvay
namespace Go.Proofs.Ytpjlanpjhdhhpaa
open Go.RowKit Gf2
set_option linter.unusedVariables false

set_option maxHeartbeats 4000000 in
set_option maxRecDepth 100000 in
theorem curves19 (ac ap am : Option Addr) (k cc n cp lm cm : Nat) (C : Nat → Nat) (P : Nat → Int) (M : Nat → Nat) (w : World) (hC : Rb w (.slice ac k cc) k C) (hP : Qi w (.slice ap n cp) n P) (hM : Rb w (.slice am lm cm) lm M) :
    Calls Try.prog 6 #[.agg #[.slice ac k cc, .slice ap n cp, .slice am lm cm]] w fun e w' => e = .returned (.bool true) ∧ Below w.heap.size w w' := by
  obtain ⟨bx, hbx⟩ : ∃ bx, bx = w.heap.size := ⟨_, rfl⟩
  have bW : Below w.heap.size w (w.alloc (.cells #[.slice ac k cc, .slice ap n cp, .slice am lm cm] 48)) := (Below.refl _ _).alloc (Nat.le_refl _) _
  have hblk : (w.alloc (.cells #[.slice ac k cc, .slice ap n cp, .slice am lm cm] 48)).heap[w.heap.size]? = some (.cells #[.slice ac k cc, .slice ap n cp, .slice am lm cm] 48 (0, 0)) := heap_alloc_new _ _
  have HZ : Hid (∀ W, Below (w.alloc (.cells #[.slice ac k cc, .slice ap n cp, .slice am lm cm] 48)).heap.size (w.alloc (.cells #[.slice ac k cc, .slice ap n cp, .slice am lm cm] 48)) W → W.cell? ⟨w.heap.size, 0, none⟩ = some (.slice ac k cc) ∧ W.cell? ⟨w.heap.size, 1, none⟩ = some (.slice ap n cp) ∧ W.cell? ⟨w.heap.size, 2, none⟩ = some (.slice am lm cm) ∧ Below w.heap.size w W ∧ Rb W (.slice ac k cc) k C ∧ Qi W (.slice ap n cp) n P ∧ Rb W (.slice am lm cm) lm M) := fun W hW => by
    have h := (hW.block _ (Array.getElem?_eq_some_iff.1 hblk).1).trans hblk
    have b := bW.trans (hW.mono bW.size)
    exact ⟨by rw [cell_of_row _ _ 0 _ _ _ h]; rfl, by rw [cell_of_row _ _ 1 _ _ _ h]; rfl, by rw [cell_of_row _ _ 2 _ _ _ h]; rfl, b, hC.below b, hP.below b, hM.below b⟩
  have c1 := awake19 (w.alloc (.cells #[.slice ac k cc, .slice ap n cp, .slice am lm cm] 48))
  clear bW hblk hbx hC hP hM
  go_enter Try.func6, Try.ntmps6
  go_upto_region 5 with (go_at_call 9; (with_reducible refine c1.mono ?_); rintro e w1 ⟨rfl, hb1⟩; clear c1; obtain ⟨z0, z1, z2, HW⟩ := HZ.out w1 hb1)
  have HV : Hid (∀ W, Below w1.heap.size w1 W → W.cell? ⟨w.heap.size, 0, none⟩ = some (.slice ac k cc) ∧ W.cell? ⟨w.heap.size, 1, none⟩ = some (.slice ap n cp) ∧ W.cell? ⟨w.heap.size, 2, none⟩ = some (.slice am lm cm) ∧ Below w.heap.size w W ∧ Rb W (.slice ac k cc) k C ∧ Qi W (.slice ap n cp) n P ∧ Rb W (.slice am lm cm) lm M) := fun W hW => HZ.out W (hb1.trans (hW.mono hb1.size))
  have HX : Hid _ := HW
  clear HZ hb1 HW
  by_cases h1 : k < 1
  · have i1 : (k : Int) < 1 := by omega
    go_wp2
    go_ret
    exact ⟨rfl, HX.out.1⟩
  by_cases h2 : n < k
  · have i1 : ¬ (k : Int) < 1 := by omega
    have i2 : (n : Int) < (k : Int) := by omega
    go_wp2
    go_ret
    exact ⟨rfl, HX.out.1⟩
  by_cases h3 : 96 < n
  · have i1 : ¬ (k : Int) < 1 := by omega
    have i2 : ¬ (n : Int) < (k : Int) := by omega
    have i3 : (96 : Int) < (n : Int) := by omega
    go_wp2
    go_ret
    exact ⟨rfl, HX.out.1⟩
  have i1 : ¬ (k : Int) < 1 := by omega
  have i2 : ¬ (n : Int) < (k : Int) := by omega
  have i3 : ¬ (96 : Int) < (n : Int) := by omega
  have hmk := make_u8 n (by omega)
  have HN : Hid (1 ≤ k ∧ k ≤ n ∧ n ≤ 96) := ⟨by omega, by omega, by omega⟩
  obtain ⟨p, hp⟩ : ∃ p : Nat → Nat, p = fun j => (P j).toNat := ⟨_, rfl⟩
  obtain ⟨mk, hmkd⟩ : ∃ mk : Nat → Nat, mk = fun j => if j < lm then M j else 0 := ⟨_, rfl⟩
  obtain ⟨w3, hw3⟩ : ∃ w3, Hid (((w1.alloc (.cells (madeCells #[.int .u8 0] n) 5)).alloc (.cells (madeCells #[.int .u8 0] n) 5)).alloc (.cells (madeCells #[.int .u8 0] n) 5) = w3) := ⟨_, rfl⟩
  have V0 : Cv19 w1 w3 w1.heap.size n k 0 0 0 0 (.slice none 0 0) p C mk := by
    have r0 := made_rw n (by omega) w1
    have r1 := made_rw n (by omega) (w1.alloc (.cells (madeCells #[.int .u8 0] n) 5))
    have r2 := made_rw n (by omega) ((w1.alloc (.cells (madeCells #[.int .u8 0] n) 5)).alloc (.cells (madeCells #[.int .u8 0] n) 5))
    have s1 : (w1.alloc (.cells (madeCells #[.int .u8 0] n) 5)).heap.size = w1.heap.size + 1 := by simp
    have s2 : ((w1.alloc (.cells (madeCells #[.int .u8 0] n) 5)).alloc (.cells (madeCells #[.int .u8 0] n) 5)).heap.size = w1.heap.size + 2 := by simp
    rw [s1] at r1
    rw [s2] at r2
    rw [← hw3.out]
    refine ⟨?_, ?_, r2.congr (fun j _ => (if_neg (Nat.not_lt_zero _)).symm), Gj.start _ _ _, (((Below.refl _ _).alloc (Nat.le_refl _) _).alloc (by simp) _).alloc (by simp; omega) _, rfl, by simp⟩
    · exact ((r0.of_block (((Below.refl _ _).alloc (Nat.le_refl _) _).block _ r0.lt)).of_block (((Below.refl _ _).alloc (Nat.le_refl _) _).block _ (by simp; omega))).congr (fun j _ => (if_neg (Nat.not_lt_zero _)).symm)
    · exact (r1.of_block (((Below.refl _ _).alloc (Nat.le_refl _) _).block _ r1.lt)).congr (fun j _ => (if_neg (Nat.not_lt_zero _)).symm)
  have HD : Hid (p = (fun j => (P j).toNat) ∧ mk = (fun j => if j < lm then M j else 0)) := ⟨hp, hmkd⟩
  clear h1 h2 h3 hp hmkd
  go_wp2
  rw [hw3.out]
  obtain ⟨b, hb⟩ : ∃ b, Hid (w1.heap.size = b) := ⟨_, rfl⟩
  rw [hb.out] at V0
  rw [hb.out]
  clear hmk hw3 i1 i2 i3 z0 z1 z2
  go_loopw [8, 9] (fun l s wr => ∃ i : Nat, i ≤ n ∧ s = .int .i64 (i : Int) ∧ (∀ j, j < i → 0 ≤ P j ∧ P j < 256 ∧ (0 < j → P (j - 1) < P j)) ∧ Cv19 w1 wr b n k i i i i l p C mk) (fun _ s _ => n - (intOf s).toNat)
  case atStart => exact ⟨0, Nat.zero_le _, rfl, fun j hj => absurd hj (Nat.not_lt_zero _), V0⟩
  case round =>
    obtain ⟨i, hi, rfl, hok, hV⟩ := hrel
    clear V0
    by_cases hlt : i < n
    · obtain ⟨z0, z1, z2, hbw, zC, zP, zM⟩ := HV.out wr hV.bel
      obtain ⟨-, -, ap', cp', e', -, -, h4⟩ := zP
      cases e'
      obtain ⟨pb, po, rfl, hpl0, hpc⟩ := h4 (by omega)
      have q1 := hpc i hlt
      have ib : ((i : Nat) : Int) < (n : Int) := Int.ofNat_lt.2 hlt
      have W1 := wrap_lt8 (j := i) (b := n) hlt (by have := HN.out; omega)
      by_cases n1 : P i < 0
      · have HF : Hid (∀ q, Below w.heap.size w (wr.drewN q)) := fun q => below_drewN hbw q
        clear hV hok hi h4 hpc hpl0 hbw zC zM hlt z2
        go_wp2
        go_quiet (fail)
        go_wp2
        go_ret
        exact ⟨rfl, HF.out _⟩
      obtain ⟨pp, hpI⟩ : ∃ pp : Nat, P i = ((pp : Nat) : Int) := ⟨(P i).toNat, by omega⟩
      rw [hpI] at q1
      have hd0 : decide (((pp : Nat) : Int) < 0) = false := decide_eq_false (by omega)
      have hpi : p i = pp := by rw [HD.out.1]; show (P i).toNat = pp; omega
      by_cases n2 : 255 < pp
      · have HF : Hid (∀ q, Below w.heap.size w (wr.drewN q)) := fun q => below_drewN hbw q
        have n2I : (255 : Int) < ((pp : Nat) : Int) := by omega
        clear hV hok hi h4 hpc hpl0 hbw zC zM hlt z2 n1 hpI hpi
        go_wp2
        go_quiet (fail)
        go_wp2
        go_ret
        exact ⟨rfl, HF.out _⟩
      have hpl : pp < 256 := by omega
      have n2I : ¬ (255 : Int) < ((pp : Nat) : Int) := by omega
      have d2 : decide ((255 : Int) < ((pp : Nat) : Int)) = false := decide_eq_false n2I
      have hml : mk i < 256 := by
        rw [HD.out.2]
        show (if i < lm then M i else 0) < 256
        split
        · exact zM.2.1 i (by assumption)
        · decide
      clear n1
      have hok' : (∀ t, i = t + 1 → P t < P i) → ∀ t, t < i + 1 → 0 ≤ P t ∧ P t < 256 ∧ (0 < t → P (t - 1) < P t) := fun hh t ht => by
        by_cases e : t = i
        · subst e
          exact ⟨by omega, by omega, fun h0 => hh (t - 1) (by omega)⟩
        · exact hok t (by omega)
      by_cases i0 : i = 0
      · have hok' := hok' (fun t e => by omega)
        have j1 : ¬ (0 : Int) < ((i : Nat) : Int) := by omega
        have d1 : decide ((0 : Int) < ((i : Nat) : Int)) = false := decide_eq_false j1
        have j1n : ¬ 0 < i := by omega
        have d1n : decide (0 < i) = false := decide_eq_false j1n
        have HI : Hid (i = 0) := i0
        clear i0
        have HQ : Hid (∀ W, Below w1.heap.size w1 W → W.cell? ⟨pb, po + i, none⟩ = some (.int .i64 ((pp : Nat) : Int))) := fun W hW => by
          obtain ⟨-, -, a', c', e', -, -, h4'⟩ := (HV.out W hW).2.2.2.2.2.1
          cases e'
          obtain ⟨b', o', e', -, hc'⟩ := h4' (by omega)
          cases e'
          rw [← hpI]
          exact hc' i hlt
        have HR : Hid (Cv19 w1 wr b n k i i i i u8 p C mk ∧ p i = pp ∧ pp < 256 ∧ (mk i < 256) ∧ i < n ∧ ∀ t, t < i + 1 → 0 ≤ P t ∧ P t < 256 ∧ (0 < t → P (t - 1) < P t)) := ⟨hV, hpi, hpl, hml, hlt, hok'⟩
        clear hV hok hok' hi h4 hpc hpl0 hbw zC zM hlt hpl hml hpi hpI
        go_wp2
        go_quiet (fail)
        go_wp2
        clear j1 d1 j1n d1n n2 n2I d2 hd0
        obtain ⟨wa, hwa⟩ : ∃ wa, wa = wr.drewN nq := ⟨_, rfl⟩
        rw [← hwa]
        have hVa : Cv19 w1 wa b n k i i i i u8 p C mk := by rw [hwa]; exact HR.out.1.drewN nq
        clear hwa q1 z0 z1 z2
        obtain ⟨z0, z1, z2, hbw, zC, zP, zM⟩ := HV.out wa hVa.bel
        have q1 := HQ.out wa hVa.bel
        have c5 := horner19 pp k (.slice ac k cc) C wa.drew (zC.drewN 1) (by have := HN.out; omega) HR.out.2.2.1
        have U8 : IntKind.u8.wrap ((pp : Nat) : Int) = ((pp : Nat) : Int) := u8s19 HR.out.2.2.1
        have q3 := hVa.rv.2.2.cell HR.out.2.2.2.2.1
        have q4 := hVa.rv.2.2.frozen i
        have HA : Hid (Cv19 w1 wa b n k i i i i u8 p C mk) := hVa
        clear hVa hbw zC zP zM
        refine region_planT (fun w' => w'.cell? ⟨w.heap.size, 0, none⟩ = some (.slice ac k cc) ∧ w'.cell? ⟨w.heap.size, 1, none⟩ = some (.slice (some ⟨pb, po, none⟩) n cp) ∧ w'.cell? ⟨pb, po + i, none⟩ = some (.int .i64 ((pp : Nat) : Int))) 12 [10, 1] 238 ⟨z0, z1, q1⟩ (by kernel_rfl) (by kernel_rfl) (fun _ a d v _ h => by cases d <;> exact h) ?_
        refine planT_step ?A1 rfl (fun w' hS => ?s1) rfl (fun K hK => ?n1)
        case s1 =>
          obtain ⟨y0, y1, y2⟩ := hS
          simp only [List.take_succ_cons, List.take_zero]
          repeat still_step
          exact rfl
        case n1 =>
        go_simp
        go_wp2_with (go_at_call 19; (with_reducible refine c5.mono ?_); rintro e w9 ⟨rfl, q5, rfl⟩; clear c5)
        refine hK _ _ ⟨z0, z1, q1⟩ ?_
        clear hK K
        refine planT_last ?A2 rfl (fun w' hS => ?s2) rfl ?n2
        case s2 =>
          simp only [List.take_succ_cons, List.take_zero]
          repeat still_step
          exact rfl
        case n2 =>
        simp only [List.drop_succ_cons, List.drop_zero]
        go_upto_region 17 with (fail)
        obtain ⟨wb, hwb⟩ : ∃ wb, wb = (wa.drewN (1 + q5)).setCell ⟨b, i, none⟩ (.int .u8 ((pe 285 pp k C : Nat) : Int)) := ⟨_, rfl⟩
        rw [← hwb]
        have hVb : Cv19 w1 wb b n k (i + 1) i i i u8 p C mk := by
          have := (HA.out.drewN (1 + q5)).setv
          rw [HR.out.2.1] at this
          rw [hwb]
          exact this
        clear hwb HA z0 z1 z2 q1 q3 q4 U8
        obtain ⟨z0, z1, z2, hbw, zC, zP, zM⟩ := HV.out wb hVb.bel
        obtain ⟨mki, hmki⟩ : ∃ mki, mk i = mki := ⟨_, rfl⟩
        clear zC zP hbw
        by_cases hm : i < lm
        · have hmI : ((i : Nat) : Int) < (lm : Int) := by omega
          have e3 : mk i = M i := by rw [HD.out.2]; exact if_pos hm
          have eM : M i = mki := by rw [← e3]; exact hmki
          obtain ⟨-, -, am', cm', e', -, -, h4m⟩ := zM
          cases e'
          obtain ⟨mb, mo, rfl, -, hmc⟩ := h4m (by omega)
          have q6 := hmc i hm
          rw [eM] at q6
          have q7 := hVb.rm.2.2.cell HR.out.2.2.2.2.1
          have q7f := hVb.rm.2.2.frozen i
          have HBb : Hid (Cv19 w1 wb b n k (i + 1) i i i u8 p C mk) := hVb
          have HM : Hid (i < lm) := hm
          clear hVb h4m hmc hm e3 eM
          go_upto_region 19 with (fail)
          obtain ⟨wc, hwc⟩ : ∃ wc, wc = wb.setCell ⟨b + 1, i, none⟩ (.int .u8 ((mki : Nat) : Int)) := ⟨_, rfl⟩
          rw [← hwc]
          have hVc : Cv19 w1 wc b n k (i + 1) (i + 1) i i u8 p C mk := by
            have := HBb.out.setm HR.out.2.2.2.1
            rw [hmki] at this
            rw [hwc]
            exact this
          clear hwc HBb q6 q7 q7f z0 z1 z2
          have q6 : wc.cell? ⟨b, i, none⟩ = some (.int .u8 ((pe 285 pp k C : Nat) : Int)) := by
            have := hVc.rv.2.2.cell HR.out.2.2.2.2.1
            simp only [Nat.lt_succ_self, if_true, HR.out.2.1] at this
            exact this
          have q7 : wc.cell? ⟨b + 1, i, none⟩ = some (.int .u8 ((mki : Nat) : Int)) := by
            have := hVc.rm.2.2.cell HR.out.2.2.2.2.1
            simp only [Nat.lt_succ_self, if_true, hmki] at this
            exact this
          have q8 : wc.cell? ⟨b + 1 + 1, i, none⟩ = some (.int .u8 0) := by
            have := hVc.rs.2.2.cell HR.out.2.2.2.2.1
            simp only [Nat.lt_irrefl, if_false] at this
            exact this
          have q8f := hVc.rs.2.2.frozen i
          rw [show b + 2 = b + 1 + 1 from rfl] at q8f
          have hmkl : mki < 256 := by rw [← hmki]; exact HR.out.2.2.2.1
          have XX := u8_xor_nat (pe 285 pp k C) mki (fld8.pe_lt _ _ _) hmkl
          have HC : Hid (Cv19 w1 wc b n k (i + 1) (i + 1) i i u8 p C mk) := hVc
          clear hVc
          refine region_tail8 11 (by kernel_rfl) (by kernel_rfl) ?_
          simp only [List.take_succ_cons, List.take_zero, List.drop_succ_cons, List.drop_zero]
          repeat still_step
          refine wpStill_nil ?_
          go_upto_region 20 with (fail)
          obtain ⟨wd, hwd⟩ : ∃ wd, wd = wc.drew.setCell ⟨b + 1 + 1, i, none⟩ (.int .u8 ((pe 285 pp k C ^^^ mki : Nat) : Int)) := ⟨_, rfl⟩
          have hVd : Cv19 w1 wd b n k (i + 1) (i + 1) (i + 1) i u8 p C mk := by
            have := (HC.out.drewN 1).sets HR.out.2.2.2.1
            rw [hmki, HR.out.2.1] at this
            rw [hwd]
            exact this
          have hwd' : wd = (wc.setCell ⟨b + 1 + 1, i, none⟩ (.int .u8 ((pe 285 pp k C ^^^ mki : Nat) : Int))).drew := hwd
          first | rw [← hwd] | rw [← hwd']
          clear hwd hwd' HC q6 q7 q8 q8f XX hmkl
          by_cases h0 : mki = 0
          · have q9 : wd.cell? ⟨b + 1, i, none⟩ = some (.int .u8 0) := by
              have := hVd.rm.2.2.cell HR.out.2.2.2.2.1
              simp only [Nat.lt_succ_self, if_true, hmki, h0] at this
              exact this
            have HE : Hid (Cv19 w1 wd b n k (i + 1) (i + 1) (i + 1) (i + 1) u8 p C mk) := hVd.pass (by rw [hmki]; exact h0)
            clear hVd
            go_wp2
            go_roundw
            case rel => exact ⟨i + 1, HR.out.2.2.2.2.1, by first | rfl | (rw [W1]; rfl), HR.out.2.2.2.2.2, HE.out⟩
            case measure => first | exact meas_lt8 HR.out.2.2.2.2.1 | (rw [W1]; exact meas_lt8 HR.out.2.2.2.2.1)
          · have m0 : ¬ mki = 0 := h0
            have m0I : ¬ ((mki : Nat) : Int) = 0 := by omega
            have z1 := (HV.out wd hVd.bel).2.1
            have q1 := HQ.out wd hVd.bel
            have q9 : wd.cell? ⟨b + 1, i, none⟩ = some (.int .u8 ((mki : Nat) : Int)) := by
              have := hVd.rm.2.2.cell HR.out.2.2.2.2.1
              simp only [Nat.lt_succ_self, if_true, hmki] at this
              exact this
            obtain ⟨we, ve, hrun, hVe⟩ := hVd.hit (by rw [hmki]; exact h0) (by have := HN.out; have := HR.out.2.2.2.2.1; omega)
            rw [HR.out.2.1] at hrun
            have HE : Hid (Cv19 w1 we b n k (i + 1) (i + 1) (i + 1) (i + 1) ve p C mk) := hVe
            clear hVe hVd h0
            go_wp2_with (at_builtin; refine Lib.wpList_append_run _ rfl _ _ _ _ rfl _ _ rfl rfl _ _ hrun ?_; clear hrun)
            go_roundw
            case rel => exact ⟨i + 1, HR.out.2.2.2.2.1, by first | rfl | (rw [W1]; rfl), HR.out.2.2.2.2.2, HE.out⟩
            case measure => first | exact meas_lt8 HR.out.2.2.2.2.1 | (rw [W1]; exact meas_lt8 HR.out.2.2.2.2.1)
        · have hmI : ¬ ((i : Nat) : Int) < (lm : Int) := by omega
          have e3 : mk i = 0 := by rw [HD.out.2]; exact if_neg hm
          obtain ⟨wc, hwc⟩ : ∃ wc, wc = wb := ⟨_, rfl⟩
          have hVc : Cv19 w1 wb b n k (i + 1) (i + 1) i i u8 p C mk := hVb.skipm e3
          clear hVb zM hm
          go_upto_region 19 with (fail)
          rw [← hwc] at hVc ⊢
          clear hwc z0 z1 z2 e3
          have q6 : wc.cell? ⟨b, i, none⟩ = some (.int .u8 ((pe 285 pp k C : Nat) : Int)) := by
            have := hVc.rv.2.2.cell HR.out.2.2.2.2.1
            simp only [Nat.lt_succ_self, if_true, HR.out.2.1] at this
            exact this
          have q7 : wc.cell? ⟨b + 1, i, none⟩ = some (.int .u8 ((mki : Nat) : Int)) := by
            have := hVc.rm.2.2.cell HR.out.2.2.2.2.1
            simp only [Nat.lt_succ_self, if_true, hmki] at this
            exact this
          have q8 : wc.cell? ⟨b + 1 + 1, i, none⟩ = some (.int .u8 0) := by
            have := hVc.rs.2.2.cell HR.out.2.2.2.2.1
            simp only [Nat.lt_irrefl, if_false] at this
            exact this
          have q8f := hVc.rs.2.2.frozen i
          rw [show b + 2 = b + 1 + 1 from rfl] at q8f
          have hmkl : mki < 256 := by rw [← hmki]; exact HR.out.2.2.2.1
          have XX := u8_xor_nat (pe 285 pp k C) mki (fld8.pe_lt _ _ _) hmkl
          have HC : Hid (Cv19 w1 wc b n k (i + 1) (i + 1) i i u8 p C mk) := hVc
          clear hVc
          refine region_tail8 11 (by kernel_rfl) (by kernel_rfl) ?_
          simp only [List.take_succ_cons, List.take_zero, List.drop_succ_cons, List.drop_zero]
          repeat still_step
          refine wpStill_nil ?_
          go_upto_region 20 with (fail)
          obtain ⟨wd, hwd⟩ : ∃ wd, wd = wc.drew.setCell ⟨b + 1 + 1, i, none⟩ (.int .u8 ((pe 285 pp k C ^^^ mki : Nat) : Int)) := ⟨_, rfl⟩
          have hVd : Cv19 w1 wd b n k (i + 1) (i + 1) (i + 1) i u8 p C mk := by
            have := (HC.out.drewN 1).sets HR.out.2.2.2.1
            rw [hmki, HR.out.2.1] at this
            rw [hwd]
            exact this
          have hwd' : wd = (wc.setCell ⟨b + 1 + 1, i, none⟩ (.int .u8 ((pe 285 pp k C ^^^ mki : Nat) : Int))).drew := hwd
          first | rw [← hwd] | rw [← hwd']
          clear hwd hwd' HC q6 q7 q8 q8f XX hmkl
          by_cases h0 : mki = 0
          · have q9 : wd.cell? ⟨b + 1, i, none⟩ = some (.int .u8 0) := by
              have := hVd.rm.2.2.cell HR.out.2.2.2.2.1
              simp only [Nat.lt_succ_self, if_true, hmki, h0] at this
              exact this
            have HE : Hid (Cv19 w1 wd b n k (i + 1) (i + 1) (i + 1) (i + 1) u8 p C mk) := hVd.pass (by rw [hmki]; exact h0)
            clear hVd
            go_wp2
            go_roundw
            case rel => exact ⟨i + 1, HR.out.2.2.2.2.1, by first | rfl | (rw [W1]; rfl), HR.out.2.2.2.2.2, HE.out⟩
            case measure => first | exact meas_lt8 HR.out.2.2.2.2.1 | (rw [W1]; exact meas_lt8 HR.out.2.2.2.2.1)
          · have m0 : ¬ mki = 0 := h0
            have m0I : ¬ ((mki : Nat) : Int) = 0 := by omega
            have z1 := (HV.out wd hVd.bel).2.1
            have q1 := HQ.out wd hVd.bel
            have q9 : wd.cell? ⟨b + 1, i, none⟩ = some (.int .u8 ((mki : Nat) : Int)) := by
              have := hVd.rm.2.2.cell HR.out.2.2.2.2.1
              simp only [Nat.lt_succ_self, if_true, hmki] at this
              exact this
            obtain ⟨we, ve, hrun, hVe⟩ := hVd.hit (by rw [hmki]; exact h0) (by have := HN.out; have := HR.out.2.2.2.2.1; omega)
            rw [HR.out.2.1] at hrun
            have HE : Hid (Cv19 w1 we b n k (i + 1) (i + 1) (i + 1) (i + 1) ve p C mk) := hVe
            clear hVe hVd h0
            go_wp2_with (at_builtin; refine Lib.wpList_append_run _ rfl _ _ _ _ rfl _ _ rfl rfl _ _ hrun ?_; clear hrun)
            go_roundw
            case rel => exact ⟨i + 1, HR.out.2.2.2.2.1, by first | rfl | (rw [W1]; rfl), HR.out.2.2.2.2.2, HE.out⟩
            case measure => first | exact meas_lt8 HR.out.2.2.2.2.1 | (rw [W1]; exact meas_lt8 HR.out.2.2.2.2.1)
      · obtain ⟨j, hj⟩ : ∃ j, i = j + 1 := ⟨i - 1, by omega⟩
        obtain ⟨pj, hpJ⟩ : ∃ pj : Nat, P j = ((pj : Nat) : Int) := ⟨(P j).toNat, by have := (hok j (by omega)).1; omega⟩
        have q0 := hpc j (by omega)
        rw [hpJ] at q0
        have Wj : wrap64 (((i : Nat) : Int) - 1) = ((j : Nat) : Int) := by have := HN.out; unfold wrap64; omega
        have jb : ((j : Nat) : Int) < (n : Int) := by omega
        have j1 : (0 : Int) < ((i : Nat) : Int) := by omega
        have j1n : 0 < i := by omega
        by_cases n3 : pp ≤ pj
        · have HF : Hid (∀ q, Below w.heap.size w (wr.drewN q)) := fun q => below_drewN hbw q
          have n3I : ((pp : Nat) : Int) ≤ ((pj : Nat) : Int) := by omega
          have n3n : pp ≤ pj := n3
          clear hV hok hi h4 hpc hpl0 hbw zC zM hlt z2 hpl hml hpi hpI hpJ hok' hj i0
          go_wp2
          go_quiet (fail)
          go_wp2
          go_ret
          exact ⟨rfl, HF.out _⟩
        have n3I : ¬ ((pp : Nat) : Int) ≤ ((pj : Nat) : Int) := by omega
        have d3 : decide (((pp : Nat) : Int) ≤ ((pj : Nat) : Int)) = false := decide_eq_false n3I
        have d3n : decide (pp ≤ pj) = false := decide_eq_false n3
        have hok' := hok' (fun t e => by obtain rfl : t = j := by omega
                                         omega)
        clear hpJ hj i0
        have HQ : Hid (∀ W, Below w1.heap.size w1 W → W.cell? ⟨pb, po + i, none⟩ = some (.int .i64 ((pp : Nat) : Int))) := fun W hW => by
          obtain ⟨-, -, a', c', e', -, -, h4'⟩ := (HV.out W hW).2.2.2.2.2.1
          cases e'
          obtain ⟨b', o', e', -, hc'⟩ := h4' (by omega)
          cases e'
          rw [← hpI]
          exact hc' i hlt
        have HR : Hid (Cv19 w1 wr b n k i i i i u8 p C mk ∧ p i = pp ∧ pp < 256 ∧ (mk i < 256) ∧ i < n ∧ ∀ t, t < i + 1 → 0 ≤ P t ∧ P t < 256 ∧ (0 < t → P (t - 1) < P t)) := ⟨hV, hpi, hpl, hml, hlt, hok'⟩
        clear hV hok hok' hi h4 hpc hpl0 hbw zC zM hlt hpl hml hpi hpI
        go_wp2
        go_quiet (fail)
        go_wp2
        clear q0 Wj jb j1 j1n n3 n3I d3 d3n n2 n2I d2 hd0
        obtain ⟨wa, hwa⟩ : ∃ wa, wa = wr.drewN nq := ⟨_, rfl⟩
        rw [← hwa]
        have hVa : Cv19 w1 wa b n k i i i i u8 p C mk := by rw [hwa]; exact HR.out.1.drewN nq
        clear hwa q1 z0 z1 z2
        obtain ⟨z0, z1, z2, hbw, zC, zP, zM⟩ := HV.out wa hVa.bel
        have q1 := HQ.out wa hVa.bel
        have c5 := horner19 pp k (.slice ac k cc) C wa.drew (zC.drewN 1) (by have := HN.out; omega) HR.out.2.2.1
        have U8 : IntKind.u8.wrap ((pp : Nat) : Int) = ((pp : Nat) : Int) := u8s19 HR.out.2.2.1
        have q3 := hVa.rv.2.2.cell HR.out.2.2.2.2.1
        have q4 := hVa.rv.2.2.frozen i
        have HA : Hid (Cv19 w1 wa b n k i i i i u8 p C mk) := hVa
        clear hVa hbw zC zP zM
        refine region_planT (fun w' => w'.cell? ⟨w.heap.size, 0, none⟩ = some (.slice ac k cc) ∧ w'.cell? ⟨w.heap.size, 1, none⟩ = some (.slice (some ⟨pb, po, none⟩) n cp) ∧ w'.cell? ⟨pb, po + i, none⟩ = some (.int .i64 ((pp : Nat) : Int))) 12 [10, 1] 238 ⟨z0, z1, q1⟩ (by kernel_rfl) (by kernel_rfl) (fun _ a d v _ h => by cases d <;> exact h) ?_
        refine planT_step ?B1 rfl (fun w' hS => ?sb1) rfl (fun K hK => ?nb1)
        case sb1 =>
          obtain ⟨y0, y1, y2⟩ := hS
          simp only [List.take_succ_cons, List.take_zero]
          repeat still_step
          exact rfl
        case nb1 =>
        go_simp
        go_wp2_with (go_at_call 19; (with_reducible refine c5.mono ?_); rintro e w9 ⟨rfl, q5, rfl⟩; clear c5)
        refine hK _ _ ⟨z0, z1, q1⟩ ?_
        clear hK K
        refine planT_last ?B2 rfl (fun w' hS => ?sb2) rfl ?nb2
        case sb2 =>
          simp only [List.take_succ_cons, List.take_zero]
          repeat still_step
          exact rfl
        case nb2 =>
        simp only [List.drop_succ_cons, List.drop_zero]
        go_upto_region 17 with (fail)
        obtain ⟨wb, hwb⟩ : ∃ wb, wb = (wa.drewN (1 + q5)).setCell ⟨b, i, none⟩ (.int .u8 ((pe 285 pp k C : Nat) : Int)) := ⟨_, rfl⟩
        rw [← hwb]
        have hVb : Cv19 w1 wb b n k (i + 1) i i i u8 p C mk := by
          have := (HA.out.drewN (1 + q5)).setv
          rw [HR.out.2.1] at this
          rw [hwb]
          exact this
        clear hwb HA z0 z1 z2 q1 q3 q4 U8
        obtain ⟨z0, z1, z2, hbw, zC, zP, zM⟩ := HV.out wb hVb.bel
        obtain ⟨mki, hmki⟩ : ∃ mki, mk i = mki := ⟨_, rfl⟩
        clear zC zP hbw
        by_cases hm : i < lm
        · have hmI : ((i : Nat) : Int) < (lm : Int) := by omega
          have e3 : mk i = M i := by rw [HD.out.2]; exact if_pos hm
          have eM : M i = mki := by rw [← e3]; exact hmki
          obtain ⟨-, -, am', cm', e', -, -, h4m⟩ := zM
          cases e'
          obtain ⟨mb, mo, rfl, -, hmc⟩ := h4m (by omega)
          have q6 := hmc i hm
          rw [eM] at q6
          have q7 := hVb.rm.2.2.cell HR.out.2.2.2.2.1
          have q7f := hVb.rm.2.2.frozen i
          have HBb : Hid (Cv19 w1 wb b n k (i + 1) i i i u8 p C mk) := hVb
          have HM : Hid (i < lm) := hm
          clear hVb h4m hmc hm e3 eM
          go_upto_region 19 with (fail)
          obtain ⟨wc, hwc⟩ : ∃ wc, wc = wb.setCell ⟨b + 1, i, none⟩ (.int .u8 ((mki : Nat) : Int)) := ⟨_, rfl⟩
          rw [← hwc]
          have hVc : Cv19 w1 wc b n k (i + 1) (i + 1) i i u8 p C mk := by
            have := HBb.out.setm HR.out.2.2.2.1
            rw [hmki] at this
            rw [hwc]
            exact this
          clear hwc HBb q6 q7 q7f z0 z1 z2
          have q6 : wc.cell? ⟨b, i, none⟩ = some (.int .u8 ((pe 285 pp k C : Nat) : Int)) := by
            have := hVc.rv.2.2.cell HR.out.2.2.2.2.1
            simp only [Nat.lt_succ_self, if_true, HR.out.2.1] at this
            exact this
          have q7 : wc.cell? ⟨b + 1, i, none⟩ = some (.int .u8 ((mki : Nat) : Int)) := by
            have := hVc.rm.2.2.cell HR.out.2.2.2.2.1
            simp only [Nat.lt_succ_self, if_true, hmki] at this
            exact this
          have q8 : wc.cell? ⟨b + 1 + 1, i, none⟩ = some (.int .u8 0) := by
            have := hVc.rs.2.2.cell HR.out.2.2.2.2.1
            simp only [Nat.lt_irrefl, if_false] at this
            exact this
          have q8f := hVc.rs.2.2.frozen i
          rw [show b + 2 = b + 1 + 1 from rfl] at q8f
          have hmkl : mki < 256 := by rw [← hmki]; exact HR.out.2.2.2.1
          have XX := u8_xor_nat (pe 285 pp k C) mki (fld8.pe_lt _ _ _) hmkl
          have HC : Hid (Cv19 w1 wc b n k (i + 1) (i + 1) i i u8 p C mk) := hVc
          clear hVc
          refine region_tail8 11 (by kernel_rfl) (by kernel_rfl) ?_
          simp only [List.take_succ_cons, List.take_zero, List.drop_succ_cons, List.drop_zero]
          repeat still_step
          refine wpStill_nil ?_
          go_upto_region 20 with (fail)
          obtain ⟨wd, hwd⟩ : ∃ wd, wd = wc.drew.setCell ⟨b + 1 + 1, i, none⟩ (.int .u8 ((pe 285 pp k C ^^^ mki : Nat) : Int)) := ⟨_, rfl⟩
          have hVd : Cv19 w1 wd b n k (i + 1) (i + 1) (i + 1) i u8 p C mk := by
            have := (HC.out.drewN 1).sets HR.out.2.2.2.1
            rw [hmki, HR.out.2.1] at this
            rw [hwd]
            exact this
          have hwd' : wd = (wc.setCell ⟨b + 1 + 1, i, none⟩ (.int .u8 ((pe 285 pp k C ^^^ mki : Nat) : Int))).drew := hwd
          first | rw [← hwd] | rw [← hwd']
          clear hwd hwd' HC q6 q7 q8 q8f XX hmkl
          by_cases h0 : mki = 0
          · have q9 : wd.cell? ⟨b + 1, i, none⟩ = some (.int .u8 0) := by
              have := hVd.rm.2.2.cell HR.out.2.2.2.2.1
              simp only [Nat.lt_succ_self, if_true, hmki, h0] at this
              exact this
            have HE : Hid (Cv19 w1 wd b n k (i + 1) (i + 1) (i + 1) (i + 1) u8 p C mk) := hVd.pass (by rw [hmki]; exact h0)
            clear hVd
            go_wp2
            go_roundw
            case rel => exact ⟨i + 1, HR.out.2.2.2.2.1, by first | rfl | (rw [W1]; rfl), HR.out.2.2.2.2.2, HE.out⟩
            case measure => first | exact meas_lt8 HR.out.2.2.2.2.1 | (rw [W1]; exact meas_lt8 HR.out.2.2.2.2.1)
          · have m0 : ¬ mki = 0 := h0
            have m0I : ¬ ((mki : Nat) : Int) = 0 := by omega
            have z1 := (HV.out wd hVd.bel).2.1
            have q1 := HQ.out wd hVd.bel
            have q9 : wd.cell? ⟨b + 1, i, none⟩ = some (.int .u8 ((mki : Nat) : Int)) := by
              have := hVd.rm.2.2.cell HR.out.2.2.2.2.1
              simp only [Nat.lt_succ_self, if_true, hmki] at this
              exact this
            obtain ⟨we, ve, hrun, hVe⟩ := hVd.hit (by rw [hmki]; exact h0) (by have := HN.out; have := HR.out.2.2.2.2.1; omega)
            rw [HR.out.2.1] at hrun
            have HE : Hid (Cv19 w1 we b n k (i + 1) (i + 1) (i + 1) (i + 1) ve p C mk) := hVe
            clear hVe hVd h0
            go_wp2_with (at_builtin; refine Lib.wpList_append_run _ rfl _ _ _ _ rfl _ _ rfl rfl _ _ hrun ?_; clear hrun)
            go_roundw
            case rel => exact ⟨i + 1, HR.out.2.2.2.2.1, by first | rfl | (rw [W1]; rfl), HR.out.2.2.2.2.2, HE.out⟩
            case measure => first | exact meas_lt8 HR.out.2.2.2.2.1 | (rw [W1]; exact meas_lt8 HR.out.2.2.2.2.1)
        · have hmI : ¬ ((i : Nat) : Int) < (lm : Int) := by omega
          have e3 : mk i = 0 := by rw [HD.out.2]; exact if_neg hm
          obtain ⟨wc, hwc⟩ : ∃ wc, wc = wb := ⟨_, rfl⟩
          have hVc : Cv19 w1 wb b n k (i + 1) (i + 1) i i u8 p C mk := hVb.skipm e3
          clear hVb zM hm
          go_upto_region 19 with (fail)
          rw [← hwc] at hVc ⊢
          clear hwc z0 z1 z2 e3
          have q6 : wc.cell? ⟨b, i, none⟩ = some (.int .u8 ((pe 285 pp k C : Nat) : Int)) := by
            have := hVc.rv.2.2.cell HR.out.2.2.2.2.1
            simp only [Nat.lt_succ_self, if_true, HR.out.2.1] at this
            exact this
          have q7 : wc.cell? ⟨b + 1, i, none⟩ = some (.int .u8 ((mki : Nat) : Int)) := by
            have := hVc.rm.2.2.cell HR.out.2.2.2.2.1
            simp only [Nat.lt_succ_self, if_true, hmki] at this
            exact this
          have q8 : wc.cell? ⟨b + 1 + 1, i, none⟩ = some (.int .u8 0) := by
            have := hVc.rs.2.2.cell HR.out.2.2.2.2.1
            simp only [Nat.lt_irrefl, if_false] at this
            exact this
          have q8f := hVc.rs.2.2.frozen i
          rw [show b + 2 = b + 1 + 1 from rfl] at q8f
          have hmkl : mki < 256 := by rw [← hmki]; exact HR.out.2.2.2.1
          have XX := u8_xor_nat (pe 285 pp k C) mki (fld8.pe_lt _ _ _) hmkl
          have HC : Hid (Cv19 w1 wc b n k (i + 1) (i + 1) i i u8 p C mk) := hVc
          clear hVc
          refine region_tail8 11 (by kernel_rfl) (by kernel_rfl) ?_
          simp only [List.take_succ_cons, List.take_zero, List.drop_succ_cons, List.drop_zero]
          repeat still_step
          refine wpStill_nil ?_
          go_upto_region 20 with (fail)
          obtain ⟨wd, hwd⟩ : ∃ wd, wd = wc.drew.setCell ⟨b + 1 + 1, i, none⟩ (.int .u8 ((pe 285 pp k C ^^^ mki : Nat) : Int)) := ⟨_, rfl⟩
          have hVd : Cv19 w1 wd b n k (i + 1) (i + 1) (i + 1) i u8 p C mk := by
            have := (HC.out.drewN 1).sets HR.out.2.2.2.1
            rw [hmki, HR.out.2.1] at this
            rw [hwd]
            exact this
          have hwd' : wd = (wc.setCell ⟨b + 1 + 1, i, none⟩ (.int .u8 ((pe 285 pp k C ^^^ mki : Nat) : Int))).drew := hwd
          first | rw [← hwd] | rw [← hwd']
          clear hwd hwd' HC q6 q7 q8 q8f XX hmkl
          by_cases h0 : mki = 0
          · have q9 : wd.cell? ⟨b + 1, i, none⟩ = some (.int .u8 0) := by
              have := hVd.rm.2.2.cell HR.out.2.2.2.2.1
              simp only [Nat.lt_succ_self, if_true, hmki, h0] at this
              exact this
            have HE : Hid (Cv19 w1 wd b n k (i + 1) (i + 1) (i + 1) (i + 1) u8 p C mk) := hVd.pass (by rw [hmki]; exact h0)
            clear hVd
            go_wp2
            go_roundw
            case rel => exact ⟨i + 1, HR.out.2.2.2.2.1, by first | rfl | (rw [W1]; rfl), HR.out.2.2.2.2.2, HE.out⟩
            case measure => first | exact meas_lt8 HR.out.2.2.2.2.1 | (rw [W1]; exact meas_lt8 HR.out.2.2.2.2.1)
          · have m0 : ¬ mki = 0 := h0
            have m0I : ¬ ((mki : Nat) : Int) = 0 := by omega
            have z1 := (HV.out wd hVd.bel).2.1
            have q1 := HQ.out wd hVd.bel
            have q9 : wd.cell? ⟨b + 1, i, none⟩ = some (.int .u8 ((mki : Nat) : Int)) := by
              have := hVd.rm.2.2.cell HR.out.2.2.2.2.1
              simp only [Nat.lt_succ_self, if_true, hmki] at this
              exact this
            obtain ⟨we, ve, hrun, hVe⟩ := hVd.hit (by rw [hmki]; exact h0) (by have := HN.out; have := HR.out.2.2.2.2.1; omega)
            rw [HR.out.2.1] at hrun
            have HE : Hid (Cv19 w1 we b n k (i + 1) (i + 1) (i + 1) (i + 1) ve p C mk) := hVe
            clear hVe hVd h0
            go_wp2_with (at_builtin; refine Lib.wpList_append_run _ rfl _ _ _ _ rfl _ _ rfl rfl _ _ hrun ?_; clear hrun)
            go_roundw
            case rel => exact ⟨i + 1, HR.out.2.2.2.2.1, by first | rfl | (rw [W1]; rfl), HR.out.2.2.2.2.2, HE.out⟩
            case measure => first | exact meas_lt8 HR.out.2.2.2.2.1 | (rw [W1]; exact meas_lt8 HR.out.2.2.2.2.1)
    · have hin : i = n := by omega
      have ib : ¬ ((i : Nat) : Int) < (n : Int) := by omega
      rw [hin] at hok hV
      obtain ⟨la, lc, rfl⟩ := hV.tl.form
      have hpe : ∀ t, t < n → P t = ((p t : Nat) : Int) := fun t ht => by
        rw [HD.out.1]
        show P t = (((P t).toNat : Nat) : Int)
        have := (hok t ht).1
        omega
      have hup : Up8 n p := by
        have main : ∀ d s, s + d + 1 < n → p s < p (s + d + 1) := by
          intro d
          induction d with
          | zero =>
            intro s hs
            have h1 := (hok (s + 0 + 1) hs).2.2 (by omega)
            rw [Nat.add_sub_cancel] at h1
            have h2 := hpe s (by omega)
            have h3 := hpe (s + 0 + 1) hs
            have h4 : P (s + 0) = P s := rfl
            omega
          | succ d ih =>
            intro s hs
            have h0 := ih s (by omega)
            have h1 := (hok (s + (d + 1) + 1) hs).2.2 (by omega)
            rw [Nat.add_sub_cancel] at h1
            have h2 := hpe (s + (d + 1)) (by omega)
            have h3 := hpe (s + (d + 1) + 1) hs
            have h4 : p (s + d + 1) = p (s + (d + 1)) := rfl
            omega
        intro s t hst ht
        have := main (t - s - 1) s (by omega)
        rw [show s + (t - s - 1) + 1 = t by omega] at this
        exact this
      obtain ⟨-, -, -, hb0, zC0, zP0, zM0⟩ := HV.out w1 (Below.refl _ _)
      have hW : Cw19 w1 wr b n k (.slice la (cnb (Mz19 mk) n) lc) (.slice ap n cp) p C mk := ⟨hV, zP0.congr (fun t ht => hpe t ht), fun t ht => by have := (hok t ht).2.1; have := hpe t ht; omega, hup, HN.out.1, HN.out.2.1, HN.out.2.2, zC0.2.1, fun t ht => by
        rw [HD.out.2]
        show (if t < lm then M t else 0) < 256
        split
        · exact zM0.2.1 t (by assumption)
        · decide⟩
      have zz1 : (wr.alloc (.cells #[] 3)).cell? ⟨w.heap.size, 1, none⟩ = some (.slice ap n cp) := (HV.out _ (hV.bel.trans (((Below.refl _ _).alloc (Nat.le_refl _) _).mono hV.bel.size))).2.1
      obtain ⟨L, hL⟩ : ∃ L, cnb (Mz19 mk) n = L := ⟨_, rfl⟩
      obtain ⟨W3, g1, k1, run1, cA⟩ := cur_a hW
      obtain ⟨ee, hee⟩ : ∃ ee, n - k = ee := ⟨_, rfl⟩
      rw [hee] at cA
      rw [hL] at cA
      rw [hL]
      have Ws : wrap64 (((n : Nat) : Int) - ((k : Nat) : Int)) = ((ee : Nat) : Int) := by have := HN.out; unfold wrap64; omega
      have HEE : Hid (n - k = ee ∧ cnb (Mz19 mk) n = L) := ⟨hee, hL⟩
      clear hV hok hpe hup hW hb0 zC0 zP0 zM0 hin hi hlt hee hL
      go_upto_region 26 with (first
        | (go_at_call 20; first
          | ((with_reducible refine cA.mono ?_); rintro e W4 ⟨ga, rfl, hb4, W5, g2, k2, run2, cB⟩; clear cA; have zz2 : (W4.alloc (.cells #[] 3)).cell? ⟨w.heap.size, 1, none⟩ = some (.slice ap n cp) := (HV.out _ (hb4.trans (((Below.refl _ _).alloc (Nat.le_refl _) _).mono hb4.size))).2.1)
          | ((with_reducible refine cB.mono ?_); rintro e W6 ⟨gb, rfl, cC⟩; clear cB))
        | (go_at_call 16; (with_reducible refine cC.mono ?_); rintro e W7 ⟨rfl, A, hU⟩; clear cC)
        | (at_builtin; first | (refine Lib.wpList_append_run _ rfl _ _ _ _ rfl _ _ rfl rfl _ _ run1 ?_; clear run1) | (refine Lib.wpList_append_run _ rfl _ _ _ _ rfl _ _ rfl rfl _ _ run2 ?_; clear run2)))
      have HU : Hid (Cu19 w1 W7 b n k (.slice la L lc) (.slice ap n cp) p C mk ga A) := hU
      clear hU hb4 zz1 zz2 Ws
      go_wp2
      go_loopw [14, 15] (fun z s wr' => ∃ (i : Nat) (zb : Bool), i ≤ ee ∧ s = .int .i64 (i : Int) ∧ z = .bool zb ∧ (zb = true ↔ ∀ j, j < i → A j = 0) ∧ wr' = W7) (fun _ s _ => ee - (intOf s).toNat)
      case atStart => exact ⟨0, true, Nat.zero_le _, rfl, rfl, ⟨fun _ j hj => absurd hj (Nat.not_lt_zero _), fun _ => rfl⟩, rfl⟩
      case round =>
        obtain ⟨i2, zb, hi2, rfl, rfl, hz, hw⟩ := hrel
        have hw := hw.symm
        subst hw
        by_cases hlt2 : i2 < ee
        · have q1 : W7.cell? ⟨ga, i2, none⟩ = some (.int .u8 ((A i2 : Nat) : Int)) := HU.out.ra.2.2.cell (by rw [HEE.out.1]; exact hlt2)
          have ib2 : ((i2 : Nat) : Int) < (ee : Int) := by omega
          have W1 := wrap_lt8 (j := i2) (b := ee) hlt2 (by have := HN.out; have := HEE.out; omega)
          cases zb with
          | false =>
            have HZ2 : Hid (i2 < ee ∧ ((false = true) ↔ ∀ j, j < i2 + 1 → A j = 0)) := ⟨hlt2, ⟨fun h => (by cases h), fun h => hz.2 (fun j hj => h j (by omega))⟩⟩
            clear hz hlt2 hi2
            go_wp2
            go_roundw
            case rel => exact ⟨i2 + 1, false, HZ2.out.1, by first | rfl | (rw [W1]; rfl), by first | rfl | (rw [hAb]), HZ2.out.2, by trivial⟩
            case measure => first | exact meas_lt8 HZ2.out.1 | (rw [W1]; exact meas_lt8 HZ2.out.1)
          | true =>
            by_cases hA : A i2 = 0
            · have HZ2 : Hid (i2 < ee ∧ ((true = true) ↔ ∀ j, j < i2 + 1 → A j = 0)) := ⟨hlt2, ⟨fun _ j hj => by
                by_cases e : j = i2
                · rw [e]; exact hA
                · exact hz.1 rfl j (by omega), fun _ => rfl⟩⟩
              rw [hA] at q1
              clear hz hlt2 hi2 hA
              go_wp2
              go_roundw
              case rel => exact ⟨i2 + 1, true, HZ2.out.1, by first | rfl | (rw [W1]; rfl), by first | rfl | (rw [hAb]), HZ2.out.2, by trivial⟩
              case measure => first | exact meas_lt8 HZ2.out.1 | (rw [W1]; exact meas_lt8 HZ2.out.1)
            · have HZ2 : Hid (i2 < ee ∧ ((false = true) ↔ ∀ j, j < i2 + 1 → A j = 0)) := ⟨hlt2, ⟨fun h => (by cases h), fun h => absurd (h i2 (by omega)) hA⟩⟩
              have hAI : ¬ ((A i2 : Nat) : Int) = 0 := by omega
              have hAb : (((A i2 : Nat) : Int) == 0) = false := beq_eq_false_iff_ne.2 hAI
              generalize A i2 = Ai at q1 hA hAI hAb
              clear hz hlt2 hi2
              go_wp2
              go_roundw
              case rel => exact ⟨i2 + 1, false, HZ2.out.1, by first | rfl | (rw [W1]; rfl), by first | rfl | (rw [hAb]), HZ2.out.2, by trivial⟩
              case measure => first | exact meas_lt8 HZ2.out.1 | (rw [W1]; exact meas_lt8 HZ2.out.1)
        · have hie : i2 = ee := by omega
          have ib2 : ¬ ((i2 : Nat) : Int) < (ee : Int) := by omega
          have hLe : L ≤ 96 := by have := cnb_le (Mz19 mk) n; have := HN.out; have := HEE.out; omega
          have W2L : wrap64 (2 * ((L : Nat) : Int)) = 2 * ((L : Nat) : Int) := by unfold wrap64; omega
          have Ws : wrap64 (((n : Nat) : Int) - ((k : Nat) : Int)) = ((ee : Nat) : Int) := by have := HN.out; have := HEE.out; unfold wrap64; omega
          by_cases h2 : 2 * L ≤ ee
          · have h2I : ¬ ((ee : Nat) : Int) < 2 * ((L : Nat) : Int) := by omega
            rw [hie] at hz
            have hzz := HU.out.z (by rw [HEE.out.1, HEE.out.2]; exact h2)
            rw [HEE.out.1, HEE.out.2] at hzz
            obtain ⟨rad, hrad⟩ : ∃ rad, (n - k) / 2 = rad := ⟨_, rfl⟩
            have Wr : wrap64 (((ee : Nat) : Int) / 2) = ((rad : Nat) : Int) := by
              have h5 := HEE.out.1
              have h6 := HN.out
              rw [h5] at hrad
              unfold wrap64
              omega
            clear hie hi2 hlt2 hLe
            by_cases hL0 : L = 0
            · have hzb : zb = true := hz.2 (hzz.2 hL0)
              subst hzb
              subst hL0
              clear hzz
              have c6 : ∀ x, Calls Try.prog 7 #[.int .i64 (k : Int), .int .i64 (n : Int)] x fun e w' => e = .returned (.tuple #[.int .i64 ((rad : Nat) : Int), .int .i64 0]) ∧ w' = x := fun x => by rw [← hrad]; exact radius19 k n x HN.out.1 HN.out.2.1 (by have := HN.out; omega)
              obtain ⟨X3, g3, k3, run3, cD⟩ := cur_b HU.out.cw (by rw [HEE.out.1, HEE.out.2]; exact h2)
              (try rw [HEE.out.2] at cD)
              have zz3 : (W7.alloc (.cells #[] 3)).cell? ⟨w.heap.size, 1, none⟩ = some (.slice ap n cp) := (HV.out _ (HU.out.cw.cv.bel.trans (((Below.refl _ _).alloc (Nat.le_refl _) _).mono HU.out.cw.cv.bel.size))).2.1
              have HBB : Hid (Below w.heap.size w w1) := (HV.out w1 (Below.refl _ _)).2.2.2.1
              clear hz hrad
              go_wp2_with (first
                | (go_at_call 7; (with_reducible refine (c6 _).mono ?_); rintro e w9 ⟨rfl, hw9⟩; have hw9 := hw9.symm; subst hw9; clear c6)
                | (go_at_call 21; (with_reducible refine cD.mono ?_); rintro e X4 ⟨gf, xw, rfl, cE⟩; clear cD)
                | (go_at_call 16; (with_reducible refine cE.mono ?_); rintro e X5 ⟨rfl, cF⟩; clear cE)
                | (go_at_call 17; (with_reducible refine cF.mono ?_); rintro e X6 ⟨rfl, hb6⟩; clear cF)
                | (at_builtin; refine Lib.wpList_append_run _ rfl _ _ _ _ rfl _ _ rfl rfl _ _ run3 ?_; clear run3))
              go_ret
              exact ⟨rfl, HBB.out.trans (hb6.mono HBB.out.size)⟩
            · have hzb : zb = false := by
                cases zb with
                | false => rfl
                | true => exact absurd (hzz.1 (hz.1 rfl)) hL0
              subst hzb
              have hL0I : ¬ ((L : Nat) : Int) = 0 := by omega
              clear hzz
              have c6 : ∀ x, Calls Try.prog 7 #[.int .i64 (k : Int), .int .i64 (n : Int)] x fun e w' => e = .returned (.tuple #[.int .i64 ((rad : Nat) : Int), .int .i64 0]) ∧ w' = x := fun x => by rw [← hrad]; exact radius19 k n x HN.out.1 HN.out.2.1 (by have := HN.out; omega)
              obtain ⟨X3, g3, k3, run3, cD⟩ := cur_b HU.out.cw (by rw [HEE.out.1, HEE.out.2]; exact h2)
              (try rw [HEE.out.2] at cD)
              have zz3 : (W7.alloc (.cells #[] 3)).cell? ⟨w.heap.size, 1, none⟩ = some (.slice ap n cp) := (HV.out _ (HU.out.cw.cv.bel.trans (((Below.refl _ _).alloc (Nat.le_refl _) _).mono HU.out.cw.cv.bel.size))).2.1
              have HBB : Hid (Below w.heap.size w w1) := (HV.out w1 (Below.refl _ _)).2.2.2.1
              clear hz hrad
              go_wp2_with (first
                | (go_at_call 7; (with_reducible refine (c6 _).mono ?_); rintro e w9 ⟨rfl, hw9⟩; have hw9 := hw9.symm; subst hw9; clear c6)
                | (go_at_call 21; (with_reducible refine cD.mono ?_); rintro e X4 ⟨gf, xw, rfl, cE⟩; clear cD)
                | (go_at_call 16; (with_reducible refine cE.mono ?_); rintro e X5 ⟨rfl, cF⟩; clear cE)
                | (go_at_call 17; (with_reducible refine cF.mono ?_); rintro e X6 ⟨rfl, hb6⟩; clear cF)
                | (at_builtin; refine Lib.wpList_append_run _ rfl _ _ _ _ rfl _ _ rfl rfl _ _ run3 ?_; clear run3))
              go_ret
              exact ⟨rfl, HBB.out.trans (hb6.mono HBB.out.size)⟩
          · have h2I : ((ee : Nat) : Int) < 2 * ((L : Nat) : Int) := by omega
            have HBB : Hid (Below w.heap.size w W7) := (HV.out W7 HU.out.cw.cv.bel).2.2.2.1
            clear hz hi2 hlt2 hLe hie
            go_wp2
            go_ret
            exact ⟨rfl, HBB.out⟩
end Go.Proofs.Ytpjlanpjhdhhpaa
