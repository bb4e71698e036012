import Derived.Test.YtaoapplbcgflmaaGreatMlby
import Derived.Test.YtaoapplbcgflmaaGreatMlbw
import Derived.Test.YtaoapplbcgflmaaGreatMlbf
namespace Go.Proofs.YtaoapplbcgflmaaGreat
open Go.RowKit Gf2
set_option linter.unusedVariables false

-- layer 17: McodeLists, a plan's lists gathered
theorem vR_at17 {n k r i : Nat} {DB DC : Nat → Nat → Nat} (hi : i < n) : vR17 n k DB DC (r * n + i) = .slice (some ⟨DB r i, 0, none⟩) k (DC r i) := by
  have e1 : (r * n + i) / n = r := by
    rw [Nat.mul_comm, Nat.mul_add_div (by omega), Nat.div_eq_of_lt hi, Nat.add_zero]
  have e2 : (r * n + i) % n = i := by
    rw [Nat.mul_comm, Nat.mul_add_mod, Nat.mod_eq_of_lt hi]
  unfold vR17
  rw [e1, e2]
theorem gather17 {u3 wr : World} {lo n k r pd pD : Nat} {iv rv Sm Su : Value} {VI VR : Nat → Value} {PB PC : Nat → Nat} (hu : u3.heap.size = lo) (hB : Below lo u3 wr) (hI : Gw17 40 lo wr iv (2 * r) VI) (hR : Gw17 27 lo wr rv (r * n) VR) (hpd : pd < lo) (hc : ∀ i, i < n → u3.cell? ⟨pd, i, none⟩ = some (.slice (some ⟨PB i, 0, none⟩) k (PC i)))
    (hm1 : Sm.oneCell' = true) (hu1 : Su.oneCell' = true) (hm : VI (2 * r) = Sm) (hu2 : VI (2 * r + 1) = Su) (hd : ∀ i, i < n → VR (r * n + i) = .slice (some ⟨PB i, 0, none⟩) k (PC i)) (n1 : 1 ≤ n) (n2 : n ≤ 12) (hr : r ≤ 2) :
    ∀ wb, wr.alloc (.cells #[Sm, Su, .slice (some ⟨pd, 0, none⟩) n pD, .slice none 0 0] 54) = wb → (wb.cell? ⟨wr.heap.size, 0, none⟩ = some Sm ∧ wb.cell? ⟨wr.heap.size, 1, none⟩ = some Su) ∧
    ∀ wl, wb.alloc (.cells #[Sm, Su] 40) = wl →
    ∃ w5 v5, (Builtin.append_ #[28, 28] 28 #[iv, .slice (some ⟨wr.heap.size + 1, 0, none⟩) 2 2]).run Tryz.prog wl = .ok v5 w5 ∧ w5.cell? ⟨wr.heap.size, 2, none⟩ = some (.slice (some ⟨pd, 0, none⟩) n pD) ∧
    ∃ w6 v6, (Builtin.append_ #[33, 33] 33 #[rv, .slice (some ⟨pd, 0, none⟩) n pD]).run Tryz.prog w5 = .ok v6 w6 ∧ Below lo u3 w6 ∧ Gw17 40 lo w6 v5 (2 * (r + 1)) VI ∧ Gw17 27 lo w6 v6 ((r + 1) * n) VR := by
  intro wb hwb
  have bb : Below wr.heap.size wr wb := by rw [← hwb]; exact (Below.refl _ _).alloc (Nat.le_refl _) _
  have sb : wb.heap.size = wr.heap.size + 1 := by rw [← hwb]; simp
  have blk : wb.heap[wr.heap.size]? = some (.cells #[Sm, Su, .slice (some ⟨pd, 0, none⟩) n pD, .slice none 0 0] 54 (0, 0)) := by rw [← hwb]; exact heap_alloc_new _ _
  refine ⟨⟨by rw [cell_of_row _ _ 0 _ _ _ blk]; rfl, by rw [cell_of_row _ _ 1 _ _ _ blk]; rfl⟩, fun wl hwl => ?_⟩
  have bl : Below wb.heap.size wb wl := by rw [← hwl]; exact (Below.refl _ _).alloc (Nat.le_refl _) _
  have sl : wl.heap.size = wb.heap.size + 1 := by rw [← hwl]; simp
  have blkl : wl.heap[wb.heap.size]? = some (.cells #[Sm, Su] 40 (0, 0)) := by rw [← hwl]; exact heap_alloc_new _ _
  have hz := hB.size
  have bwl := bb.trans (bl.mono bb.size)
  have kwl : Ke (fun _ => False) wr wl := ke_below bwl _
  obtain ⟨w5, v5, hrun5, hI5, k5⟩ := appw17 elm_li17 (hI.keep kwl (fun _ _ _ e _ _ => e)) (by omega) (x := some ⟨wr.heap.size + 1, 0, none⟩) (n := 2) (cx := 2) (S := fun i => if i = 0 then Sm else Su) (by decide) (fun i _ => by show (if i = 0 then Sm else Su).oneCell' = true; split <;> assumption)
    ⟨_, _, rfl, fun i hi => by
      rw [← sb, cell_of_row _ _ _ _ _ _ blkl]
      match i, hi with
      | 0, _ => rfl
      | 1, _ => rfl⟩ (by omega)
  have h5z := k5.size
  refine ⟨w5, v5, hrun5, ?_, ?_⟩
  · have e : wl.heap[wr.heap.size]? = some (.cells #[Sm, Su, .slice (some ⟨pd, 0, none⟩) n pD, .slice none 0 0] 54 (0, 0)) := (bl.block _ (by omega)).trans blk
    have e2 := (k5.2 _ (by omega) (fun ⟨_, C, F, A, hA, _⟩ => by rw [e] at hA; cases hA)).trans e
    rw [cell_of_row _ _ 2 _ _ _ e2]
    rfl
  · have hcw : ∀ i, i < n → w5.cell? ⟨pd, 0 + i, none⟩ = some (.slice (some ⟨PB i, 0, none⟩) k (PC i)) := fun i hi => by
      rw [Nat.zero_add, k5.cell (by omega) (fun e => by omega), kwl.cell (by omega) (fun e => e), hB.cell (p := ⟨pd, i, none⟩) hpd]
      exact hc i hi
    have hR5 : Gw17 27 lo w5 rv (r * n) VR := (hR.keep kwl (fun _ _ _ e _ _ => e)).keep k5 (fun y C F ⟨_, C2, F2, h2⟩ h1 _ => absurd (row_ty17 h2 h1) (by decide))
    have hrn : r * n ≤ 24 := by
      have := Nat.mul_le_mul hr n2
      omega
    obtain ⟨w6, v6, hrun6, hR6, k6⟩ := appw17 elm_l8 hR5 (by omega) (x := some ⟨pd, 0, none⟩) (n := n) (cx := pD) (S := fun i => .slice (some ⟨PB i, 0, none⟩) k (PC i)) (by omega) (fun i _ => rfl) ⟨_, _, rfl, hcw⟩ (by omega)
    have kb : Ke (fun y => lo ≤ y) wr w6 := ((kwl.mono (fun _ _ e => e.elim)).trans (k5.mono (fun y _ e => e.1))).trans (k6.mono (fun y _ e => e.1))
    refine ⟨w6, v6, hrun6, hB.trans (kb.below (B := lo) (fun y e => e) (by omega)), ?_, ?_⟩
    · refine Gw17.congr ?_ (fun i hi => ?_) (V := fun i => if i < 2 * r then VI i else (if i - 2 * r = 0 then Sm else Su))
      · have := hI5.keep k6 (fun y C F ⟨_, C2, F2, h2⟩ h1 _ => absurd (row_ty17 h2 h1) (by decide))
        rw [show 2 * (r + 1) = 2 * r + 2 by omega]
        exact this
      · by_cases e : i < 2 * r
        · exact if_pos e
        · show (if i < 2 * r then VI i else (if i - 2 * r = 0 then Sm else Su)) = VI i
          rw [if_neg e]
          by_cases e2 : i = 2 * r
          · rw [if_pos (by omega), e2, hm]
          · rw [if_neg (by omega), show i = 2 * r + 1 by omega, hu2]
    · rw [Nat.succ_mul]
      refine hR6.congr (fun i hi => ?_)
      show (if i < r * n then VR i else _) = VR i
      by_cases e : i < r * n
      · exact if_pos e
      · rw [if_neg e, ← hd (i - r * n) (by omega), show r * n + (i - r * n) = i by omega]
end Go.Proofs.YtaoapplbcgflmaaGreat
namespace Go.Proofs.YtaoapplbcgflmaaGreat
open Go.RowKit Gf2
set_option linter.unusedVariables false

-- layer 17: McodeLists
theorem lists_start17 {W x w1 w2 w3 v0 : World} {c : Nat} {f : Int} {k m b n : Nat} {Q : Nat → Bool} (hb0 : Below W.heap.size W x) (hM : Md17 x w1 c f k m b) (b12 : Below w1.heap.size w1 w2) (b23 : Below w2.heap.size w2 w3) (b3 : Below w3.heap.size w3 v0) :
    Lp17 W v0 c f k m b n 0 w2.heap.size (fun _ => Q) (fun _ => 0) (fun _ => 0) (fun _ => 0) (fun _ => 0) (fun _ => 0) (fun _ => 0) (fun _ => 0) (fun _ => 0) (fun _ => 0) (fun _ => 0) (fun _ _ => 0) (fun _ _ => 0) := by
  obtain ⟨⟨Fp, ⟨FT, p, lo, hi, rows, t, hC⟩, hFp⟩, b1⟩ := hM
  have bW1 := hb0.trans (b1.mono hb0.size)
  have bW2 := bW1.trans (b12.mono bW1.size)
  have bW3 := bW2.trans (b23.mono bW2.size)
  have bW4 := bW3.trans (b3.mono bW3.size)
  have z0 := hb0.size
  have z1 := b1.size
  have z2 := b12.size
  have z3 := b23.size
  have z4 := b3.size
  exact ⟨fun p hp => absurd hp (Nat.not_lt_zero _), fun p hp => absurd hp (Nat.not_lt_zero _), fun p r _ hr => absurd hr (Nat.not_lt_zero _), fun p hp => absurd hp (Nat.not_lt_zero _), ⟨Fp, 0, [], ⟨_, _, _, _, _, _, ((hC.below b12).below b23).below b3⟩, Nat.zero_le _, Nat.le_refl _, fun b x hx => (by cases hx), fun x hx => ⟨by have := hFp x hx; omega, .inl (by have := hFp x hx; omega)⟩, fun p hp => absurd hp (Nat.not_lt_zero _)⟩, bW4, by omega, by omega⟩
theorem Lp17.lc17 {W y : World} {c : Nat} {f : Int} {k m b n q s0 : Nat} {Pp : Nat → Nat → Bool} {z z' gm Cm gu Cu dlo dhi gd cd : Nat → Nat} {DC DB : Nat → Nat → Nat} (h : Lp17 W y c f k m b n q s0 Pp z z' gm Cm gu Cu dlo dhi gd cd DC DB) (n1 : 1 ≤ n) {p : Nat} (hp : p < q) : gd p < y.heap.size ∧ ∀ j, j < n → y.cell? ⟨gd p, j, none⟩ = some (.slice (some ⟨DB p j, 0, none⟩) k (DC p j)) := by
  have h1 := h.pl p hp
  have h2 := h1.dr
  have hw := h2.hw
  rw [h.ln p hp] at h2
  obtain ⟨g', cap', e, -, -, -, g2, -, gc⟩ := h2.at17 n1
  cases e
  exact ⟨by omega, gc⟩
set_option maxHeartbeats 1000000 in
set_option maxRecDepth 100000 in
theorem lists17_any (nF nB nK nM : Int) (pa : Option Addr) (pn pc : Nat) (W : World) (hp : ∃ G, Qi W (.slice pa pn pc) pn G) :
    Calls Tryz.prog 7 #[.agg #[.int .i64 nF, .int .i64 nB, .int .i64 nK, .int .i64 nM], .slice pa pn pc] W fun e w' => e = .returned (.bool true) ∧ Below W.heap.size W w' := by
  obtain ⟨G, hG⟩ := hp
  have i1 := ino17_in (n := nK) (lo := 1) (hi := 20) (by decide) (by decide)
  have i2 := ino17_in (n := nM) (lo := 1) (hi := 12) (by decide) (by decide)
  obtain ⟨x, hx⟩ : ∃ x, x = W.alloc (.cells #[.int .i64 nF, .int .i64 nB, .int .i64 nK, .int .i64 nM] 23) := ⟨_, rfl⟩
  have hb0 : Below W.heap.size W x := by rw [hx]; exact (Below.refl _ _).alloc (Nat.le_refl _) _
  have hblk : x.heap[W.heap.size]? = some (.cells #[.int .i64 nF, .int .i64 nB, .int .i64 nK, .int .i64 nM] 23 (0, 0)) := by rw [hx]; exact heap_alloc_new _ _
  have HX : Hid (W.alloc (.cells #[.int .i64 nF, .int .i64 nB, .int .i64 nK, .int .i64 nM] 23) = x) := hx.symm
  have c1 := made17 nF nB nK nM x
  have z0 : x.cell? ⟨W.heap.size, 0, none⟩ = some (.int .i64 nF) := by rw [cell_of_row _ _ 0 _ _ _ hblk]; rfl
  have z1 : x.cell? ⟨W.heap.size, 1, none⟩ = some (.int .i64 nB) := by rw [cell_of_row _ _ 1 _ _ _ hblk]; rfl
  have z2 : x.cell? ⟨W.heap.size, 2, none⟩ = some (.int .i64 nK) := by rw [cell_of_row _ _ 2 _ _ _ hblk]; rfl
  have z3 : x.cell? ⟨W.heap.size, 3, none⟩ = some (.int .i64 nM) := by rw [cell_of_row _ _ 3 _ _ _ hblk]; rfl
  generalize ino17 nK 1 20 = k at *
  generalize ino17 nM 1 12 = m at *
  generalize ((ino17 nF 0 1 : Nat) : Int) = f at *
  generalize ino17 nB 0 2 = b at *
  have hcp := ino17_in (n := (pn : Int)) (lo := 1) (hi := m) i2.1 (by omega)
  have c6 : ∀ y, Calls Tryz.prog 17 #[.int .i64 (pn : Int), .int .i64 1, .int .i64 (m : Int)] y fun e w' => e = .returned (.int .i64 (ino17 (pn : Int) 1 m : Nat)) ∧ w' = y := fun y => into17 (pn : Int) 1 m y i2.1 (by omega)
  generalize ino17 (pn : Int) 1 m = n at *
  obtain ⟨Q, hQ⟩ : ∃ Q, Q = pk17 (k + m) (pg17 pn G) n := ⟨_, rfl⟩
  have hQn : (ems Q (k + m)).length = n := by rw [hQ]; exact pk17_len (by omega) n (by omega)
  have HP : Hid (∀ y, Below W.heap.size W y → Calls Tryz.prog 16 #[.int .i64 ((k : Int) + (m : Int)), .int .i64 (n : Int), .slice pa pn pc] y fun e w' => e = .returned (.slice (some ⟨y.heap.size, 0, none⟩) (k + m) (k + m)) ∧ w'.rowIs y.heap.size 4 (k + m) (fun i => .bool (Q i)) ∧ Below y.heap.size y w') := fun y hb => by
    have := pick17 (k + m) n pn G (.slice pa pn pc) y (hG.below hb) (by omega) (by omega) (by omega)
    rw [← hQ] at this
    exact this
  have HI : Hid (1 ≤ k ∧ k ≤ 20 ∧ 1 ≤ m ∧ m ≤ 12 ∧ 1 ≤ n ∧ n ≤ m ∧ (ems Q (k + m)).length = n ∧ Below W.heap.size W x) := ⟨i1.1, i1.2, i2.1, i2.2, hcp.1, hcp.2, hQn, hb0⟩
  have c2 := fun w => awake17 w
  have HW2 : Hid (wrap64 ((k : Int) + (m : Int)) = (k : Int) + (m : Int)) := by show _ = _; unfold wrap64; omega
  have W2 := HW2.out
  clear i1 i2 hb0 hblk hx hG hcp hQ hQn
  go_enter Tryz.func7, Tryz.ntmps7
  go_wp2_with (first
    | (go_at_call 9; rw [HX.out]; (with_reducible refine c1.mono ?_); rintro e w1 ⟨c, rfl, hM⟩; clear c1 z0 z1 z2 z3)
    | (go_at_call 10; (with_reducible refine (c2 _).mono ?_); rintro e w2 ⟨rfl, hb2⟩; clear c2; have HM : Hid (Md17 x w1 c f k m b ∧ Below w1.heap.size w1 w2) := ⟨hM, hb2⟩; have bW1 := HI.out.2.2.2.2.2.2.2.trans (hM.bel.mono HI.out.2.2.2.2.2.2.2.size); have c3 := HP.out w2 (bW1.trans (hb2.mono bW1.size)); clear hM hb2 bW1)
    | (go_at_call 17; (with_reducible refine (c6 _).mono ?_); rintro e w99 ⟨rfl, hw9⟩; have hw9 := hw9.symm; subst hw9; clear c6)
    | (go_at_call 16; (with_reducible refine c3.mono ?_); rintro e w3 ⟨rfl, hO⟩; clear c3 W2; have HO : Hid _ := hO; clear hO))
  go_loopw [9, 10] (fun s9 s10 wr => ∃ j : Nat, j ≤ k + m ∧ s10 = .int .i64 j ∧ Gj w3.heap.size wr s9 (ems Q j).length (emz Q j) ∧ Below w3.heap.size w3 wr) (fun _ s10 _ => k + m - (intOf s10).toNat)
  case atStart => exact ⟨0, Nat.zero_le _, rfl, Gj.start _ _ _, Below.refl _ _⟩
  case round =>
    obtain ⟨j, hj, rfl, hJ, hB⟩ := hrel
    obtain ⟨sa, sC, rfl⟩ := hJ.form
    have W2 := HW2.out
    by_cases hlt : j < k + m
    · have ib : ((j : Nat) : Int) < (k : Int) + (m : Int) := by omega
      have HJ : Hid (j < k + m ∧ k + m ≤ 256) := ⟨hlt, by have := HI.out; omega⟩
      have qo : wr.cell? ⟨w2.heap.size, j, none⟩ = some (.bool (Q j)) := (hB.cell (p := ⟨w2.heap.size, j, none⟩) HO.out.1.lt).trans (HO.out.1.cell hlt)
      have W1 := wrap_succ8 (j := j) (by have := HJ.out; unfold big; omega)
      cases hq : Q j
      · rw [hq] at qo
        have hE : Gj w3.heap.size wr (.slice sa (ems Q j).length sC) (ems Q (j + 1)).length (emz Q (j + 1)) ∧ Below w3.heap.size w3 wr := by
          have e : ems Q (j + 1) = ems Q j := ems_no hq
          have e2 : emz Q (j + 1) = emz Q j := by funext i; unfold emz; rw [e]
          rw [e, e2]
          exact ⟨hJ, hB⟩
        have HE : Hid _ := hE
        clear hJ hB hq hE hj hlt
        go_wp2
        go_roundw
        case rel => exact ⟨j + 1, HJ.out.1, by first | rfl | (rw [W1]; rfl), HE.out.1, HE.out.2⟩
        case measure => first | exact meas_lt8 HJ.out.1 | (rw [W1]; exact meas_lt8 HJ.out.1)
      · rw [hq] at qo
        obtain ⟨wa, va, hrun, hGa, hba⟩ := app_gj hJ hB.size (j : Int) (by have := ems_le Q j; have := HJ.out; omega)
        have hE : Gj w3.heap.size wa va (ems Q (j + 1)).length (emz Q (j + 1)) ∧ Below w3.heap.size w3 wa := by
          have e := ems_len_yes (P := Q) (k := j) hq
          rw [e]
          exact ⟨hGa.congr (fun i hi => emz_step (P := Q) (k := j) hq i (by rw [e]; exact hi)), hB.trans hba⟩
        have HE : Hid _ := hE
        clear hJ hB hq hE hj hlt hGa hba
        go_wp2_with (at_builtin; refine Lib.wpList_append_run _ rfl _ _ _ _ rfl _ _ rfl rfl _ _ hrun ?_; clear hrun)
        go_roundw
        case rel => exact ⟨j + 1, HJ.out.1, by first | rfl | (rw [W1]; rfl), HE.out.1, HE.out.2⟩
        case measure => first | exact meas_lt8 HJ.out.1 | (rw [W1]; exact meas_lt8 HJ.out.1)
    · have hjk : j = k + m := by omega
      subst hjk
      have htn : ¬ (((k + m : Nat) : Nat) : Int) < (k : Int) + (m : Int) := by omega
      have htn2 : ¬ (k : Int) + (m : Int) < (k : Int) + (m : Int) := by omega
      have h0 := lists_start17 (n := n) (Q := Q) HI.out.2.2.2.2.2.2.2 HM.out.1 HM.out.2 HO.out.2 hB
      have hln := HI.out.2.2.2.2.2.2.1
      rw [hln] at hJ ⊢
      rcases hJ with ⟨e, -⟩ | ⟨gv, Cv, Fv, e, g2, g3, g4, g5⟩
      · have := HI.out; omega
      cases e
      have d1 := lists_a17 h0 g4 (by have := HO.out.2.size; omega) g2 g5 hln HI.out.2.2.2.2.1 HI.out.2.2.2.2.2.1 (by have := HI.out; omega)
      have HC : Hid (n ≤ sC) := g2
      clear hB hj hlt h0 hln g2 g3 g4 g5
      generalize wr = v0 at d1 ⊢
      go_wp2_with (first
        | (go_at_call 24; (with_reducible refine d1.mono ?_); rintro e p1 ⟨am, aM, au, aU, ad, aD, rfl, hN⟩; clear d1 W2; obtain ⟨q1, hq1⟩ : ∃ q1, p1.alloc (.cells #[.slice (some ⟨am, 0, none⟩) n aM, .slice (some ⟨au, 0, none⟩) k aU, .slice (some ⟨ad, 0, none⟩) n aD, .slice none 0 0] 54) = q1 := ⟨_, rfl⟩; have d2 := hN q1 hq1; have HQ1 : Hid (p1.alloc (.cells #[.slice (some ⟨am, 0, none⟩) n aM, .slice (some ⟨au, 0, none⟩) k aU, .slice (some ⟨ad, 0, none⟩) n aD, .slice none 0 0] 54) = q1) := hq1; clear hN hq1)
        | (go_at_call 24; rw [HQ1.out]; (with_reducible refine d2.mono ?_); rintro e p2 ⟨bm, bM, bu, bU, bd, bD, rfl, hN⟩; clear d2 HQ1; obtain ⟨q3, go, Co, hrun, hg3, hL2⟩ := hN _ rfl; have HL2 : Hid _ := hL2; have HG3 : Hid _ := hg3; clear hN hL2 hg3)
        | (at_builtin; refine Lib.wpList_append_run _ rfl _ _ _ _ rfl _ _ rfl rfl _ _ hrun ?_; clear hrun))
      go_loopw [16] (fun s16 wr => ∃ i : Nat, i ≤ n ∧ s16 = .int .i64 i ∧ Only gv q3 wr ∧ Ri wr gv sC (fun y => if y < i then (y : Int) else Fv y)) (fun s16 _ => n - (intOf s16).toNat)
      case atStart => exact ⟨0, Nat.zero_le _, rfl, Only.refl _ _, Ri.congr HG3.out (fun y _ => (if_neg (Nat.not_lt_zero _)).symm)⟩
      case round =>
        obtain ⟨i, hi, rfl, ho, hr⟩ := hrel
        by_cases hlt : i < n
        · have ib : ((i : Nat) : Int) < (n : Int) := by omega
          have HJ : Hid (i < n ∧ n ≤ 12) := ⟨hlt, by have := HI.out; omega⟩
          have W1 := wrap_succ8 (j := i) (by have := HJ.out; unfold big; omega)
          have q1' := hr.2.2.cell (i := i) (by have := HC.out; omega)
          have q2' := hr.2.2.frozen i
          have hE : Only gv q3 (wr.setCell ⟨gv, i, none⟩ (.int .i64 (i : Int))) ∧ Ri (wr.setCell ⟨gv, i, none⟩ (.int .i64 (i : Int))) gv sC (fun y => if y < i + 1 then (y : Int) else Fv y) := by
            refine ⟨ho.setCell _ _, (hr.set i (i : Int)).congr (fun y _ => ?_)⟩
            show (if y = i then (i : Int) else if y < i then (y : Int) else Fv y) = _
            by_cases e : y = i
            · rw [if_pos e, if_pos (by omega), e]
            · rw [if_neg e]
              exact if_iff17 ⟨fun x => by omega, fun x => by omega⟩ _ _
          have HE : Hid _ := hE
          obtain ⟨zz, hzz⟩ : ∃ zz, zz = (fun y : Nat => if y < i then (y : Int) else Fv y) i := ⟨_, rfl⟩
          rw [← hzz] at q1'
          clear ho hr hE hi hlt hzz
          go_wp2
          go_roundw
          case rel => exact ⟨i + 1, HJ.out.1, by first | rfl | (rw [W1]; rfl), HE.out.1, HE.out.2⟩
          case measure => first | exact meas_lt8 HJ.out.1 | (rw [W1]; exact meas_lt8 HJ.out.1)
        · obtain rfl : i = n := by omega
          have ib : ¬ ((i : Nat) : Int) < (i : Int) := by omega
          have d3 := HL2.out wr ho hr
          generalize wr = q4 at d3 ⊢
          clear ho hr hi hlt HG3 HL2
          go_wp2_with (first
            | (go_at_call 24; (with_reducible refine d3.mono ?_); rintro e p3 ⟨dm, dM, du, dU, dd, dD, rfl, hN⟩; clear d3; obtain ⟨q5, hq5⟩ : ∃ q5, p3.alloc (.cells #[.slice (some ⟨dm, 0, none⟩) i dM, .slice (some ⟨du, 0, none⟩) k dU, .slice (some ⟨dd, 0, none⟩) i dD, .slice none 0 0] 54) = q5 := ⟨_, rfl⟩; have hq := hN q5 hq5; have HQ5 : Hid (p3.alloc (.cells #[.slice (some ⟨dm, 0, none⟩) i dM, .slice (some ⟨du, 0, none⟩) k dU, .slice (some ⟨dd, 0, none⟩) i dD, .slice none 0 0] 54) = q5) := hq5; have d4 := lists_b17 hq HI.out.1 HI.out.2.1 (by have := HI.out; omega); have a0 := hq.xa.c0; rw [← HQ5.out] at a0; clear hN hq5 hq)
            | (go_at_call 27; rw [HQ5.out]; (with_reducible refine d4.mono ?_); rintro e y1 ⟨rfl, hx, d5⟩; clear d4 a0 HQ5; have b0 := hx.c0; clear hx)
            | (go_at_call 27; (with_reducible refine d5.mono ?_); rintro e y2 ⟨rfl, hx, d6⟩; clear d5 b0; have a1 := hx.1.c1; have b1 := hx.2.c1; clear hx)
            | (go_at_call 27; (with_reducible refine d6.mono ?_); rintro e y3 ⟨rfl, hx, d7⟩; clear d6 a1 b1; have a2 := hx.1.c2; have b2 := hx.2.c2; clear hx)
            | (go_at_call 14; (with_reducible refine d7.mono ?_); rintro e y4 ⟨rfl, hx, d8⟩; clear d7 a2 b2; have a1 := hx.c1; have a2 := hx.c2; clear hx)
            | (go_at_call 12; (with_reducible refine d8.mono ?_); rintro e u1 ⟨rfl, hN⟩; clear d8 a1 a2; obtain ⟨u2, gw, Cw, qa, hrun, hLr⟩ := hN; have HLr : Hid _ := hLr; clear hLr)
            | (at_builtin; refine Lib.wpList_append_run _ rfl _ _ _ _ rfl _ _ rfl rfl _ _ hrun ?_; clear hrun qa; have a0 := HLr.out.lq.xa.c0; have a1 := HLr.out.lq.xa.c1; have a2 := HLr.out.lq.xa.c2; have a3 := HLr.out.lq.xa.c3; have b0 := HLr.out.lq.xb.c0; have b1 := HLr.out.lq.xb.c1; have b2 := HLr.out.lq.xb.c2; have b3 := HLr.out.lq.xb.c3; have e0 := HLr.out.lq.xd.c0; have e1 := HLr.out.lq.xd.c1; have e2 := HLr.out.lq.xd.c2; have e3 := HLr.out.lq.xd.c3))
          clear a0 a1 a2 a3 b0 b1 b2 b3 e0 e1 e2 e3
          obtain ⟨u3, hu3⟩ : ∃ u3, u2.alloc (.cells #[.slice (some ⟨am, 0, none⟩) i aM, .slice (some ⟨au, 0, none⟩) k aU, .slice (some ⟨ad, 0, none⟩) i aD, .slice none 0 0, .slice (some ⟨bm, 0, none⟩) i bM, .slice (some ⟨bu, 0, none⟩) k bU, .slice (some ⟨bd, 0, none⟩) i bD, .slice none 0 0, .slice (some ⟨dm, 0, none⟩) i dM, .slice (some ⟨du, 0, none⟩) k dU, .slice (some ⟨dd, 0, none⟩) i dD, .slice none 0 0] 54) = u3 := ⟨_, rfl⟩
          have HU : Hid (Below u2.heap.size u2 u3 ∧ u3.heap.size = u2.heap.size + 1 ∧ u3.heap[u2.heap.size]? = some (.cells #[.slice (some ⟨am, 0, none⟩) i aM, .slice (some ⟨au, 0, none⟩) k aU, .slice (some ⟨ad, 0, none⟩) i aD, .slice none 0 0, .slice (some ⟨bm, 0, none⟩) i bM, .slice (some ⟨bu, 0, none⟩) k bU, .slice (some ⟨bd, 0, none⟩) i bD, .slice none 0 0, .slice (some ⟨dm, 0, none⟩) i dM, .slice (some ⟨du, 0, none⟩) k dU, .slice (some ⟨dd, 0, none⟩) i dD, .slice none 0 0] 54 (0, 0)) ∧ u2.heap.size < u3.heap.size) := by
            refine ⟨by rw [← hu3]; exact (Below.refl _ _).alloc (Nat.le_refl _) _, by rw [← hu3]; simp, by rw [← hu3]; exact heap_alloc_new _ _, by rw [← hu3]; simp⟩
          rw [hu3]
          clear hu3
          obtain ⟨al, ah, bl, bh, dl, dh, aC, aB, bC, bB, dC, dB, hLp⟩ := (HLr.out.lq.below HU.out.1).lp
          have HLp : Hid _ := hLp
          clear hLp
          go_loopw [21, 22, 161] (fun s21 s22 s161 wr => ∃ r : Nat, r ≤ 3 ∧ s161 = .int .i64 r ∧ Below u3.heap.size u3 wr ∧ Gw17 40 u3.heap.size wr s21 (2 * r) (vI17 i k (n3 0 am bm dm) (n3 0 aM bM dM) (n3 0 au bu du) (n3 0 aU bU dU)) ∧ Gw17 27 u3.heap.size wr s22 (r * i) (vR17 i k (n3 (fun _ => 0) aB bB dB) (n3 (fun _ => 0) aC bC dC))) (fun _ _ s161 _ => 3 - (intOf s161).toNat)
          case atStart => exact ⟨0, by decide, rfl, Below.refl _ _, .inl ⟨rfl, rfl⟩, .inl ⟨Nat.zero_mul _, rfl⟩⟩
          case round =>
            obtain ⟨r, hr, rfl, hB, hI, hR⟩ := hrel
            rcases (show r = 0 ∨ r = 1 ∨ r = 2 ∨ r = 3 by omega) with h0 | h0 | h0 | h0
            · have hr0 : r = 0 := (by omega)
              subst hr0
              have hI : Gw17 40 u3.heap.size wr _ 0 _ := hI
              obtain ⟨ia, iC, rfl⟩ := hI.form
              rw [Nat.zero_mul] at hR
              obtain ⟨ra, rC, rfl⟩ := hR.form
              have hR : Gw17 27 u3.heap.size wr (.slice ra (0) rC) (0 * i) (vR17 i k (n3 (fun _ => 0) aB bB dB) (n3 (fun _ => 0) aC bC dC)) := by rw [Nat.zero_mul]; exact hR
              have y0 : wr.cell? ⟨u2.heap.size, 0, none⟩ = some (.slice (some ⟨am, 0, none⟩) i aM) := (hB.cell (p := ⟨u2.heap.size, 0, none⟩) HU.out.2.2.2).trans (by rw [cell_of_row _ _ 0 _ _ _ HU.out.2.2.1]; rfl)
              have y1 : wr.cell? ⟨u2.heap.size, 1, none⟩ = some (.slice (some ⟨au, 0, none⟩) k aU) := (hB.cell (p := ⟨u2.heap.size, 1, none⟩) HU.out.2.2.2).trans (by rw [cell_of_row _ _ 1 _ _ _ HU.out.2.2.1]; rfl)
              have y2 : wr.cell? ⟨u2.heap.size, 2, none⟩ = some (.slice (some ⟨ad, 0, none⟩) i aD) := (hB.cell (p := ⟨u2.heap.size, 2, none⟩) HU.out.2.2.2).trans (by rw [cell_of_row _ _ 2 _ _ _ HU.out.2.2.1]; rfl)
              have y3 : wr.cell? ⟨u2.heap.size, 3, none⟩ = some (.slice none 0 0) := (hB.cell (p := ⟨u2.heap.size, 3, none⟩) HU.out.2.2.2).trans (by rw [cell_of_row _ _ 3 _ _ _ HU.out.2.2.1]; rfl)
              have hlc := HLp.out.lc17 HI.out.2.2.2.2.1 (p := 0) (by decide)
              obtain ⟨⟨t0, t1⟩, hN⟩ := gather17 (r := 0) (pd := ad) (pD := aD) (PB := aB) (PC := aC) rfl hB hI hR hlc.1 hlc.2 rfl rfl rfl rfl (fun j hj => vR_at17 hj) HI.out.2.2.2.2.1 (by have := HI.out; omega) (by decide) _ rfl
              obtain ⟨w5, v5, hrun5, t2, w6, v6, hrun6, hB6, hI6, hR6⟩ := hN _ rfl
              have hE := And.intro hB6 (And.intro hI6 hR6)
              have HE : Hid _ := hE
              clear hB hI hR hlc hN hB6 hI6 hR6 hE hr
              go_wp2_with (first
                | (at_builtin; refine Lib.wpList_append_run _ rfl _ _ _ _ rfl _ _ rfl rfl _ _ hrun5 ?_; clear hrun5 t0 t1)
                | (at_builtin; refine Lib.wpList_append_run _ rfl _ _ _ _ rfl _ _ rfl rfl _ _ hrun6 ?_; clear hrun6 t2))
              go_roundw
              case rel => exact ⟨1, by decide, rfl, HE.out.1, HE.out.2.1, HE.out.2.2⟩
              case measure => simp [intOf]
            · have hr0 : r = 1 := (by omega)
              subst hr0
              have hI : Gw17 40 u3.heap.size wr _ 2 _ := hI
              obtain ⟨ia, iC, rfl⟩ := hI.form
              rw [Nat.one_mul] at hR
              obtain ⟨ra, rC, rfl⟩ := hR.form
              have hR : Gw17 27 u3.heap.size wr (.slice ra (i) rC) (1 * i) (vR17 i k (n3 (fun _ => 0) aB bB dB) (n3 (fun _ => 0) aC bC dC)) := by rw [Nat.one_mul]; exact hR
              have y0 : wr.cell? ⟨u2.heap.size, 4, none⟩ = some (.slice (some ⟨bm, 0, none⟩) i bM) := (hB.cell (p := ⟨u2.heap.size, 4, none⟩) HU.out.2.2.2).trans (by rw [cell_of_row _ _ 4 _ _ _ HU.out.2.2.1]; rfl)
              have y1 : wr.cell? ⟨u2.heap.size, 5, none⟩ = some (.slice (some ⟨bu, 0, none⟩) k bU) := (hB.cell (p := ⟨u2.heap.size, 5, none⟩) HU.out.2.2.2).trans (by rw [cell_of_row _ _ 5 _ _ _ HU.out.2.2.1]; rfl)
              have y2 : wr.cell? ⟨u2.heap.size, 6, none⟩ = some (.slice (some ⟨bd, 0, none⟩) i bD) := (hB.cell (p := ⟨u2.heap.size, 6, none⟩) HU.out.2.2.2).trans (by rw [cell_of_row _ _ 6 _ _ _ HU.out.2.2.1]; rfl)
              have y3 : wr.cell? ⟨u2.heap.size, 7, none⟩ = some (.slice none 0 0) := (hB.cell (p := ⟨u2.heap.size, 7, none⟩) HU.out.2.2.2).trans (by rw [cell_of_row _ _ 7 _ _ _ HU.out.2.2.1]; rfl)
              have hlc := HLp.out.lc17 HI.out.2.2.2.2.1 (p := 1) (by decide)
              obtain ⟨⟨t0, t1⟩, hN⟩ := gather17 (r := 1) (pd := bd) (pD := bD) (PB := bB) (PC := bC) rfl hB hI hR hlc.1 hlc.2 rfl rfl rfl rfl (fun j hj => vR_at17 hj) HI.out.2.2.2.2.1 (by have := HI.out; omega) (by decide) _ rfl
              obtain ⟨w5, v5, hrun5, t2, w6, v6, hrun6, hB6, hI6, hR6⟩ := hN _ rfl
              have hE := And.intro hB6 (And.intro hI6 hR6)
              have HE : Hid _ := hE
              clear hB hI hR hlc hN hB6 hI6 hR6 hE hr
              go_wp2_with (first
                | (at_builtin; refine Lib.wpList_append_run _ rfl _ _ _ _ rfl _ _ rfl rfl _ _ hrun5 ?_; clear hrun5 t0 t1)
                | (at_builtin; refine Lib.wpList_append_run _ rfl _ _ _ _ rfl _ _ rfl rfl _ _ hrun6 ?_; clear hrun6 t2))
              go_roundw
              case rel => exact ⟨2, by decide, rfl, HE.out.1, HE.out.2.1, HE.out.2.2⟩
              case measure => simp [intOf]
            · have hr0 : r = 2 := (by omega)
              subst hr0
              have hI : Gw17 40 u3.heap.size wr _ 4 _ := hI
              obtain ⟨ia, iC, rfl⟩ := hI.form
              obtain ⟨ra, rC, rfl⟩ := hR.form
              have y0 : wr.cell? ⟨u2.heap.size, 8, none⟩ = some (.slice (some ⟨dm, 0, none⟩) i dM) := (hB.cell (p := ⟨u2.heap.size, 8, none⟩) HU.out.2.2.2).trans (by rw [cell_of_row _ _ 8 _ _ _ HU.out.2.2.1]; rfl)
              have y1 : wr.cell? ⟨u2.heap.size, 9, none⟩ = some (.slice (some ⟨du, 0, none⟩) k dU) := (hB.cell (p := ⟨u2.heap.size, 9, none⟩) HU.out.2.2.2).trans (by rw [cell_of_row _ _ 9 _ _ _ HU.out.2.2.1]; rfl)
              have y2 : wr.cell? ⟨u2.heap.size, 10, none⟩ = some (.slice (some ⟨dd, 0, none⟩) i dD) := (hB.cell (p := ⟨u2.heap.size, 10, none⟩) HU.out.2.2.2).trans (by rw [cell_of_row _ _ 10 _ _ _ HU.out.2.2.1]; rfl)
              have y3 : wr.cell? ⟨u2.heap.size, 11, none⟩ = some (.slice none 0 0) := (hB.cell (p := ⟨u2.heap.size, 11, none⟩) HU.out.2.2.2).trans (by rw [cell_of_row _ _ 11 _ _ _ HU.out.2.2.1]; rfl)
              have hlc := HLp.out.lc17 HI.out.2.2.2.2.1 (p := 2) (by decide)
              obtain ⟨⟨t0, t1⟩, hN⟩ := gather17 (r := 2) (pd := dd) (pD := dD) (PB := dB) (PC := dC) rfl hB hI hR hlc.1 hlc.2 rfl rfl rfl rfl (fun j hj => vR_at17 hj) HI.out.2.2.2.2.1 (by have := HI.out; omega) (by decide) _ rfl
              obtain ⟨w5, v5, hrun5, t2, w6, v6, hrun6, hB6, hI6, hR6⟩ := hN _ rfl
              have hE := And.intro hB6 (And.intro hI6 hR6)
              have HE : Hid _ := hE
              clear hB hI hR hlc hN hB6 hI6 hR6 hE hr
              go_wp2_with (first
                | (at_builtin; refine Lib.wpList_append_run _ rfl _ _ _ _ rfl _ _ rfl rfl _ _ hrun5 ?_; clear hrun5 t0 t1)
                | (at_builtin; refine Lib.wpList_append_run _ rfl _ _ _ _ rfl _ _ rfl rfl _ _ hrun6 ?_; clear hrun6 t2))
              go_roundw
              case rel => exact ⟨3, by decide, rfl, HE.out.1, HE.out.2.1, HE.out.2.2⟩
              case measure => simp [intOf]
            · subst h0
              have hI : Gw17 40 u3.heap.size wr _ 6 _ := hI
              have hL := HLp.out.below hB
              have hlc := hL.lc17 HI.out.2.2.2.2.1 (p := 0) (by decide)
              have had : ad < p1.heap.size := by
                have h1 := (hL.pl 0 (by decide)).dr
                rw [hL.ln 0 (by decide)] at h1
                obtain ⟨g', cap', e, -, -, -, g2, -⟩ := h1.at17 HI.out.2.2.2.2.1
                have e' : (Value.slice (some ⟨ad, 0, none⟩) i aD) = .slice (some ⟨g', 0, none⟩) i cap' := e
                cases e'
                have iv0 : (v0.heap.size ≤ am ∧ am < p1.heap.size) ∧ (v0.heap.size ≤ au ∧ au < p1.heap.size) ∧ v0.heap.size ≤ al ∧ ah ≤ p1.heap.size ∧ _ := hL.iv 0 (by decide)
                have g2' : ad < ah := g2
                omega
              have d1 := lists_c17 (lo := u3.heap.size) HLr.out (HU.out.1.trans (hB.mono (by have := HU.out; omega))) (by have := HU.out; omega) hL hI hR HI.out.1 HI.out.2.1 HI.out.2.2.2.2.1 (by have := HI.out; omega) HI.out.2.2.2.2.2.1 HC.out
              obtain ⟨ia, iC, rfl⟩ := hI.form
              obtain ⟨ra, rC, rfl⟩ := hR.form
              have Had : Hid (ad < p1.heap.size) := had
              clear hI hR hL hlc had hB hr HLp
              go_wp2_with (first
                | (go_at_call 28; (with_reducible refine d1.mono ?_); rintro e v1 ⟨rfl, d2⟩; clear d1)
                | (go_at_call 29; (with_reducible refine d2.mono ?_); rintro e v2 ⟨rfl, hxa, hla, hN⟩; clear d2; have HN : Hid _ := hN; have HXA : Hid _ := hxa; have HLA : Hid _ := hla; clear hN hxa hla))
              obtain ⟨CA, FA, hca, hra⟩ := HLA.out
              have HCA : Hid (i ≤ CA) := hca
              clear HLA hca
              go_loopw [25] (fun s25 wr => ∃ j : Nat, j ≤ i ∧ s25 = .int .i64 j ∧ Only ad v2 wr ∧ ∃ F', wr.rowIs ad 27 CA F') (fun s25 _ => i - (intOf s25).toNat)
              case atStart => exact ⟨0, Nat.zero_le _, rfl, Only.refl _ _, FA, hra⟩
              case round =>
                clear hra
                obtain ⟨j, hj, rfl, ho, F', hF'⟩ := hrel
                have a2 : wr.cell? ⟨p1.heap.size, 2, none⟩ = some (.slice (some ⟨ad, 0, none⟩) i aD) := (ho.kp.ke.cell (Bx17.lt HXA.out) (fun e => by have := Had.out; have e' : p1.heap.size = ad := e; omega)).trans (Bx17.c2 HXA.out)
                by_cases hlt : j < i
                · have ib2 : ((j : Nat) : Int) < (i : Int) := by omega
                  have HJ : Hid (j < i ∧ i ≤ 12) := ⟨hlt, by have := HI.out; omega⟩
                  have W1 := wrap_succ8 (j := j) (by have := HJ.out; unfold big; omega)
                  have q1' := hF'.cell (i := j) (by have := HCA.out; omega)
                  have q2' := hF'.frozen j
                  have hE : Only ad v2 (wr.setCell ⟨ad, j, none⟩ (.slice none 0 0)) ∧ ∃ F', (wr.setCell ⟨ad, j, none⟩ (.slice none 0 0)).rowIs ad 27 CA F' := ⟨ho.setCell _ _, _, hF'.set j _⟩
                  have HE : Hid _ := hE
                  generalize F' j = zz at q1'
                  clear ho hF' hE hj hlt
                  go_wp2
                  go_roundw
                  case rel => exact ⟨j + 1, HJ.out.1, by first | rfl | (rw [W1]; rfl), HE.out.1, HE.out.2⟩
                  case measure => first | exact meas_lt8 HJ.out.1 | (rw [W1]; exact meas_lt8 HJ.out.1)
                · have ib2 : ¬ ((j : Nat) : Int) < (i : Int) := by omega
                  obtain ⟨hxb, ⟨bx, by_, hcb⟩, d4⟩ := HN.out wr ho
                  have b2 := hxb.c2
                  have hi0 : (0 : Int) < (i : Int) := by have := HI.out; omega
                  have hi1 : 0 < i := by have := HI.out; omega
                  have hnil : ∀ W : World, Sem.run Tryz.prog (binOp BinOp.eql 27 (Value.slice (some ⟨bx, 0, none⟩) k by_) (Value.slice none 0 0)) W = .ok (.bool false) W := fun W => by
                    kernel_rfl
                  clear ho hF' hj hlt hxb HN
                  have D9 : ((i : Int) == 0) = false := beq_eq_false_iff_ne.2 (by have := HI.out; omega)
                  go_wp2_with (first
                    | (go_at_call 24; (with_reducible refine d4.mono ?_); rintro e p4 ⟨zm, zM, zu, zU, zd, zD, rfl, hN⟩; clear d4 a2 b2 hcb hnil; obtain ⟨q6, hq6⟩ : ∃ q6, p4.alloc (.cells #[.slice (some ⟨zm, 0, none⟩) i zM, .slice (some ⟨zu, 0, none⟩) k zU, .slice (some ⟨zd, 0, none⟩) i zD, .slice none 0 0] 54) = q6 := ⟨_, rfl⟩; have hE := hN q6 hq6; have HQ6 : Hid (p4.alloc (.cells #[.slice (some ⟨zm, 0, none⟩) i zM, .slice (some ⟨zu, 0, none⟩) k zU, .slice (some ⟨zd, 0, none⟩) i zD, .slice none 0 0] 54) = q6) := hq6; have HE : Hid _ := hE; have c1 : Calls Tryz.prog 27 #[.slice (some ⟨zm, 0, none⟩) i zM, .slice (some ⟨go, 0, none⟩) i Co] q6 fun e w' => e = .returned (.bool true) ∧ ∃ j, w' = q6.drewN j := (HE.out.2.1 0).mono (fun e w' ⟨h, j, hj⟩ => ⟨h, 0 + j, by rw [hj, World.drewN_drewN]⟩); clear hN hq6 hE)
                    | (go_at_call 27; rw [HQ6.out]; (with_reducible refine c1.mono ?_); rintro e y5 ⟨rfl, j1, hy5⟩; subst hy5; clear c1 HQ6; have z1 := Bx17.c1 (y := q6.drewN j1) HE.out.1; have c2 := HE.out.2.2.1 j1)
                    | (go_at_call 27; (with_reducible refine c2.mono ?_); rintro e y6 ⟨rfl, j2, hy6⟩; rw [World.drewN_drewN] at hy6; subst hy6; clear c2 z1; have z2 := Bx17.c2 (y := q6.drewN (j1 + j2)) HE.out.1; have c3 := HE.out.2.2.2.1 (j1 + j2))
                    | (go_at_call 14; (with_reducible refine c3.mono ?_); rintro e y7 ⟨rfl, j3, hy7⟩; rw [World.drewN_drewN] at hy7; subst hy7; clear c3 z2; have g0 : (q6.drewN (j1 + j2 + j3)).cell? ⟨gv, 0, none⟩ = some (.int .i64 0) := HE.out.2.2.2.2.1))
                  go_ret
                  exact ⟨rfl, below_drewN HE.out.2.2.2.2.2 _⟩
end Go.Proofs.YtaoapplbcgflmaaGreat
