import Derived.Test.YtemjodlhpelbaaaDoorAls
namespace Go.Proofs.YtemjodlhpelbaaaDoor
open Go.RowKit Gf2
set_option linter.unusedVariables false

-- laid by wip/genafl.py
theorem lists_first (b o n0 cap : Nat) (F : Nat → Nat) (w : World) (h : Q6 w (.slice (some ⟨b, o, none⟩) n0 cap) n0 F) (h0 : 0 < n0) (hcap : n0 ≤ cap) (hC : Cab w) (hT : Tzt w) :
    Calls Tryd.prog 9 #[] w fun e w1 => e = .returned (.bool true) ∧
    Calls Tryd.prog 10 #[.slice (some ⟨b, o, none⟩) n0 cap, .int .i64 64] (w1.alloc (.cells #[] 31)) fun e w2 => ∃ k n : Nat, e = .returned (.slice (some ⟨b, o, none⟩) n cap) ∧ w2 = w1.alloc (.cells #[] 31) ∧ (((n : Int) == 0) = false) ∧ Hid (n = 2 ^ k ∧ n ≤ 64 ∧ 0 < n) ∧
      ∃ (W : World) (gv Cv : Nat), (Builtin.append_ #[22, 22] 22 #[.slice (some ⟨w1.heap.size, 0, none⟩) 0 0, .slice (some ⟨b, o, none⟩) n cap]).run Tryd.prog (w1.alloc (.cells #[] 31)) = .ok (.slice (some ⟨gv, 0, none⟩) n Cv) W ∧ Hid (∃ F, Ls w W W gv Cv n F [] ∧ w.heap.size ≤ gv) := by
  refine (awake14 w hC hT).mono fun e w1 ⟨he, b1⟩ => ⟨he, ?_⟩
  refine (cut14 b o n0 cap 64 h0 hcap (by decide) (by decide) _).mono fun e w2 ⟨k, n, he, hk, hw⟩ => ⟨k, n, he, hw, ?_⟩
  obtain ⟨hk1, hk2, hk3⟩ := hk.out
  have c0 : 0 < n := by rw [hk1]; exact Nat.two_pow_pos k
  refine ⟨by simp; omega, ⟨hk1, hk3, c0⟩, ?_⟩
  obtain ⟨W, gv, Cv, Fv, run, hCv, hgv, hR, hF, bW⟩ := app_lit14 w1 ((h.head h0 hk2).below b1) (by omega)
  exact ⟨W, gv, Cv, run, Fv, ⟨((Bs.self hC hT).then b1).then bW, hR, hCv, hR.lt, ⟨fun p hp => (by cases hp), List.Pairwise.nil⟩, Nat.le_refl _⟩, Nat.le_trans b1.size hgv⟩
/-- i words turned. -/
def ff (F : Nat → Nat) (fl i x : Nat) : Nat := if x < i then F x ^^^ fl else F x
theorem ff_zero (F : Nat → Nat) (fl : Nat) : ff F fl 0 = F := by funext x; unfold ff; rw [if_neg (Nat.not_lt_zero _)]
theorem ff_next (F : Nat → Nat) (fl i x : Nat) : (if x = i then F i ^^^ fl else ff F fl i x) = ff F fl (i + 1) x := by
  unfold ff
  by_cases e : x = i
  · rw [if_pos e, if_pos (by omega), e]
  · rw [if_neg e]
    by_cases e2 : x < i
    · rw [if_pos e2, if_pos (by omega)]
    · rw [if_neg e2, if_neg (by omega)]
theorem lists_last {w wB W : World} {gv Cv n k s gn Cn : Nat} {F Fn : Nat → Nat} {l : List En} (h : Ls w wB W gv Cv n F l) (hn : n = 2 ^ k) (h64 : n ≤ 64) (h0 : 0 < n) (hd : n ∣ s) (hs : s + n ≤ 65536) (hw : w.heap.size ≤ wB.heap.size) (e10 : l[10]? = some (gn, Cn, Fn)) (hnC : n ≤ Cn) (hFn : ∀ i, i < n → Fn i = F i)
    {Bk : Nat → Nat} (hl : ∀ r, r < 18 → ∃ G, l[ix r]? = some (Bk r, n, G)) (cells : Array Value) (hsz : cells.size = 18) (hc : ∀ r, r < 18 → cells[r]? = some (.slice (some ⟨Bk r, 0, none⟩) n n)) :
    Calls Tryd.prog 22 #[.slice (some ⟨W.heap.size, 0, none⟩) 18 18] (W.alloc (.cells cells 22)) fun e W1 => e = .returned (.bool true) ∧
    Calls Tryd.prog 13 #[.slice (some ⟨gv, 0, none⟩) n Cv, .int .i64 (s : Int)] W1 fun e W2 => e = .returned (.tuple #[.slice (some ⟨W1.heap.size, 0, none⟩) n n, .int .i64 0]) ∧
    Calls Tryd.prog 12 #[.slice (some ⟨W1.heap.size, 0, none⟩) n n, .int .i64 (s : Int)] W2 fun e W3 => e = .returned (.tuple #[.slice (some ⟨W2.heap.size, 0, none⟩) n n, .int .i64 0]) ∧
    Calls Tryd.prog 14 #[.slice (some ⟨gv, 0, none⟩) n Cv, .slice (some ⟨gn, 0, none⟩) n Cn] W3 fun e W4 => e = .returned (.bool true) ∧
    Calls Tryd.prog 14 #[.slice (some ⟨W2.heap.size, 0, none⟩) n n, .slice (some ⟨gn, 0, none⟩) n Cn] W4 fun e W5 => e = .returned (.bool true) ∧ Hid (Below w.heap.size w W5) := by
  obtain ⟨⟨S, hS⟩, inj, hge, hnow⟩ := pick18 h.iv hl
  have b0 := below_alloc W (.cells cells 22)
  have hk16 := pow16 hn (by omega)
  have hE : ∀ x, Eb Bk 18 x → wB.heap.size ≤ x := fun x ⟨r, hr, e⟩ => e ▸ hge r hr
  refine (apart14 (W.alloc (.cells cells 22)) W.heap.size n Bk S h64 h0 ⟨cells, heap_alloc_new _ _, hsz, hc⟩ (fun r hr => (hS r hr).below b0) inj (fun ⟨r, hr, e⟩ => by have := (hS r hr).lt; omega)).mono fun e W1 ⟨he, k1⟩ => ⟨he, ?_⟩
  have B1 : Bs w W1 := (h.bs.then b0).kx k1 (fun x hx => Nat.le_trans hw (hE x hx))
  have v1 : R6 W1 gv Cv F := (h.v.below b0).kx k1 (fun hx => by have := hE gv hx; have := h.lv; omega)
  have n1 : R6 W1 gn Cn Fn := ((h.iv.at e10).2.below b0).kx k1 (fun ⟨r, hr, e⟩ => hnow r hr _ e10 e)
  have qv : Q6 W1 (.slice (some ⟨gv, 0, none⟩) n Cv) n F := v1.q6 h.nv h.nv v1.1 (fun _ _ => rfl)
  have qn : Q6 W1 (.slice (some ⟨gn, 0, none⟩) n Cn) n F := n1.q6 hnC hnC n1.1 hFn
  refine (fwd14 _ k n s F w W1 B1 qv hk16 hn hd hs).mono fun e W2 ⟨he, r2, b2⟩ => ⟨he, ?_⟩
  refine (inv14 _ k n s _ w W2 (B1.then b2) r2.all hk16 hn hd hs).mono fun e W3 ⟨he, r3, b3⟩ => ⟨he, ?_⟩
  rw [iw_fw] at r3
  refine (alike14 _ _ n F W3 ((qv.below b2).below b3) ((qn.below b2).below b3)).mono fun e W4 ⟨he, m4, e4⟩ => ⟨he, ?_⟩
  subst e4
  refine (alike14 _ _ n F _ (r3.all.drewN m4) (((qn.below b2).below b3).drewN m4)).mono fun e W5 ⟨he, m5, e5⟩ => ⟨he, ?_⟩
  subst e5
  exact below_drewN (below_drewN ((B1.then b2).then b3).b m4) m5
set_option maxHeartbeats 40000000 in
set_option maxRecDepth 100000 in
theorem afftLists_main (b o n0 cap : Nat) (a : Int) (fl : Nat) (F0 : Nat → Nat) (w : World) (h : Q6 w (.slice (some ⟨b, o, none⟩) n0 cap) n0 F0) (h0 : 0 < n0) (hcap : n0 ≤ cap) (hfl : fl < 65536) (hC : Cab w) (hT : Tzt w) :
    Calls Tryd.prog 8 #[.slice (some ⟨b, o, none⟩) n0 cap, .int .i64 a, .int .u16 (fl : Int)] w fun e w' => e = .returned (.bool true) ∧ Below w.heap.size w w' := by
  have c1 := lists_first b o n0 cap F0 w h h0 hcap hC hT
  have Hfl : Hid (fl < 65536) := hfl
  clear h h0 hcap hC hT hfl
  go_enter Tryd.func8, Tryd.ntmps8
  go_upto_region 6 with (first
    | (go_at_call 9; (with_reducible refine c1.mono ?_); rintro e w1 ⟨rfl, c2⟩)
    | (go_at_call 10; (with_reducible refine c2.mono ?_); rintro e w2 ⟨k, n, rfl, hw2, z0, HK, W, gv, Cv, run0, HV0⟩; subst hw2)
    | (at_builtin; refine Lib.wpList_append_run _ rfl _ _ _ _ rfl _ _ rfl rfl _ _ run0 ?_; clear run0))
  clear c1 c2
  obtain ⟨F, hL0, hgw⟩ := HV0.out
  have c3 := begin14 a k n HK.out.1 (by have := HK.out.2.1; omega) W
  have c4 := begin14 (wrap64 (a + 1)) k n HK.out.1 (by have := HK.out.2.1; omega) W
  have HS0 : Hid (Ls w W W gv Cv n F []) := hL0
  have HG : Hid (w.heap.size ≤ gv) := hgw
  clear HV0 hL0 hgw
  go_upto_region 9 with (go_at_call 11; first
    | ((with_reducible refine c3.mono ?_); rintro e w3 ⟨s, rfl, HA, hw3⟩; have hw3 := hw3.symm; subst hw3; clear c3)
    | ((with_reducible refine c4.mono ?_); rintro e w4 ⟨t, rfl, HB, hw4⟩; have hw4 := hw4.symm; subst hw4; clear c4))
  have hq := HS0.out.q
  obtain ⟨Wo, go, Co, Fo, runo, hCo, hgo, hRo, hFo, hbo⟩ := app_lit14 _ hq (by have := HK.out.2.1; omega)
  have HO : Hid (n ≤ Co ∧ ∀ i, i < n → Fo i = F i) := ⟨hCo, hFo⟩
  have HS1 := HS0.out.push hbo hgo hRo
  replace HS1 : Hid _ := HS1
  clear hq hCo hgo hRo hFo hbo
  go_upto_region 10 with (at_builtin; refine Lib.wpList_append_run _ rfl _ _ _ _ rfl _ _ rfl rfl _ _ runo ?_; clear runo)
  have d1 := HS1.out.fwd HK.out.1 HK.out.2.1 HA.out.1 HA.out.2
  go_upto_region 11 with (go_at_call 13; (with_reducible refine d1.mono ?_); rintro e V1 ⟨x1, rfl, HS2⟩; clear d1 HS1)
  have d2 := HS2.out.fwd HK.out.1 HK.out.2.1 HA.out.1 HA.out.2
  go_upto_region 12 with (go_at_call 13; (with_reducible refine d2.mono ?_); rintro e V2 ⟨x2, rfl, HS3⟩; clear d2 HS2)
  have d3 := HS3.out.inv HK.out.1 HK.out.2.1 HA.out.1 HA.out.2
  go_upto_region 13 with (go_at_call 12; (with_reducible refine d3.mono ?_); rintro e V3 ⟨x3, rfl, HS4⟩; clear d3 HS3)
  have d4 := HS4.out.inv HK.out.1 HK.out.2.1 HA.out.1 HA.out.2
  go_upto_region 14 with (go_at_call 12; (with_reducible refine d4.mono ?_); rintro e V4 ⟨x4, rfl, HS5⟩; clear d4 HS4)
  have d5 := HS5.out.ext HK.out.1 HK.out.2.1 HA.out.1 HA.out.2 HB.out.1 HB.out.2
  go_upto_region 15 with (go_at_call 18; (with_reducible refine d5.mono ?_); rintro e V5 ⟨x5, rfl, HS6⟩; clear d5 HS5)
  have d6 := HS6.out.ext HK.out.1 HK.out.2.1 HA.out.1 HA.out.2 HB.out.1 HB.out.2
  go_upto_region 16 with (go_at_call 18; (with_reducible refine d6.mono ?_); rintro e V6 ⟨x6, rfl, HS7⟩; clear d6 HS6)
  have d7 := HS7.out.fold HK.out.1 HK.out.2.1 HA.out.1 HA.out.2
  go_upto_region 17 with (go_at_call 21; (with_reducible refine d7.mono ?_); rintro e V7 ⟨x7, rfl, HS8⟩; clear d7 HS7)
  have d8 := HS8.out.fold HK.out.1 HK.out.2.1 HA.out.1 HA.out.2
  go_wp2_with (go_at_call 21; (with_reducible refine d8.mono ?_); rintro e V8 ⟨x8, rfl, HS9⟩; clear d8 HS8)
  obtain ⟨l9, hl9⟩ : ∃ l9 : List En, l9 = (x8, n, iw s F k) :: (x7, n, iw s F k) :: (x6, n, ex s t k F) :: (x5, n, ex s t k F) :: (x4, n, iw s F k) :: (x3, n, iw s F k) :: (x2, n, fw s k F k) :: (x1, n, fw s k F k) :: [(go, Co, Fo)] := ⟨_, rfl⟩
  replace HS9 : Hid (Ls w W V8 gv Cv n F l9) := by rw [hl9]; exact HS9.out
  replace hl9 : Hid (l9 = (x8, n, iw s F k) :: (x7, n, iw s F k) :: (x6, n, ex s t k F) :: (x5, n, ex s t k F) :: (x4, n, iw s F k) :: (x3, n, iw s F k) :: (x2, n, fw s k F k) :: (x1, n, fw s k F k) :: [(go, Co, Fo)]) := hl9
  go_loopw [27] (fun iv wr => ∃ i : Nat, i ≤ n ∧ iv = .int .i64 i ∧ Ls w W wr gv Cv n (ff F fl i) l9) (fun iv _ => n - (intOf iv).toNat)
  case atStart => exact ⟨0, Nat.zero_le _, rfl, by rw [ff_zero]; exact HS9.out⟩
  case round =>
    obtain ⟨i, hi, rfl, hl⟩ := hrel
    by_cases hlt : i < n
    · have tb : ((i : Nat) : Int) < (n : Int) := by omega
      have W1 := wrap_succ8 (j := i) (by have := HK.out.2.1; unfold big; omega)
      have e1 : ff F fl i i = F i := by unfold ff; rw [if_neg (Nat.lt_irrefl _)]
      have l1 : F i < 65536 := by rw [← e1]; exact hl.v.2.1 i (by have := hl.nv; omega)
      have y1 : wr.cell? ⟨gv, i, none⟩ = some (.int .u16 (F i : Nat)) := by rw [← e1]; exact hl.v.2.2.cell (i := i) (by have := hl.nv; omega)
      have y2 := hl.v.2.2.frozen i
      have X := u16_xor_nat (F i) fl l1 Hfl.out
      have lx := Nat.xor_lt_two_pow (n := 16) l1 Hfl.out
      have HV : Hid (Ls w W (wr.setCell ⟨gv, i, none⟩ (.int .u16 ((F i ^^^ fl : Nat) : Int))) gv Cv n (ff F fl (i + 1)) l9) :=
        hl.turn HG.out ((Kp.refl gv wr).setCell _ _) ((hl.v.set i _ lx).congr (fun x hx => ff_next F fl i x))
      obtain ⟨D, hD⟩ : ∃ D, D = F i := ⟨_, rfl⟩
      rw [← hD] at y1 X HV
      clear hl e1 l1 lx hD
      go_wp2
      go_roundw
      case rel => exact ⟨i + 1, hlt, by first | rfl | (rw [W1]; rfl), HV.out⟩
      case measure => first | exact meas_lt8 hlt | (rw [W1]; exact meas_lt8 hlt)
    · obtain rfl : i = n := Nat.le_antisymm hi (Nat.le_of_not_lt hlt)
      have tb : ¬ ((i : Nat) : Int) < (i : Int) := by omega
      obtain ⟨F', hF'⟩ : ∃ F', F' = ff F fl i := ⟨_, rfl⟩
      rw [← hF'] at hl
      have HSa : Hid (Ls w W wr gv Cv i F' l9) := hl
      have hq := hl.q
      obtain ⟨Wn, gn, Cn, Fn, runn, hCn, hgn, hRn, hFn, hbn⟩ := app_lit14 _ hq (by have := HK.out.2.1; omega)
      have HNw : Hid (i ≤ Cn ∧ ∀ x, x < i → Fn x = F' x) := ⟨hCn, hFn⟩
      have HS10 : Hid (Ls w W Wn gv Cv i F' ((gn, Cn, Fn) :: l9)) := HSa.out.push hbn hgn hRn
      clear hq hCn hgn hRn hFn hbn hl HSa hF' HS9
      go_upto_region 23 with (at_builtin; refine Lib.wpList_append_run _ rfl _ _ _ _ rfl _ _ rfl rfl _ _ runn ?_; clear runn)
      have d10 := HS10.out.fwd HK.out.1 HK.out.2.1 HA.out.1 HA.out.2
      go_upto_region 24 with (go_at_call 13; (with_reducible refine d10.mono ?_); rintro e V10 ⟨x10, rfl, HS11⟩; clear d10 HS10)
      have d11 := HS11.out.inv HK.out.1 HK.out.2.1 HA.out.1 HA.out.2
      go_upto_region 25 with (go_at_call 12; (with_reducible refine d11.mono ?_); rintro e V11 ⟨x11, rfl, HS12⟩; clear d11 HS11)
      have d12 := HS12.out.ext HK.out.1 HK.out.2.1 HA.out.1 HA.out.2 HB.out.1 HB.out.2
      go_upto_region 26 with (go_at_call 18; (with_reducible refine d12.mono ?_); rintro e V12 ⟨x12, rfl, HS13⟩; clear d12 HS12)
      have d13 := HS13.out.fold HK.out.1 HK.out.2.1 HA.out.1 HA.out.2
      go_upto_region 27 with (go_at_call 21; (with_reducible refine d13.mono ?_); rintro e V13 ⟨x13, rfl, HS14⟩; clear d13 HS13)
      replace HS14 : Hid (Ls w W V13 gv Cv i F' ((x13, i, iw s F' k) :: (x12, i, ex s t k F') :: (x11, i, iw s F' k) :: (x10, i, fw s k F' k) :: (gn, Cn, Fn) :: (x8, i, iw s F k) :: (x7, i, iw s F k) :: (x6, i, ex s t k F) :: (x5, i, ex s t k F) :: (x4, i, iw s F k) :: (x3, i, iw s F k) :: (x2, i, fw s k F k) :: (x1, i, fw s k F k) :: [(go, Co, Fo)])) := by
        have h := HS14.out
        rw [hl9.out] at h
        exact h
      have q1 := HS14.out.eq (HS14.out.get 12 rfl (Nat.le_refl _) (fun _ _ => rfl)) (HS14.out.get 11 rfl (Nat.le_refl _) (fun _ _ => rfl))
      go_upto_region 29 with (go_at_call 14; first
        | ((with_reducible refine q1.mono ?_); rintro e qW1 ⟨rfl, Hq1⟩; have q2 := Hq1.out.eq (Hq1.out.get 10 rfl (Nat.le_refl _) (fun _ _ => rfl)) (Hq1.out.get 9 rfl (Nat.le_refl _) (fun _ _ => rfl)); clear q1)
        | ((with_reducible refine q2.mono ?_); rintro e qW2 ⟨rfl, Hq2⟩; have q3 := Hq2.out.eq (Hq2.out.get 8 rfl (Nat.le_refl _) (fun _ _ => rfl)) (Hq2.out.get 7 rfl (Nat.le_refl _) (fun _ _ => rfl)); clear q2)
        | ((with_reducible refine q3.mono ?_); rintro e qW3 ⟨rfl, Hq3⟩; have q4 := Hq3.out.eq (Hq3.out.get 6 rfl (Nat.le_refl _) (fun _ _ => rfl)) (Hq3.out.get 5 rfl (Nat.le_refl _) (fun _ _ => rfl)); clear q3)
        | ((with_reducible refine q4.mono ?_); rintro e qW4 ⟨rfl, Hq4⟩; have q5 := Hq4.out.eq (Hq4.out.get 6 rfl (Nat.le_refl _) (fun _ _ => rfl)) (Hq4.out.get 10 rfl (Nat.le_refl _) (fun _ _ => rfl)); clear q4)
        | ((with_reducible refine q5.mono ?_); rintro e qW5 ⟨rfl, Hq5⟩; have q6 := Hq5.out.eq (Hq5.out.get 0 rfl (Nat.le_refl _) (fun _ _ => rfl)) (Hq5.out.get 2 rfl (Nat.le_refl _) (fun _ _ => rfl)); clear q5)
        | ((with_reducible refine q6.mono ?_); rintro e qW6 ⟨rfl, Hq6⟩; clear q6))
      obtain ⟨Y0, ga0, Ca0, runc0, HY0⟩ := Hq6.out.copy HK.out.2.1 (j := 12) rfl rfl
      have m0 := HY0.out.1.inv' HY0.out.2 HK.out.1 HK.out.2.1 HA.out.1 HA.out.2
      clear Hq6
      go_upto_region 30 with (first
        | (at_builtin; refine Lib.wpList_append_run _ rfl _ _ _ _ rfl _ _ rfl rfl _ _ runc0 ?_; clear runc0)
        | (go_at_call 12; (with_reducible refine m0.mono ?_); rintro e Z0 ⟨z0, rfl, HZ0⟩; clear m0 HY0))
      obtain ⟨Y1, ga1, Ca1, runc1, HY1⟩ := HZ0.out.copy HK.out.2.1 (j := 4) rfl rfl
      have m1 := HY1.out.1.inv' HY1.out.2 HK.out.1 HK.out.2.1 HA.out.1 HA.out.2
      clear HZ0
      go_upto_region 31 with (first
        | (at_builtin; refine Lib.wpList_append_run _ rfl _ _ _ _ rfl _ _ rfl rfl _ _ runc1 ?_; clear runc1)
        | (go_at_call 12; (with_reducible refine m1.mono ?_); rintro e Z1 ⟨z1, rfl, HZ1⟩; clear m1 HY1))
      obtain ⟨Y2, ga2, Ca2, runc2, HY2⟩ := HZ1.out.copy HK.out.2.1 (j := 12) rfl rfl
      have m2 := HY2.out.1.fwd' HY2.out.2 HK.out.1 HK.out.2.1 HA.out.1 HA.out.2
      clear HZ1
      go_upto_region 32 with (first
        | (at_builtin; refine Lib.wpList_append_run _ rfl _ _ _ _ rfl _ _ rfl rfl _ _ runc2 ?_; clear runc2)
        | (go_at_call 13; (with_reducible refine m2.mono ?_); rintro e Z2 ⟨z2, rfl, HZ2⟩; clear m2 HY2))
      obtain ⟨Y3, ga3, Ca3, runc3, HY3⟩ := HZ2.out.copy HK.out.2.1 (j := 5) rfl rfl
      have m3 := HY3.out.1.fwd' HY3.out.2 HK.out.1 HK.out.2.1 HA.out.1 HA.out.2
      clear HZ2
      go_upto_region 33 with (first
        | (at_builtin; refine Lib.wpList_append_run _ rfl _ _ _ _ rfl _ _ rfl rfl _ _ runc3 ?_; clear runc3)
        | (go_at_call 13; (with_reducible refine m3.mono ?_); rintro e Z3 ⟨z3, rfl, HZ3⟩; clear m3 HY3))
      obtain ⟨Y4, ga4, Ca4, runc4, HY4⟩ := HZ3.out.copy HK.out.2.1 (j := 12) rfl rfl
      have m4 := HY4.out.1.ext' HY4.out.2 HK.out.1 HK.out.2.1 HB.out.1 HB.out.2 HA.out.1 HA.out.2
      clear HZ3
      go_upto_region 34 with (first
        | (at_builtin; refine Lib.wpList_append_run _ rfl _ _ _ _ rfl _ _ rfl rfl _ _ runc4 ?_; clear runc4)
        | (go_at_call 18; (with_reducible refine m4.mono ?_); rintro e Z4 ⟨z4, rfl, HZ4⟩; clear m4 HY4))
      obtain ⟨Y5, ga5, Ca5, runc5, HY5⟩ := HZ4.out.copy HK.out.2.1 (j := 6) rfl rfl
      have m5 := HY5.out.1.ext' HY5.out.2 HK.out.1 HK.out.2.1 HB.out.1 HB.out.2 HA.out.1 HA.out.2
      clear HZ4
      go_upto_region 35 with (first
        | (at_builtin; refine Lib.wpList_append_run _ rfl _ _ _ _ rfl _ _ rfl rfl _ _ runc5 ?_; clear runc5)
        | (go_at_call 18; (with_reducible refine m5.mono ?_); rintro e Z5 ⟨z5, rfl, HZ5⟩; clear m5 HY5))
      have v1 := HZ5.out.eq (HZ5.out.get 5 rfl (Nat.le_refl _) (fun x _ => congrFun (iw_fw s k _) x)) (HZ5.out.get 19 rfl HO.out.1 HO.out.2)
      go_upto_region 37 with (go_at_call 14; first
        | ((with_reducible refine v1.mono ?_); rintro e vW1 ⟨rfl, Hv1⟩; have v2 := Hv1.out.eq (Hv1.out.get 4 rfl (Nat.le_refl _) (fun x _ => congrFun (iw_fw s k _) x)) (Hv1.out.get 10 rfl HNw.out.1 HNw.out.2); clear v1)
        | ((with_reducible refine v2.mono ?_); rintro e vW2 ⟨rfl, Hv2⟩; have v3 := Hv2.out.eq (Hv2.out.get 3 rfl (Nat.le_refl _) (fun x _ => congrFun (fw_iw s k _) x)) (Hv2.out.get 19 rfl HO.out.1 HO.out.2); clear v2)
        | ((with_reducible refine v3.mono ?_); rintro e vW3 ⟨rfl, Hv3⟩; have v4 := Hv3.out.eq (Hv3.out.get 2 rfl (Nat.le_refl _) (fun x _ => congrFun (fw_iw s k _) x)) (Hv3.out.get 10 rfl HNw.out.1 HNw.out.2); clear v3)
        | ((with_reducible refine v4.mono ?_); rintro e vW4 ⟨rfl, Hv4⟩; have v5 := Hv4.out.eq (Hv4.out.get 1 rfl (Nat.le_refl _) (fun x _ => congrFun (ex_back s t k _) x)) (Hv4.out.get 19 rfl HO.out.1 HO.out.2); clear v4)
        | ((with_reducible refine v5.mono ?_); rintro e vW5 ⟨rfl, Hv5⟩; have v6 := Hv5.out.eq (Hv5.out.get 0 rfl (Nat.le_refl _) (fun x _ => congrFun (ex_back s t k _) x)) (Hv5.out.get 10 rfl HNw.out.1 HNw.out.2); clear v5)
        | ((with_reducible refine v6.mono ?_); rintro e vW6 ⟨rfl, Hv6⟩; clear v6))
      have m9 := lists_last Hv6.out HK.out.1 HK.out.2.1 HK.out.2.2 HA.out.1 HA.out.2 (Nat.le_of_lt (Nat.lt_of_le_of_lt HG.out Hv6.out.lv)) (e10 := rfl) HNw.out.1 HNw.out.2 (Bk := fun r => #[x1, x2, x3, x4, x5, x6, x7, x8, x10, x11, x12, x13, z0, z1, z2, z3, z4, z5].getD r 0) (fun r hr => by
          match r, hr with
          | 0, _ => exact ⟨_, rfl⟩
          | 1, _ => exact ⟨_, rfl⟩
          | 2, _ => exact ⟨_, rfl⟩
          | 3, _ => exact ⟨_, rfl⟩
          | 4, _ => exact ⟨_, rfl⟩
          | 5, _ => exact ⟨_, rfl⟩
          | 6, _ => exact ⟨_, rfl⟩
          | 7, _ => exact ⟨_, rfl⟩
          | 8, _ => exact ⟨_, rfl⟩
          | 9, _ => exact ⟨_, rfl⟩
          | 10, _ => exact ⟨_, rfl⟩
          | 11, _ => exact ⟨_, rfl⟩
          | 12, _ => exact ⟨_, rfl⟩
          | 13, _ => exact ⟨_, rfl⟩
          | 14, _ => exact ⟨_, rfl⟩
          | 15, _ => exact ⟨_, rfl⟩
          | 16, _ => exact ⟨_, rfl⟩
          | 17, _ => exact ⟨_, rfl⟩
          | y + 18, h => exact absurd h (by omega)) #[.slice (some ⟨x1, 0, none⟩) i i, .slice (some ⟨x2, 0, none⟩) i i, .slice (some ⟨x3, 0, none⟩) i i, .slice (some ⟨x4, 0, none⟩) i i, .slice (some ⟨x5, 0, none⟩) i i, .slice (some ⟨x6, 0, none⟩) i i, .slice (some ⟨x7, 0, none⟩) i i, .slice (some ⟨x8, 0, none⟩) i i, .slice (some ⟨x10, 0, none⟩) i i, .slice (some ⟨x11, 0, none⟩) i i, .slice (some ⟨x12, 0, none⟩) i i, .slice (some ⟨x13, 0, none⟩) i i, .slice (some ⟨z0, 0, none⟩) i i, .slice (some ⟨z1, 0, none⟩) i i, .slice (some ⟨z2, 0, none⟩) i i, .slice (some ⟨z3, 0, none⟩) i i, .slice (some ⟨z4, 0, none⟩) i i, .slice (some ⟨z5, 0, none⟩) i i] rfl (fun r hr => by
          match r, hr with
          | 0, _ => rfl
          | 1, _ => rfl
          | 2, _ => rfl
          | 3, _ => rfl
          | 4, _ => rfl
          | 5, _ => rfl
          | 6, _ => rfl
          | 7, _ => rfl
          | 8, _ => rfl
          | 9, _ => rfl
          | 10, _ => rfl
          | 11, _ => rfl
          | 12, _ => rfl
          | 13, _ => rfl
          | 14, _ => rfl
          | 15, _ => rfl
          | 16, _ => rfl
          | 17, _ => rfl
          | y + 18, h => exact absurd h (by omega))
      have HE : Hid (True) := trivial
      clear Hv6
      go_wp2_with (first
        | (go_at_call 22; (with_reducible refine m9.mono ?_); rintro e U1 ⟨rfl, m10⟩; clear m9)
        | (go_at_call 13; (with_reducible refine m10.mono ?_); rintro e U2 ⟨rfl, m11⟩; clear m10)
        | (go_at_call 12; (with_reducible refine m11.mono ?_); rintro e U3 ⟨rfl, m12⟩; clear m11)
        | (go_at_call 14; first | ((with_reducible refine m12.mono ?_); rintro e U4 ⟨rfl, m13⟩; clear m12) | ((with_reducible refine m13.mono ?_); rintro e U5 ⟨rfl, HF⟩; clear m13)))
      go_ret
      exact ⟨rfl, HF.out⟩
set_option maxHeartbeats 4000000 in
set_option maxRecDepth 100000 in
theorem afftLists_any (a0 : Option Addr) (n cap : Nat) (a : Int) (fl : Nat) (w : World) (h : Qbm w a0 n cap) (hfl : fl < 65536) (hC : Cab w) (hT : Tzt w) :
    Calls Tryd.prog 8 #[.slice a0 n cap, .int .i64 a, .int .u16 (fl : Int)] w fun e w' => e = .returned (.bool true) ∧ Below w.heap.size w w' := by
  obtain ⟨-, F, hQ⟩ := h
  by_cases h0 : n = 0
  · subst h0
    have c1 : Calls Tryd.prog 9 #[] w fun e w1 => e = .returned (.bool true) ∧ Calls Tryd.prog 10 #[.slice a0 0 cap, .int .i64 64] (w1.alloc (.cells #[] 31)) fun e w2 => e = .returned (.slice a0 0 cap) ∧ w2 = w1.alloc (.cells #[] 31) ∧
        ∃ (W : World) (g C : Nat), (Builtin.append_ #[22, 22] 22 #[.slice (some ⟨w1.heap.size, 0, none⟩) 0 0, .slice a0 0 cap]).run Tryd.prog (w1.alloc (.cells #[] 31)) = .ok (.slice (some ⟨g, 0, none⟩) 0 C) W ∧ Hid (Below w.heap.size w W) := by
      refine (awake14 w hC hT).mono fun e w1 ⟨he, b1⟩ => ⟨he, ?_⟩
      obtain ⟨W, g, C, F', run, -, -, -, -, bW⟩ := app_lit14 w1 (hQ.below b1) (by decide)
      exact (cut14_none a0 cap 64 _).mono fun e w2 ⟨he, hw⟩ => ⟨he, hw, W, g, C, run, bthen13 b1 bW⟩
    clear hQ hC hT
    go_enter Tryd.func8, Tryd.ntmps8
    go_wp2_with (first
      | (go_at_call 9; (with_reducible refine c1.mono ?_); rintro e w1 ⟨rfl, c2⟩)
      | (go_at_call 10; (with_reducible refine c2.mono ?_); rintro e w2 ⟨rfl, hw2, W, g, C, run0, HB⟩; subst hw2)
      | (at_builtin; refine Lib.wpList_append_run _ rfl _ _ _ _ rfl _ _ rfl rfl _ _ run0 ?_; clear run0))
    go_ret
    exact ⟨rfl, HB.out⟩
  · obtain ⟨b, o, rfl, hcap⟩ : ∃ b o, a0 = some ⟨b, o, none⟩ ∧ n ≤ cap := by
      obtain ⟨-, -, a, cap', e, h5, -, h4⟩ := hQ
      cases e
      obtain ⟨b, o, e, -⟩ := h4 (by omega)
      exact ⟨b, o, e, h5⟩
    exact afftLists_main b o n cap a fl F w hQ (by omega) hcap hfl hC hT
end Go.Proofs.YtemjodlhpelbaaaDoor
