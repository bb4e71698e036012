import Derived.Test.YtfhgamaakkoplaaMvbo
import Derived.Test.YtfhgamaakkoplaaMvbp
import Derived.Test.YtfhgamaakkoplaaMvbf
import Derived.Test.YtfhgamaakkoplaaMval
import Derived.Deep.AppendLies
import Derived.Test.YtfhgamaakkoplaaMvam
namespace Go.Proofs.Ytfhgamaakkoplaa
open Go.RowKit Gf2
set_option linter.unusedVariables false

-- MendColumns: a call of mend and the document's, held against each other
theorem it_uniq19 {n : Nat} {p y R R' : Nat → Nat} (h1 : 1 ≤ n) (hp : ∀ i, i < n → p i < 256) (up : Up8 n p) (e1 : Gf2.El 8 R) (d1 : Dg R n) (i1 : ∀ i, i < n → pe 285 (p i) n R = y i) (e2 : Gf2.El 8 R') (d2 : Dg R' n) (i2 : ∀ i, i < n → pe 285 (p i) n R' = y i) : R = R' := by
  have z : ∀ {Q : Nat → Nat}, (∀ i, i < n → pe 285 (p i) n Q = y i) → Nr19 p y n ((n - n) / 2) Q := fun {Q} hQ => by
    unfold Nr19
    rw [cnb_zero (fun i hi => decide_eq_false (fun h => h (hQ i hi)))]
    exact Nat.zero_le _
  exact near_uniq19 hp up h1 (Nat.le_refl _) e1 d1 e2 d2 (z i1) (z i2)
theorem nil_rb19 (w : World) : Rb w (.slice none 0 0) 0 (fun _ => 0) := ⟨by decide, fun i hi => absurd hi (Nat.not_lt_zero _), none, 0, rfl, Nat.le_refl _, by decide, fun h => absurd h (Nat.lt_irrefl _)⟩
theorem nil_qi19 (w : World) : Qi w (.slice none 0 0) 0 (fun _ => 0) := ⟨by decide, trivial, none, 0, rfl, Nat.le_refl _, by decide, fun h => absurd h (Nat.lt_irrefl _)⟩
theorem drew_b19 {w w' : World} (h : ∃ m, w' = w.drewN m) : Below w.heap.size w w' := by
  obtain ⟨m, rfl⟩ := h
  exact below_drewN (Below.refl _ _) m
/-- both lists hold the same. -/
def Eb19 (w : World) (a b : Value) : Prop := ∃ n F, Rb w a n F ∧ Rb w b n F
def Ei19 (w : World) (a b : Value) : Prop := ∃ n F, Qi w a n F ∧ Qi w b n F
theorem Eb19.call {w : World} {a b : Value} (h : Eb19 w a b) : Calls Try.prog 7 #[a, b] w fun e w' => e = .returned (.bool true) ∧ Below w.heap.size w w' := by
  obtain ⟨n, F, h1, h2⟩ := h
  exact (sb19_true a b n F F w h1 h2 (fun _ _ => rfl)).mono fun e w' ⟨x, y⟩ => ⟨x, drew_b19 y⟩
theorem Ei19.call {w : World} {a b : Value} (h : Ei19 w a b) : Calls Try.prog 8 #[a, b] w fun e w' => e = .returned (.bool true) ∧ Below w.heap.size w w' := by
  obtain ⟨n, F, h1, h2⟩ := h
  exact (si19_true a b n F F w h1 h2 (fun _ _ => rfl)).mono fun e w' ⟨x, y⟩ => ⟨x, drew_b19 y⟩
theorem Eb19.below {w w' : World} {a b : Value} (h : Eb19 w a b) (hb : Below w.heap.size w w') : Eb19 w' a b := by
  obtain ⟨n, F, h1, h2⟩ := h
  exact ⟨n, F, h1.below hb, h2.below hb⟩
theorem Ei19.below {w w' : World} {a b : Value} (h : Ei19 w a b) (hb : Below w.heap.size w w') : Ei19 w' a b := by
  obtain ⟨n, F, h1, h2⟩ := h
  exact ⟨n, F, h1.below hb, h2.below hb⟩
theorem nil_eb19 (w : World) : Eb19 w (.slice none 0 0) (.slice none 0 0) := ⟨0, _, nil_rb19 w, nil_rb19 w⟩
theorem nil_ei19 (w : World) : Ei19 w (.slice none 0 0) (.slice none 0 0) := ⟨0, _, nil_qi19 w, nil_qi19 w⟩
/-- Syndromes: both, in all cases. -/
theorem syn_pair19 (v u vx ux : Value) (k : Int) (n n2 : Nat) (F : Nat → Int) (G : Nat → Nat) (w : World) (h : Qi w v n F) (hx : Qi w vx n F) (hu : Rb w u n2 G) (hux : Rb w ux n2 G) :
    Calls Try.prog 11 #[.int .i64 k, v, u] w fun e w4 => ∃ a z, e = .returned (.tuple #[a, .int .i64 z]) ∧ Below w.heap.size w w4 ∧
      Calls Try.prog 12 #[.int .i64 k, vx, ux] w4 fun e w5 => ∃ b, e = .returned (.tuple #[b, .int .i64 z]) ∧ Below w.heap.size w w5 ∧ Eb19 w5 a b := by
  obtain ⟨c, hc⟩ := cd_ex19 k n n2 F
  have su : ∃ a cc, u = .slice a n2 cc := by obtain ⟨-, -, a, cc, e, -⟩ := hu; exact ⟨a, cc, e⟩
  have sux : ∃ a cc, ux = .slice a n2 cc := by obtain ⟨-, -, a, cc, e, -⟩ := hux; exact ⟨a, cc, e⟩
  by_cases h0 : c = 0
  · subst h0
    obtain ⟨kk, p, rfl, rfl, h1, hk, hn, hF, hp, up⟩ := hc.fit
    refine (syndromes19 v u kk n2 p G w (h.congr hF) hu h1 hk hn hp up).mono fun e w4 ⟨gs, R, he, eR, dR, iR, le, hR, hb⟩ => ⟨_, 0, he, hb, ?_⟩
    refine (syndromes_r19 vx ux kk n2 p G w4 ((hx.congr hF).below hb) (hux.below hb) h1 hk hn hp up).mono fun e w5 hS => ?_
    obtain ⟨gs', R', he', eR', dR', iR', le', hR', hb'⟩ := hS
    have eRR : R = R' := it_uniq19 (by omega) hp up eR dR iR eR' dR' iR'
    subst eRR
    refine ⟨_, he', hb.trans (hb'.mono hb.size), n2 - kk, fun i => R (kk + i), (rw_below hR hb').rb0, hR'.rb0⟩
  · refine (syndromes_no19 v u k n n2 c F w h su hc h0).mono fun e w4 ⟨he, hw⟩ => ⟨_, c, he, by rw [hw]; exact Below.refl _ _, ?_⟩
    rw [hw]
    exact (syndromes_rno19 vx ux k n n2 c F w hx sux hc h0).mono fun e w5 ⟨he, hb⟩ => ⟨_, he, hb, nil_eb19 _⟩
/-- Column: both, in all cases. -/
theorem col_pair19 (v u vx ux : Value) (k : Int) (n n2 : Nat) (F : Nat → Int) (G : Nat → Nat) (w : World) (h : Qi w v n F) (hx : Qi w vx n F) (hu : Rb w u n2 G) (hux : Rb w ux n2 G) :
    Calls Try.prog 6 #[.int .i64 k, v, u] w fun e w4 => ∃ a t z, e = .returned (.tuple #[a, t, .int .i64 z]) ∧ Below w.heap.size w w4 ∧
      Calls Try.prog 13 #[.int .i64 k, vx, ux] w4 fun e w5 => ∃ b s, e = .returned (.tuple #[b, s, .int .i64 z]) ∧ Below w.heap.size w w5 ∧ Eb19 w5 a b ∧ Ei19 w5 t s := by
  obtain ⟨c, hc⟩ := cd_ex19 k n n2 F
  have su : ∃ a cc, u = .slice a n2 cc := by obtain ⟨-, -, a, cc, e, -⟩ := hu; exact ⟨a, cc, e⟩
  have sux : ∃ a cc, ux = .slice a n2 cc := by obtain ⟨-, -, a, cc, e, -⟩ := hux; exact ⟨a, cc, e⟩
  by_cases h0 : c = 0
  · subst h0
    obtain ⟨kk, p, rfl, rfl, h1, hk, hn, hF, hp, up⟩ := hc.fit
    refine (column19 v u kk n2 p G w (h.congr hF) hu h1 hk hn hp up).mono fun e w4 hA => ?_
    have hb : Below w.heap.size w w4 := by
      rcases hA with ⟨gf, lo, xw, f, he, hm⟩ | ⟨he, -, hb⟩
      · exact hm.bel
      · exact hb
    have cR := column_r19 vx ux kk n2 p G w4 ((hx.congr hF).below hb) (hux.below hb) h1 hk hn hp up
    rcases hA with ⟨gf, lo, xw, f, he, hm⟩ | ⟨he, hno, -⟩
    · refine ⟨_, _, 0, he, hb, cR.mono fun e w5 hS => ?_⟩
      rcases hS with ⟨gf', lo', xw', f', he', hm'⟩ | ⟨he', hno', hb'⟩
      · have eff : f = f' := near_uniq19 hp up h1 hk hm.el hm.dg hm'.el hm'.dg hm.nr hm'.nr
        subst eff
        exact ⟨_, _, he', hb.trans (hm'.bel.mono hb.size), ⟨n2, _, (rw_below hm.fix hm'.bel).rb0, hm'.fix.rb0⟩, ⟨_, _, (hm.tell.below hm'.bel).qi, hm'.tell.qi⟩⟩
      · exact absurd hm.nr (hno' f hm.el hm.dg)
    · refine ⟨_, _, 190, he, hb, cR.mono fun e w5 hS => ?_⟩
      rcases hS with ⟨gf', lo', xw', f', he', hm'⟩ | ⟨he', hno', hb'⟩
      · exact absurd hm'.nr (hno f' hm'.el hm'.dg)
      · exact ⟨_, _, he', hb.trans (hb'.mono hb.size), nil_eb19 _, nil_ei19 _⟩
  · refine (column_no19 v u k n n2 c F w h su hc h0).mono fun e w4 ⟨he, hw⟩ => ⟨_, _, c, he, by rw [hw]; exact Below.refl _ _, ?_⟩
    rw [hw]
    exact (column_rno19 vx ux k n n2 c F w hx sux hc h0).mono fun e w5 ⟨he, hb⟩ => ⟨_, _, he, hb, nil_eb19 _, nil_ei19 _⟩
end Go.Proofs.Ytfhgamaakkoplaa
namespace Go.Proofs.Ytfhgamaakkoplaa
open Go.RowKit Gf2
set_option linter.unusedVariables false

-- MendColumns: one call of a script
/-- append([]int{}, rows...). -/
theorem app_ints19 (w : World) {g k : Nat} {x : Option Addr} {c : Nat} {R : Nat → Int} (h : Qi w (.slice x k c) k R) (hk : 8 * k ≤ 140737488351232) :
    ∃ w' g' C', (Builtin.append_ #[24, 24] 24 #[.slice (some ⟨g, 0, none⟩) 0 0, .slice x k c]).run Try.prog w = .ok (.slice (some ⟨g', 0, none⟩) k C') w' ∧ Qi w' (.slice (some ⟨g', 0, none⟩) k C') k R ∧ Below w.heap.size w w' := by
  obtain ⟨ti, hi, hz, hs1, hb1⟩ := info_inta
  by_cases h0 : k = 0
  · subst h0
    have hs' : Src Try.prog ti.size 24 (.slice x 0 c) 0 [] w := by
      cases x with
      | none => exact Src.ofNil w Try.underlying24 c
      | some b => exact Src.ofSlice w Try.underlying24 b 0 c [] (by simp) (fun j u h => by simp at h) (fun u h => by cases h)
    exact ⟨w, g, 0, run_append_nothing w 24 24 24 3 ti Try.underlying24 hi _ 0 0 (Nat.le_refl _) _ hs', ⟨by decide, trivial, _, _, rfl, Nat.le_refl _, by decide, fun h => absurd h (Nat.lt_irrefl _)⟩, Below.refl _ _⟩
  · obtain ⟨-, -, a, cap, e, h5, h6, h4⟩ := h
    cases e
    obtain ⟨b, o, rfl, hbl, hc⟩ := h4 (by omega)
    have ea : ∀ j, (⟨b, o, none⟩ : Addr).add j = ⟨b, o + j, none⟩ := fun j => by unfold Addr.add; split <;> simp_all
    have hs : Src Try.prog ti.size 24 (.slice (some ⟨b, o, none⟩) k c) k (bi k R) w := Src.ofSlice w Try.underlying24 ⟨b, o, none⟩ k c (bi k R) (by rw [bi_len, hs1, Nat.mul_one]) (fun j u h => by
      have hj : j < k := by
        rcases Nat.lt_or_ge j k with h9 | h9
        · exact h9
        · rw [List.getElem?_eq_none (by rw [bi_len]; exact h9)] at h; cases h
      rw [bi_get k _ j hj] at h
      cases h
      rw [ea]
      exact hc j hj) bi_one
    have hold : (Builtin.firstCells ti.size 0 (.slice (some ⟨g, 0, none⟩) 0 0)).run Try.prog w.drew = .ok (([] : List Value)).toArray w.drew :=
      run_firstCells_some w.drew ti.size 0 ⟨g, 0, none⟩ 0 0 [] (by simp) (fun j u hu => by simp at hu)
    have hrun := run_append_grow_src w 24 24 24 3 ti (Value.int .i64 0) Try.underlying24 hi hz (some ⟨g, 0, none⟩) 0 0 [] hold _ k (bi k R) hs (by omega) (by omega) (growslice_fits (by omega) (by rw [hb1]; omega))
    have hge := grownCap_ge w (0 + k) 0 3
    have hcm := grownCap_le_maxLen w (0 + k) 0 3 (by unfold maxLen; omega)
    obtain ⟨C', hC'⟩ : ∃ C', C' = grownCap w (0 + k) 0 3 := ⟨_, rfl⟩
    rw [← hC'] at hrun hge hcm
    rw [Nat.zero_add] at hrun hge
    refine ⟨_, w.heap.size, C', hrun, ⟨by unfold big; omega, trivial, _, _, rfl, hge, by unfold big; unfold maxLen at hcm; exact hcm, fun _ => ⟨w.heap.size, 0, rfl, by simp, fun i hi => ?_⟩⟩, (((Below.refl w.heap.size w).drew).alloc (by simp) _)⟩
    refine (cell_of_row _ w.drew.heap.size (0 + i) _ _ _ (heap_alloc_new _ _)).trans ?_
    rw [Nat.zero_add, List.nil_append, Array.getElem?_append_left (by simp [bi_len]; omega), List.getElem?_toArray, bi_get _ _ _ hi]
/-- the box of a call. -/
def Zo19 (W : World) (b0 : Nat) (K k m : Int) (vP vV : Value) : Prop := W.cell? ⟨b0, 0, none⟩ = some (.int .i64 K) ∧ W.cell? ⟨b0, 1, none⟩ = some (.int .i64 k) ∧ W.cell? ⟨b0, 2, none⟩ = some (.int .i64 m) ∧ W.cell? ⟨b0, 3, none⟩ = some vP ∧ W.cell? ⟨b0, 4, none⟩ = some vV
theorem zo19 (w : World) (K k m : Int) (vP vV : Value) {W : World} (hW : Below (w.alloc (.cells #[.int .i64 K, .int .i64 k, .int .i64 m, vP, vV] 27)).heap.size (w.alloc (.cells #[.int .i64 K, .int .i64 k, .int .i64 m, vP, vV] 27)) W) : Zo19 W w.heap.size K k m vP vV := by
  have hblk := heap_alloc_new w (.cells #[.int .i64 K, .int .i64 k, .int .i64 m, vP, vV] 27)
  have h := (hW.block _ (Array.getElem?_eq_some_iff.1 hblk).1).trans hblk
  exact ⟨by rw [cell_of_row _ _ 0 _ _ _ h]; rfl, by rw [cell_of_row _ _ 1 _ _ _ h]; rfl, by rw [cell_of_row _ _ 2 _ _ _ h]; rfl, by rw [cell_of_row _ _ 3 _ _ _ h]; rfl, by rw [cell_of_row _ _ 4 _ _ _ h]; rfl⟩
/-- both copies are made. -/
theorem copies19 (w1 : World) {aP aV : Option Addr} {n n2 cP cV : Nat} {F : Nat → Int} {G : Nat → Nat} (hP : Qi w1 (.slice aP n cP) n F) (hV : Rb w1 (.slice aV n2 cV) n2 G) (bP : 8 * n ≤ 140737488351232) (bV : n2 ≤ 140737488355328) :
    ∃ wa g1 C1, (Builtin.append_ #[24, 24] 24 #[.slice (some ⟨w1.heap.size, 0, none⟩) 0 0, .slice aP n cP]).run Try.prog (w1.alloc (.cells #[] 3)) = .ok (.slice (some ⟨g1, 0, none⟩) n C1) wa ∧ Below w1.heap.size w1 wa ∧
      ∃ wb g2 C2, (Builtin.append_ #[25, 25] 25 #[.slice (some ⟨wa.heap.size, 0, none⟩) 0 0, .slice aV n2 cV]).run Try.prog (wa.alloc (.cells #[] 5)) = .ok (.slice (some ⟨g2, 0, none⟩) n2 C2) wb ∧ Below w1.heap.size w1 wb ∧
        Qi wb (.slice (some ⟨g1, 0, none⟩) n C1) n F ∧ Rb wb (.slice (some ⟨g2, 0, none⟩) n2 C2) n2 G := by
  have b0 : Below w1.heap.size w1 (w1.alloc (.cells #[] 3)) := (Below.refl _ _).alloc (Nat.le_refl _) _
  obtain ⟨wa, g1, C1, r1, q1, b1⟩ := app_ints19 (w1.alloc (.cells #[] 3)) (g := w1.heap.size) (hP.below b0) bP
  have ba : Below w1.heap.size w1 wa := b0.trans (b1.mono b0.size)
  obtain ⟨wb, g2, C2, F2, r2, h2, -, -, h3, h4, b2⟩ := copy_app wa (hV.below ba) bV
  exact ⟨wa, g1, C1, r1, ba, wb, g2, C2, r2, ba.trans (b2.mono ba.size), q1.below b2, ((h3.re (E := fun _ => False) h2 h2 h3.1 (fun e => e)).rb).congr h4⟩
set_option maxHeartbeats 16000000 in
set_option maxRecDepth 100000 in
theorem plays19 (K k m : Int) (aP aV : Option Addr) (n n2 cP cV : Nat) (F : Nat → Int) (G : Nat → Nat) (w : World) (hP : Qi w (.slice aP n cP) n F) (hV : Rb w (.slice aV n2 cV) n2 G) (bP : 8 * n ≤ 140737488351232) (bV : n2 ≤ 140737488355328) :
    Calls Try.prog 5 #[.agg #[.int .i64 K, .int .i64 k, .int .i64 m, .slice aP n cP, .slice aV n2 cV]] w fun e w' => e = .returned (.bool true) ∧ Below w.heap.size w w' := by
  obtain ⟨w1, hw1⟩ : ∃ w1, Hid (w.alloc (.cells #[.int .i64 K, .int .i64 k, .int .i64 m, .slice aP n cP, .slice aV n2 cV] 27) = w1) := ⟨_, rfl⟩
  have b1 : Below w.heap.size w w1 := by rw [← hw1.out]; exact (Below.refl _ _).alloc (Nat.le_refl _) _
  obtain ⟨b0, hb0⟩ : ∃ b0, Hid (w.heap.size = b0) := ⟨_, rfl⟩
  have HZ : Hid (∀ W, Below w1.heap.size w1 W → Zo19 W b0 K k m (.slice aP n cP) (.slice aV n2 cV)) := fun W hW => by
    rw [← hb0.out]
    exact zo19 w K k m _ _ (by rw [hw1.out]; exact hW)
  obtain ⟨wa, g1, C1, r1, ba, wb, g2, C2, r2, bb, hP1, hV1⟩ := copies19 w1 (hP.below b1) (hV.below b1) bP bV
  have hPb := (hP.below b1).below bb
  have hVb := (hV.below b1).below bb
  have HT : Hid (∀ W, Below wb.heap.size wb W → Ei19 W (.slice (some ⟨g1, 0, none⟩) n C1) (.slice aP n cP) ∧ Eb19 W (.slice (some ⟨g2, 0, none⟩) n2 C2) (.slice aV n2 cV)) := fun W hW => ⟨⟨n, F, hP1.below hW, hPb.below hW⟩, ⟨n2, G, hV1.below hW, hVb.below hW⟩⟩
  have HB : Hid (Below w.heap.size w wb ∧ Below w1.heap.size w1 wb) := ⟨b1.trans (bb.mono b1.size), bb⟩
  have z3a : (w1.alloc (.cells #[] 3)).cell? ⟨b0, 3, none⟩ = some (.slice aP n cP) := (HZ.out _ ((Below.refl _ _).alloc (Nat.le_refl _) _)).2.2.2.1
  have z4a : (wa.alloc (.cells #[] 5)).cell? ⟨b0, 4, none⟩ = some (.slice aV n2 cV) := (HZ.out _ (ba.trans ((Below.refl _ _).alloc ba.size _))).2.2.2.2
  have c2 := syn_pair19 (.slice (some ⟨g1, 0, none⟩) n C1) (.slice (some ⟨g2, 0, none⟩) n2 C2) (.slice aP n cP) (.slice aV n2 cV) k n n2 F G wb hP1 hPb hV1 hVb
  have c3 := col_pair19 (.slice (some ⟨g1, 0, none⟩) n C1) (.slice (some ⟨g2, 0, none⟩) n2 C2) (.slice aP n cP) (.slice aV n2 cV) k n n2 F G wb hP1 hPb hV1 hVb
  clear hP hV bP bV hP1 hV1 hPb hVb b1 ba bb
  go_enter Try.func5, Try.ntmps5
  go_upto_region 1 with (fail)
  rw [hw1.out]
  rw [hb0.out]
  go_upto_region 4 with (at_builtin; first | (refine Lib.wpList_append_run _ rfl _ _ _ _ rfl _ _ rfl rfl _ _ r1 ?_) | (refine Lib.wpList_append_run _ rfl _ _ _ _ rfl _ _ rfl rfl _ _ r2 ?_))
  clear r1 r2 z3a z4a
  obtain ⟨z0, z1, z2, z3, z4⟩ := HZ.out wb HB.out.2
  by_cases K1 : K = 1
  · subst K1
    obtain ⟨rv, c, hrd⟩ := rd_ex19 k m
    have d1 := radius_any19 k m rv c wb hrd
    have d2 := radius_r19 k m rv c wb hrd
    have D6 : Below wb.heap.size wb wb := Below.refl _ _
    have ct1 := (HT.out wb D6).1.call
    clear c2 c3 hrd
    go_wp2_with (first
      | (go_at_call 9; (with_reducible refine d1.mono ?_); rintro e x1 ⟨rfl, hx⟩; have hx := hx.symm; subst hx; clear d1)
      | (go_at_call 10; (with_reducible refine d2.mono ?_); rintro e x1 ⟨rfl, hx⟩; have hx := hx.symm; subst hx; clear d2)
      | (go_at_call 8; (with_reducible refine ct1.mono ?_); rintro e x7 ⟨rfl, e7⟩; have D7 := D6.trans (e7.mono D6.size); obtain ⟨-, -, -, -, y4⟩ := HZ.out x7 (HB.out.2.trans (D7.mono HB.out.2.size)); have ct2 := (HT.out x7 D7).2.call; clear ct1)
      | (go_at_call 7; (with_reducible refine ct2.mono ?_); rintro e x8 ⟨rfl, e8⟩; have HF : Hid (Below w.heap.size w x8) := HB.out.1.trans ((D7.trans (e8.mono D7.size)).mono HB.out.1.size); clear ct2))
    go_ret
    exact ⟨rfl, HF.out⟩
  · by_cases K2 : K = 2
    · subst K2
      clear c3
      go_wp2_with (first
        | (go_at_call 11; (with_reducible refine c2.mono ?_); rintro e x4 ⟨a, z, rfl, e4, c4⟩; obtain ⟨-, y1, -, y3, y4⟩ := HZ.out x4 (HB.out.2.trans (e4.mono HB.out.2.size)); clear c2 z0 z1 z2 z3 z4)
        | (go_at_call 12; (with_reducible refine c4.mono ?_); rintro e x5 ⟨b, rfl, e5, hE⟩; have c5 := hE.call; clear c4 y1 y3 y4)
        | (go_at_call 7; (with_reducible refine c5.mono ?_); rintro e x6 ⟨rfl, e6⟩; have D6 := e5.trans (e6.mono e5.size); obtain ⟨-, -, -, y3, -⟩ := HZ.out x6 (HB.out.2.trans (D6.mono HB.out.2.size)); have ct1 := (HT.out x6 D6).1.call; clear c5)
        | (go_at_call 8; (with_reducible refine ct1.mono ?_); rintro e x7 ⟨rfl, e7⟩; have D7 := D6.trans (e7.mono D6.size); obtain ⟨-, -, -, -, y4⟩ := HZ.out x7 (HB.out.2.trans (D7.mono HB.out.2.size)); have ct2 := (HT.out x7 D7).2.call; clear ct1)
        | (go_at_call 7; (with_reducible refine ct2.mono ?_); rintro e x8 ⟨rfl, e8⟩; have HF : Hid (Below w.heap.size w x8) := HB.out.1.trans ((D7.trans (e8.mono D7.size)).mono HB.out.1.size); clear ct2))
      go_ret
      exact ⟨rfl, HF.out⟩
    · by_cases K3 : K = 3
      · subst K3
        clear c2
        go_wp2_with (first
          | (go_at_call 6; (with_reducible refine c3.mono ?_); rintro e x4 ⟨a, t, z, rfl, e4, c4⟩; obtain ⟨-, y1, -, y3, y4⟩ := HZ.out x4 (HB.out.2.trans (e4.mono HB.out.2.size)); clear c3 z0 z1 z2 z3 z4)
          | (go_at_call 13; (with_reducible refine c4.mono ?_); rintro e x5 ⟨b, s, rfl, e5, hE, hI⟩; have c5 := hE.call; clear c4 y1 y3 y4)
          | (go_at_call 7; (with_reducible refine c5.mono ?_); rintro e x51 ⟨rfl, e51⟩; have c6 := (hI.below e51).call; clear c5)
          | (go_at_call 8; (with_reducible refine c6.mono ?_); rintro e x6 ⟨rfl, e6⟩; have D6 := (e5.trans (e51.mono e5.size)).trans (e6.mono (e5.trans (e51.mono e5.size)).size); obtain ⟨-, -, -, y3, -⟩ := HZ.out x6 (HB.out.2.trans (D6.mono HB.out.2.size)); have ct1 := (HT.out x6 D6).1.call; clear c6)
          | (go_at_call 8; (with_reducible refine ct1.mono ?_); rintro e x7 ⟨rfl, e7⟩; have D7 := D6.trans (e7.mono D6.size); obtain ⟨-, -, -, -, y4⟩ := HZ.out x7 (HB.out.2.trans (D7.mono HB.out.2.size)); have ct2 := (HT.out x7 D7).2.call; clear ct1)
          | (go_at_call 7; (with_reducible refine ct2.mono ?_); rintro e x8 ⟨rfl, e8⟩; have HF : Hid (Below w.heap.size w x8) := HB.out.1.trans ((D7.trans (e8.mono D7.size)).mono HB.out.1.size); clear ct2))
        go_ret
        exact ⟨rfl, HF.out⟩
      · have D6 : Below wb.heap.size wb wb := Below.refl _ _
        have ct1 := (HT.out wb D6).1.call
        clear c2 c3
        go_wp2_with (first
          | (go_at_call 8; (with_reducible refine ct1.mono ?_); rintro e x7 ⟨rfl, e7⟩; have D7 := D6.trans (e7.mono D6.size); obtain ⟨-, -, -, -, y4⟩ := HZ.out x7 (HB.out.2.trans (D7.mono HB.out.2.size)); have ct2 := (HT.out x7 D7).2.call; clear ct1)
          | (go_at_call 7; (with_reducible refine ct2.mono ?_); rintro e x8 ⟨rfl, e8⟩; have HF : Hid (Below w.heap.size w x8) := HB.out.1.trans ((D7.trans (e8.mono D7.size)).mono HB.out.1.size); clear ct2))
        go_ret
        exact ⟨rfl, HF.out⟩
end Go.Proofs.Ytfhgamaakkoplaa
namespace Go.Proofs.Ytfhgamaakkoplaa
open Go.RowKit Gf2
set_option linter.unusedVariables false

set_option maxHeartbeats 8000000 in
set_option maxRecDepth 100000 in
theorem columns19 (a : Option Addr) (len cap : Nat) (w0 : World) (h0 : IsOpsC19 w0 a len cap) :
    Calls Try.prog 3 #[.slice a len cap] w0 fun e w' => e = .returned (.bool true) ∧ Below w0.heap.size w0 w' := by
  have c0 := awake19 w0
  go_enter Try.func3, Try.ntmps3
  go_wp2_with (go_at_call 4; ((with_reducible refine (c0).mono ?_); (rintro e w ⟨rfl, hbw⟩; have h := h0.below hbw; have H0 : Hid (Below w0.heap.size w0 w) := hbw; clear hbw h0 c0)))
  obtain ⟨hml, h⟩ := h
  unfold maxLen at hml
  go_loopw [9] (fun x wr => ∃ t : Nat, t ≤ len ∧ x = .int .i64 ((t : Nat) : Int) ∧ Below w.heap.size w wr) (fun x _ => len - (intOf x).toNat)
  case atStart => exact ⟨0, Nat.zero_le _, rfl, Below.refl _ _⟩
  case round =>
    obtain ⟨t, ht2, rfl, hb⟩ := hrel
    by_cases hlt : t < len
    · rcases h with h | ⟨b, off, rfl, hlc, hcm, hbs, hops⟩
      · exact absurd hlt (by rw [h]; exact Nat.not_lt_zero _)
      · obtain ⟨K, k, m, vP, vV, hz, hI⟩ := hops t hlt
        have zc : ∀ y u, (cvC19 K k m vP vV)[y]? = some u → wr.cell? ⟨b, off + t * 5 + y, none⟩ = some u := fun y u hu => (hb.cell (p := ⟨b, off + t * 5 + y, none⟩) hbs).trans (hz y u hu)
        have y0 := zc 0 (.int .i64 K) rfl
        have y1 := zc 1 (.int .i64 k) rfl
        have y2 := zc 2 (.int .i64 m) rfl
        have y3 := zc 3 vP rfl
        have y4 := zc 4 vV rfl
        simp only [Nat.add_zero] at y0
        have htl : ((t : Nat) : Int) < (len : Int) := Int.ofNat_lt.2 hlt
        have HW1 : Hid (wrap64 (((t : Nat) : Int) + 1) = ((t : Nat) : Int) + 1) := wrap_succ8 (j := t) (Nat.lt_of_lt_of_le hlt (Nat.le_trans hml (by decide)))
        have hIX := hI.below hb
        obtain ⟨aP, nP, cP, F, rfl, hQ, hP8⟩ := hIX.p
        obtain ⟨nV, G, hR, hV8⟩ := hIX.v
        obtain ⟨aV, cV, rfl⟩ : ∃ aV cV, vV = .slice aV nV cV := by obtain ⟨-, -, x, c, e, -⟩ := hR; exact ⟨x, c, e⟩
        have bA : Below wr.heap.size wr (wr.alloc (.cells #[.int .i64 K, .int .i64 k, .int .i64 m, .slice aP nP cP, .slice aV nV cV] 27)) := (Below.refl _ _).alloc (Nat.le_refl _) _
        have c1 := plays19 K k m aP aV nP nV cP cV F G _ (hQ.below bA) (hR.below bA) hP8 (by omega)
        have HX : Hid (t < len ∧ Below w.heap.size w (wr.alloc (.cells #[.int .i64 K, .int .i64 k, .int .i64 m, .slice aP nP cP, .slice aV nV cV] 27))) := ⟨hlt, hb.trans (bA.mono hb.size)⟩
        obtain ⟨x0, x1, x2, x3, x4⟩ := zo19 wr K k m (.slice aP nP cP) (.slice aV nV cV) (Below.refl _ _)
        clear hops hz zc hI hIX hQ hR hP8 hV8 bA hb hlt ht2
        have W1 := HW1.out
        go_wp2_with (go_at_call 5; (with_reducible refine c1.mono ?_); rintro e w9 ⟨rfl, b9⟩; have HY : Hid (Below w.heap.size w w9) := HX.out.2.trans (b9.mono HX.out.2.size); clear c1 b9)
        go_roundw
        case rel => exact ⟨t + 1, HX.out.1, by first | rfl | (rw [W1]; rfl), HY.out⟩
        case measure => first | exact meas_lt8 HX.out.1 | (rw [W1]; exact meas_lt8 HX.out.1)
    · have hin : t = len := by omega
      have htl : ¬ ((t : Nat) : Int) < (len : Int) := by omega
      have HF : Hid (Below w0.heap.size w0 wr) := H0.out.trans (hb.mono H0.out.size)
      clear h hb hlt ht2 hin
      go_wp2
      go_ret
      exact ⟨rfl, HF.out⟩
end Go.Proofs.Ytfhgamaakkoplaa
