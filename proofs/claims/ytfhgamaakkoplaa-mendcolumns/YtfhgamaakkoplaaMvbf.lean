import Derived.Test.YtfhgamaakkoplaaMvbd
import Derived.Deep.Cut
import Derived.BigQuiet
namespace Go.Proofs.Ytfhgamaakkoplaa
open Go.RowKit Gf2
set_option linter.unusedVariables false

-- layer 19: Column, Syndromes
theorem cnb_cover {A B C : Nat → Bool} : ∀ {n : Nat}, (∀ i, i < n → A i = true ∨ B i = true ∨ C i = true) → n ≤ cnb A n + cnb B n + cnb C n
  | 0, _ => Nat.zero_le _
  | n + 1, h => by
    have ih := cnb_cover (n := n) (fun i hi => h i (by omega))
    show n + 1 ≤ (cnb A n + (if A n then 1 else 0)) + (cnb B n + (if B n then 1 else 0)) + (cnb C n + (if C n then 1 else 0))
    rcases h n (by omega) with e | e | e
    · rw [if_pos e]; omega
    · rw [if_pos e]; omega
    · rw [if_pos e]; omega
theorem cnb_le (P : Nat → Bool) : ∀ n, cnb P n ≤ n
  | 0 => Nat.le_refl _
  | n + 1 => by
    have := cnb_le P n
    show cnb P n + (if P n then 1 else 0) ≤ n + 1
    split <;> omega
theorem xor_zero19 {a b : Nat} (h : a ^^^ b = 0) : a = b := by
  have h2 : (a ^^^ b) ^^^ b = 0 ^^^ b := by rw [h]
  rw [Nat.xor_assoc, Nat.xor_self, Nat.xor_zero, Nat.zero_xor] at h2
  exact h2
/-- there is one near polynomial at most. -/
theorem near_uniq19 {n k : Nat} {p y f g : Nat → Nat} (hp : ∀ i, i < n → p i < 256) (up : Up8 n p) (h1 : 1 ≤ k) (hk : k ≤ n) (ef : Gf2.El 8 f) (df : Dg f k) (eg : Gf2.El 8 g) (dg : Dg g k) (hf : Nr19 p y n ((n - k) / 2) f) (hg : Nr19 p y n ((n - k) / 2) g) : f = g := by
  have hz : pa f g = pz := by
    apply Classical.byContradiction
    intro hne
    have ek : k - 1 + 1 = k := by omega
    have hd : Dg (pa f g) k := df.pa dg
    have el : Gf2.El 8 (pa f g) := ef.pa eg
    have h := fld8.few_roots (pts := p) (n := n) (m := k - 1) (f := pa f g) (P := fun i => decide (pe 285 (p i) n f = y i) && decide (pe 285 (p i) n g = y i)) ⟨el, _, hd⟩ hne (by rw [ek]; exact hd) hp (up_inj8 up) (fun i hi e => by
      have e2 : pe 285 (p i) n f = y i ∧ pe 285 (p i) n g = y i := by simpa using e
      rw [ek, fld8.pe_pa, ← fld8.pe_cut (p i) df hk, ← fld8.pe_cut (p i) dg hk, e2.1, e2.2, Nat.xor_self])
    have c := cnb_cover (A := fun i => decide (pe 285 (p i) n f ≠ y i)) (B := fun i => decide (pe 285 (p i) n g ≠ y i)) (C := fun i => decide (pe 285 (p i) n f = y i) && decide (pe 285 (p i) n g = y i)) (n := n) (fun i hi => by
      by_cases a : pe 285 (p i) n f = y i
      · by_cases b : pe 285 (p i) n g = y i
        · right; right; simp [a, b]
        · right; left; simp [b]
      · left; simp [a])
    unfold Nr19 at hf hg
    omega
  funext i
  have := congrFun hz i
  exact xor_zero19 this
/-- those of the numbers that P names. -/
def fsel (P : Nat → Bool) (p : Nat → Nat) : Nat → Nat → Int
  | 0 => fun _ => 0
  | n + 1 => if P n then (fun i => if i < cnb P n then fsel P p n i else (p n : Int)) else fsel P p n
theorem cnb_yes {P : Nat → Bool} {n : Nat} (h : P n = true) : cnb P (n + 1) = cnb P n + 1 := by show cnb P n + _ = _; rw [if_pos h]
theorem cnb_no {P : Nat → Bool} {n : Nat} (h : P n = false) : cnb P (n + 1) = cnb P n := by show cnb P n + _ = _; rw [h]; rfl
theorem fsel_yes {P : Nat → Bool} {p : Nat → Nat} {n : Nat} (h : P n = true) : fsel P p (n + 1) = fun i => if i < cnb P n then fsel P p n i else (p n : Int) := by show (if P n then _ else _) = _; rw [if_pos h]
theorem fsel_no {P : Nat → Bool} {p : Nat → Nat} {n : Nat} (h : P n = false) : fsel P p (n + 1) = fsel P p n := by show (if P n then _ else _) = _; rw [h]; rfl
/-- at which places a polynomial differs from the values. -/
def Df19 (p y : Nat → Nat) (n : Nat) (f : Nat → Nat) (i : Nat) : Bool := decide (pe 285 (p i) n f ≠ y i)
/-- what Column answers. -/
structure Cm19 (w w' : World) (gf lo : Nat) (xw : Value) (k n : Nat) (p y f : Nat → Nat) : Prop where
  el : Gf2.El 8 f
  dg : Dg f k
  nr : Nr19 p y n ((n - k) / 2) f
  le : w.heap.size ≤ gf
  lt : gf < lo
  fix : Rw w' gf n (fun i => pe 285 (p i) n f)
  tell : Gj lo w' xw (cnb (Df19 p y n f) n) (fsel (Df19 p y n f) p n)
  bel : Below w.heap.size w w'
set_option maxHeartbeats 8000000 in
set_option maxRecDepth 100000 in
theorem column19 (v u : Value) (k n : Nat) (p y : Nat → Nat) (w : World) (h : Qi w v n (fun i => (p i : Int))) (hu : Rb w u n y) (h1 : 1 ≤ k) (h2 : k ≤ n) (hn : n ≤ 256) (hp : ∀ i, i < n → p i < 256) (up : Up8 n p) :
    Calls Try.prog 6 #[.int .i64 (k : Int), v, u] w fun e w' => (∃ gf lo xw f, e = .returned (.tuple #[.slice (some ⟨gf, 0, none⟩) n n, xw, .int .i64 0]) ∧ Cm19 w w' gf lo xw k n p y f) ∨ (e = .returned (.tuple #[.slice none 0 0, .slice none 0 0, .int .i64 190]) ∧ (∀ f, Gf2.El 8 f → Dg f k → ¬ Nr19 p y n ((n - k) / 2) f) ∧ Below w.heap.size w w') := by
  have c1 := unfit19 v u k n p w h (by obtain ⟨a, c, e, -⟩ := rb_slice8 hu; exact ⟨a, c, e⟩) h1 h2 hn hp up
  have c2 := newDecoder19 v k n p w h h1 h2 hn hp
  have HH : Hid (Qi w v n (fun i => (p i : Int)) ∧ Rb w u n y ∧ 1 ≤ k ∧ k ≤ n ∧ n ≤ 256 ∧ (∀ i, i < n → p i < 256) ∧ Up8 n p) := ⟨h, hu, h1, h2, hn, hp, up⟩
  obtain ⟨-, -, va, vc, rfl, -, -, h4⟩ := h
  obtain ⟨vb, vo, rfl, hvl, hvc⟩ := h4 (by omega)
  have hu2 := hu
  obtain ⟨-, -, ua, uc, rfl, -, -, h4u⟩ := hu
  obtain ⟨ub, uo, rfl, hul, huc⟩ := h4u (by omega)
  have HV : Hid ((∀ i, i < n → w.cell? ⟨vb, vo + i, none⟩ = some (.int .i64 ((p i : Nat) : Int))) ∧ vb < w.heap.size ∧ (∀ i, i < n → w.cell? ⟨ub, uo + i, none⟩ = some (.int .u8 ((y i : Nat) : Int))) ∧ ub < w.heap.size) := ⟨hvc, hvl, huc, hul⟩
  clear h4 h4u hvl hvc hul huc hu2 h1 h2 hn hp up
  go_enter Try.func6, Try.ntmps6
  go_wp2_with (first
    | (go_at_call 14; (with_reducible refine c1.mono ?_); rintro e w9 ⟨rfl, hw9⟩; have hw9 := hw9.symm; subst hw9; clear c1)
    | (go_at_call 15; (with_reducible refine c2.mono ?_); rintro e w1 ⟨g, r, t, gp, gv, rfl, hD, hle, hb⟩; clear c2; have c3 := near19 (.slice (some ⟨ub, uo, none⟩) n uc) g k n r t gp gv p y w1 hD HH.out.2.2.2.2.2.2 HH.out.2.2.2.2.2.1 (HH.out.2.1.below hb) HH.out.2.2.1 HH.out.2.2.2.1 HH.out.2.2.2.2.1)
    | (go_at_call 16; (with_reducible refine c3.mono ?_); rintro e w2 ⟨x, ok, rfl, hN⟩; clear c3)
    | (go_at_call 17; have hok : ok = true := (by (have hh : (!ok) = false := by assumption); cases ok; cases hh; rfl); obtain ⟨m, f, pf, df, nf⟩ := hN.yes hok; have hmk := pf.len df; have c4 := valuesOf19 x g k n r t gp gv m p f w2 (hD.below hN.bel) HH.out.2.2.2.2.2.1 pf HH.out.2.2.2.2.1 (by have := HH.out; omega); (with_reducible refine c4.mono ?_); rintro e w3 ⟨rfl, r3, b3⟩; clear c4))
  · have hok : ok = false := by (have hh : (!ok) = true := by assumption); cases ok; rfl; cases hh
    have HF : Hid ((∀ f, Gf2.El 8 f → Dg f k → ¬ Nr19 p y n ((n - k) / 2) f) ∧ Below w.heap.size w w2) := ⟨hN.no hok, hb.trans (hN.bel.mono hb.size)⟩
    clear hN hD hle hb
    go_ret3
    exact .inr ⟨rfl, HF.out⟩
  · have bw2 : Below w.heap.size w w2 := hb.trans (hN.bel.mono hb.size)
    have bw3 : Below w.heap.size w w3 := bw2.trans (b3.mono bw2.size)
    have r4 : Rw w3 w2.heap.size n (fun i => pe 285 (p i) n f) := r3.congr (fun i hi => fld8.pe_any (p i) pf.dg (df.mono HH.out.2.2.2.1))
    obtain ⟨gf, hgf⟩ : ∃ gf, Hid (w2.heap.size = gf) := ⟨_, rfl⟩
    rw [hgf.out] at r4
    rw [hgf.out]
    have HB : Hid (Gf2.El 8 f ∧ Dg f k ∧ Nr19 p y n ((n - k) / 2) f ∧ w.heap.size ≤ gf ∧ gf < w3.heap.size ∧ Rw w3 gf n (fun i => pe 285 (p i) n f) ∧ Below w.heap.size w w3) := ⟨pf.el, df, nf, by have := bw2.size; have := hgf.out; omega, r4.lt, r4, bw3⟩
    clear hN hD hle hb hok pf df nf hmk r3 b3 bw2 bw3 r4 hgf
    go_loopw [7, 37] (fun l s wr => ∃ i : Nat, i ≤ n ∧ s = .int .i64 (i : Int) ∧ Gj w3.heap.size wr l (cnb (Df19 p y n f) i) (fsel (Df19 p y n f) p i) ∧ Below w3.heap.size w3 wr) (fun _ s _ => n - (intOf s).toNat)
    case atStart => exact ⟨0, Nat.zero_le _, rfl, Gj.start _ _ _, Below.refl _ _⟩
    case round =>
      obtain ⟨i, hi, rfl, hG, hb⟩ := hrel
      by_cases hlt : i < n
      · have bw : Below w.heap.size w wr := HB.out.2.2.2.2.2.2.trans (hb.mono HB.out.2.2.2.2.2.2.size)
        have q1 : wr.cell? ⟨vb, vo + i, none⟩ = some (.int .i64 ((p i : Nat) : Int)) := (bw.cell (p := ⟨vb, vo + i, none⟩) HV.out.2.1).trans (HV.out.1 i hlt)
        have q2 : wr.cell? ⟨ub, uo + i, none⟩ = some (.int .u8 ((y i : Nat) : Int)) := (bw.cell (p := ⟨ub, uo + i, none⟩) HV.out.2.2.2).trans (HV.out.2.2.1 i hlt)
        have q3 : wr.cell? ⟨gf, i, none⟩ = some (.int .u8 ((pe 285 (p i) n f : Nat) : Int)) := (hb.cell (p := ⟨gf, i, none⟩) HB.out.2.2.2.2.1).trans (HB.out.2.2.2.2.2.1.2.2.cell hlt)
        have ib : ((i : Nat) : Int) < (n : Int) := Int.ofNat_lt.2 hlt
        have W1 := wrap_lt8 (j := i) (b := n) hlt (by have := HH.out; omega)
        by_cases hne : pe 285 (p i) n f = y i
        · have hP : Df19 p y n f i = false := by unfold Df19; simp [hne]
          have HX : Hid (∀ q, _) := fun q => (hG.below (below_drewN (Below.refl _ _) q) : Gj w3.heap.size (wr.drewN q) _ _ _)
          have HX2 : Hid (∀ q, i < n ∧ Below w3.heap.size w3 (wr.drewN q)) := fun q => ⟨hlt, below_drewN hb q⟩
          have HP : Hid (Df19 p y n f i = false) := hP
          rw [hne] at q3
          generalize y i = yy at q2 q3
          generalize p i = pp at q1
          clear hG hb bw hlt hi hne hP
          go_wp2
          go_quiet (fail)
          go_wp2
          have HY : Hid _ := HX2.out nq
          have HZ : Hid _ := HX.out nq
          clear HX HX2
          go_roundw
          case rel => exact ⟨i + 1, HY.out.1, by first | rfl | (rw [W1]; rfl), by rw [cnb_no HP.out, fsel_no HP.out]; exact HZ.out, HY.out.2⟩
          case measure => first | exact meas_lt8 HY.out.1 | (rw [W1]; exact meas_lt8 HY.out.1)
        · have hP : Df19 p y n f i = true := by unfold Df19; simp [hne]
          have HX : Hid (∀ q, _) := fun q => app_gj (W := wr.drewN q) (hG.below (below_drewN (Below.refl _ _) q)) (below_drewN hb q).size ((p i : Nat) : Int) (by have := cnb_le (Df19 p y n f) i; have := HH.out; omega)
          have HX2 : Hid (∀ q, i < n ∧ Below w3.heap.size w3 (wr.drewN q)) := fun q => ⟨hlt, below_drewN hb q⟩
          have HP : Hid (Df19 p y n f i = true) := hP
          have neN : ¬ pe 285 (p i) n f = y i := hne
          have neI : ¬ ((pe 285 (p i) n f : Nat) : Int) = ((y i : Nat) : Int) := by omega
          have HXi : Hid _ := HX
          generalize y i = yy at q2 neN neI
          generalize pe 285 (p i) n f = ee at q3 neN neI
          clear hG hb bw hlt hi hne hP
          go_wp2
          go_quiet (fail)
          obtain ⟨w', v', hrun, hX, hX2⟩ := HX.out nq
          have HY : Hid _ := hX
          have HZ : Hid _ := (HX2.out nq).2.trans hX2
          have HI : Hid _ := (HX2.out nq).1
          rw [show (wr.drewN nq).heap.size = wr.heap.size from rfl] at hrun
          clear HX HX2 HXi hX hX2
          go_wp2_with (at_builtin; refine Lib.wpList_append_run _ rfl _ _ _ _ rfl _ _ rfl rfl _ _ hrun ?_; clear hrun)
          go_roundw
          case rel => exact ⟨i + 1, HI.out, by first | rfl | (rw [W1]; rfl), by rw [cnb_yes HP.out, fsel_yes HP.out]; exact HY.out, HZ.out⟩
          case measure => first | exact meas_lt8 HI.out | (rw [W1]; exact meas_lt8 HI.out)
      · obtain rfl : i = n := by omega
        have ib : ¬ ((i : Nat) : Int) < (i : Int) := by omega
        have HF : Hid (Cm19 w wr gf w3.heap.size _ k i p y f) := ⟨HB.out.1, HB.out.2.1, HB.out.2.2.1, HB.out.2.2.2.1, HB.out.2.2.2.2.1, HB.out.2.2.2.2.2.1.of_block (hb.block _ HB.out.2.2.2.2.1), hG, HB.out.2.2.2.2.2.2.trans (hb.mono HB.out.2.2.2.2.2.2.size)⟩
        clear hG hb hlt hi
        go_wp2
        go_ret3
        exact .inl ⟨gf, w3.heap.size, u7, rfl, f, HF.out⟩
set_option maxHeartbeats 8000000 in
set_option maxRecDepth 100000 in
theorem syndromes19 (v u : Value) (k n : Nat) (p y : Nat → Nat) (w : World) (h : Qi w v n (fun i => (p i : Int))) (hu : Rb w u n y) (h1 : 1 ≤ k) (h2 : k ≤ n) (hn : n ≤ 256) (hp : ∀ i, i < n → p i < 256) (up : Up8 n p) :
    Calls Try.prog 11 #[.int .i64 (k : Int), v, u] w fun e w' => ∃ gs R, e = .returned (.tuple #[.slice (some ⟨gs, 0, none⟩) (n - k) (n - k), .int .i64 0]) ∧ Gf2.El 8 R ∧ Dg R n ∧ (∀ i, i < n → pe 285 (p i) n R = y i) ∧ w.heap.size ≤ gs ∧ Rw w' gs (n - k) (fun i => R (k + i)) ∧ Below w.heap.size w w' := by
  have c1 := unfit19 v u k n p w h (by obtain ⟨a, c, e, -⟩ := rb_slice8 hu; exact ⟨a, c, e⟩) h1 h2 hn hp up
  have c2 := newDecoder19 v k n p w h h1 h2 hn hp
  have HH : Hid (Qi w v n (fun i => (p i : Int)) ∧ Rb w u n y ∧ 1 ≤ k ∧ k ≤ n ∧ n ≤ 256 ∧ (∀ i, i < n → p i < 256) ∧ Up8 n p) := ⟨h, hu, h1, h2, hn, hp, up⟩
  obtain ⟨-, -, va, vc, rfl, -, -, h4⟩ := h
  obtain ⟨ee, hee⟩ : ∃ ee, ee = n - k := ⟨_, rfl⟩
  have Ws := wrapS19 (n := n) (k := k) (e := ee) (by omega) (by omega)
  have hmk : ∀ x : World, _ := make_u8 ee (by omega)
  rw [← hee]
  have HE : Hid (ee = n - k) := hee
  clear h4 hu h1 h2 hn hp up hee
  go_enter Try.func11, Try.ntmps11
  go_upto_region 7 with (first
    | (go_at_call 14; (with_reducible refine c1.mono ?_); rintro e w9 ⟨rfl, hw9⟩; have hw9 := hw9.symm; subst hw9; clear c1)
    | (go_at_call 15; (with_reducible refine c2.mono ?_); rintro e w1 ⟨g, r, t, gp, gv, rfl, hD, hle, hb⟩; clear c2)
    | (go_at_call 18; have bA : Below w1.heap.size w1 (w1.alloc (.cells (madeCells #[.int .u8 0] ee) 5)) := (Below.refl _ _).alloc (Nat.le_refl _) _; have bwA : Below w.heap.size w (w1.alloc (.cells (madeCells #[.int .u8 0] ee) 5)) := hb.trans (bA.mono hb.size); have c3 := through19 u g k n r t gp gv p y _ (hD.below bA) HH.out.2.2.2.2.2.2 (HH.out.2.1.below bwA) HH.out.2.2.2.2.1; (with_reducible refine c3.mono ?_); rintro e w2 ⟨x, m, R, rfl, hm, hP, hR, hb2⟩; clear c3))
  have r0 := made_rw ee (by have := HH.out; have := HE.out; omega) w1
  obtain ⟨gs, hgs⟩ : ∃ gs, Hid (w1.heap.size = gs) := ⟨_, rfl⟩
  rw [hgs.out] at r0 ⊢
  have hbw : Below w.heap.size w w2 := bwA.trans (hb2.mono bwA.size)
  have r2 : Rw w2 gs ee (fun _ => 0) := r0.of_block (hb2.block _ r0.lt)
  have hle : w.heap.size ≤ gs := by have := hb.size; have := hgs.out; omega
  obtain ⟨xa, xc, rfl, hxc⟩ := rb_slice8 hP.rb
  have hl : m ≤ n := hm
  by_cases hmk : k < m
  · have im : (k : Int) < (m : Int) := by omega
    obtain ⟨-, -, xa', xc', e', -, -, h4⟩ := hP.rb
    cases e'
    obtain ⟨xb, xo, rfl, hxl, hxv⟩ := h4 (by omega)
    have hs := run_from8 xb xo m xc k (by omega) hxc (by omega)
    obtain ⟨w3, hrun, r3, ho⟩ := copy8_min w2 (cap := ee) (o := 0) (dl := ee) (a := some ⟨xb, xo + k, none⟩) (m := m - k) (n := m - k) (cap' := xc - k) (S := fun i => R (k + i)) r2 (fun i hi => hP.el _) (fun _ => ⟨xb, xo + k, rfl, fun i hi => by rw [Nat.add_assoc]; exact hxv (k + i) (by omega)⟩) (by omega) (by have := HE.out; omega) (Nat.le_refl _) (by have := HE.out; exact Nat.min_eq_left (by omega))
    have HF : Hid (Gf2.El 8 R ∧ Dg R n ∧ (∀ i, i < n → pe 285 (p i) n R = y i) ∧ w.heap.size ≤ gs ∧ Rw w3 gs ee (fun i => R (k + i)) ∧ Below w.heap.size w w3) := ⟨hP.el, hP.dg.mono hm, hR, hle, r3.congr (fun i hi => by
      by_cases e : i < m - k
      · have := pl_in (F := fun _ => 0) (o := 0) (S := fun i => R (k + i)) e
        rw [Nat.zero_add] at this
        exact this
      · rw [pl_out (by omega)]
        exact (hP.dg (k + i) (by omega)).symm), hbw.trans (ho.below hle)⟩
    clear hP hR hb2 hbw r2 r0 hle hxv h4 hm hl hD hb bA bwA hmk hxl r3 ho
    go_wp2
    go_ret2
    first | exact ⟨gs, rfl, R, HF.out⟩ | exact ⟨gs, R, rfl, HF.out⟩
  · have im : ¬ (k : Int) < (m : Int) := by omega
    have HF : Hid (Gf2.El 8 R ∧ Dg R n ∧ (∀ i, i < n → pe 285 (p i) n R = y i) ∧ w.heap.size ≤ gs ∧ Rw w2 gs ee (fun i => R (k + i)) ∧ Below w.heap.size w w2) := ⟨hP.el, hP.dg.mono hm, hR, hle, r2.congr (fun i hi => (hP.dg (k + i) (by omega)).symm), hbw⟩
    clear hP hR hb2 hbw r2 r0 hle hm hl hD hb bA bwA hmk
    go_wp2
    go_ret2
    first | exact ⟨gs, rfl, R, HF.out⟩ | exact ⟨gs, R, rfl, HF.out⟩
end Go.Proofs.Ytfhgamaakkoplaa
namespace Go.Proofs.Ytfhgamaakkoplaa
open Go.RowKit Gf2
set_option linter.unusedVariables false

-- layer 19: sameBytes, sameInts, same (laid by wip/genmeg.py)
set_option maxHeartbeats 2000000 in
set_option maxRecDepth 100000 in
theorem sb19 (u v : Value) (n n' : Nat) (F G : Nat → Nat) (w : World) (h : Rb w u n F) (k : Rb w v n' G) :
    Calls Try.prog 7 #[u, v] w fun e w' => ∃ b : Bool, e = .returned (.bool b) ∧ (b = true ↔ n = n' ∧ ∀ i, i < n → F i = G i) ∧ ∃ m, w' = w.drewN m := by
  obtain ⟨hn, hF, a, cap, rfl, -, -, h4⟩ := h
  obtain ⟨hn', -, c, cap', rfl, -, -, k4⟩ := k
  by_cases hnn : n = n'
  case neg =>
    have hI : ¬ ((n : Int) = (n' : Int)) := by omega
    clear h4 k4
    go_enter Try.func7, Try.ntmps7
    go_wp2
    go_ret
    exact ⟨false, rfl, ⟨fun h => (by cases h), fun h => absurd h.1 hnn⟩, 0, rfl⟩
  case pos =>
    subst hnn
    go_enter Try.func7, Try.ntmps7
    go_wp2
    go_loopw [5] (fun i wr => ∃ k m : Nat, k ≤ n ∧ i = .int .i64 k ∧ wr = w.drewN m ∧ ∀ i, i < k → F i = G i) (fun i _ => n - (intOf i).toNat)
    case atStart => exact ⟨0, 0, Nat.zero_le _, rfl, rfl, fun i hi => absurd hi (Nat.not_lt_zero _)⟩
    case round =>
      obtain ⟨k, m, hk, rfl, hw, hE⟩ := hrel
      by_cases hlt : k < n
      · obtain ⟨b, o, rfl, -, hc⟩ := h4 (by omega)
        obtain ⟨b', o', rfl, -, hc'⟩ := k4 (by omega)
        have q1 : wr.cell? ⟨b, o + k, none⟩ = some (.int .u8 (F k : Nat)) := by rw [hw]; exact hc k hlt
        have q2 : wr.cell? ⟨b', o' + k, none⟩ = some (.int .u8 (G k : Nat)) := by rw [hw]; exact hc' k hlt
        have HW : Hid (wr = w.drewN m ∧ ∀ i, i < k → F i = G i) := ⟨hw, hE⟩
        have ib : ((k : Nat) : Int) < (n : Int) := by omega
        have W1 := wrap_succ8 (j := k) (by omega)
        have HN : Hid (n ≤ big) := hn
        by_cases hfg : F k = G k
        · rw [← hfg] at q2
          have Hfg : Hid (F k = G k) := hfg
          clear hc hc' hw h4 k4 hF hn hE hfg hn'
          go_wp2
          go_quiet (fail)
          go_wp2
          go_roundw
          case rel =>
            refine ⟨k + 1, m + nq, hlt, by first | rfl | (rw [W1]; rfl), by rw [HW.out.1, World.drewN_drewN], fun i hi => ?_⟩
            by_cases e : i = k
            · rw [e]; exact Hfg.out
            · exact HW.out.2 i (by omega)
          case measure => first | exact meas_lt8 hlt | (rw [W1]; exact meas_lt8 hlt)
        · have hI : ¬ (((F k : Nat) : Int) = ((G k : Nat) : Int)) := by omega
          have Hfg : Hid (¬ F k = G k) := hfg
          clear hc hc' hw h4 k4 hF hn hE hfg hn'
          go_wp2
          go_quiet (fail)
          go_wp2
          go_ret
          exact ⟨false, rfl, ⟨fun h => (by cases h), fun h => absurd (h.2 k hlt) Hfg.out⟩, m + nq, by rw [HW.out.1, World.drewN_drewN]⟩
      · have hk5 : k = n := by omega
        subst hk5
        subst hw
        go_wp2
        go_ret
        exact ⟨true, rfl, ⟨fun _ => ⟨by trivial, hE⟩, fun _ => rfl⟩, _, rfl⟩
set_option maxHeartbeats 2000000 in
set_option maxRecDepth 100000 in
theorem si19 (u v : Value) (n n' : Nat) (F G : Nat → Int) (w : World) (h : Qi w u n F) (k : Qi w v n' G) :
    Calls Try.prog 8 #[u, v] w fun e w' => ∃ b : Bool, e = .returned (.bool b) ∧ (b = true ↔ n = n' ∧ ∀ i, i < n → F i = G i) ∧ ∃ m, w' = w.drewN m := by
  obtain ⟨hn, -, a, cap, rfl, -, -, h4⟩ := h
  obtain ⟨hn', -, c, cap', rfl, -, -, k4⟩ := k
  by_cases hnn : n = n'
  case neg =>
    have hI : ¬ ((n : Int) = (n' : Int)) := by omega
    clear h4 k4
    go_enter Try.func8, Try.ntmps8
    go_wp2
    go_ret
    exact ⟨false, rfl, ⟨fun h => (by cases h), fun h => absurd h.1 hnn⟩, 0, rfl⟩
  case pos =>
    subst hnn
    go_enter Try.func8, Try.ntmps8
    go_wp2
    go_loopw [5] (fun i wr => ∃ k m : Nat, k ≤ n ∧ i = .int .i64 k ∧ wr = w.drewN m ∧ ∀ i, i < k → F i = G i) (fun i _ => n - (intOf i).toNat)
    case atStart => exact ⟨0, 0, Nat.zero_le _, rfl, rfl, fun i hi => absurd hi (Nat.not_lt_zero _)⟩
    case round =>
      obtain ⟨k, m, hk, rfl, hw, hE⟩ := hrel
      by_cases hlt : k < n
      · obtain ⟨b, o, rfl, -, hc⟩ := h4 (by omega)
        obtain ⟨b', o', rfl, -, hc'⟩ := k4 (by omega)
        have q1 : wr.cell? ⟨b, o + k, none⟩ = some (.int .i64 (F k)) := by rw [hw]; exact hc k hlt
        have q2 : wr.cell? ⟨b', o' + k, none⟩ = some (.int .i64 (G k)) := by rw [hw]; exact hc' k hlt
        have HW : Hid (wr = w.drewN m ∧ ∀ i, i < k → F i = G i) := ⟨hw, hE⟩
        have ib : ((k : Nat) : Int) < (n : Int) := by omega
        have W1 := wrap_succ8 (j := k) (by omega)
        have HN : Hid (n ≤ big) := hn
        by_cases hfg : F k = G k
        · rw [← hfg] at q2
          have Hfg : Hid (F k = G k) := hfg
          clear hc hc' hw h4 k4 hn hE hfg hn'
          go_wp2
          go_quiet (fail)
          go_wp2
          go_roundw
          case rel =>
            refine ⟨k + 1, m + nq, hlt, by first | rfl | (rw [W1]; rfl), by rw [HW.out.1, World.drewN_drewN], fun i hi => ?_⟩
            by_cases e : i = k
            · rw [e]; exact Hfg.out
            · exact HW.out.2 i (by omega)
          case measure => first | exact meas_lt8 hlt | (rw [W1]; exact meas_lt8 hlt)
        · have hI : ¬ (F k = G k) := hfg
          have Hfg : Hid (¬ F k = G k) := hfg
          clear hc hc' hw h4 k4 hn hE hfg hn'
          go_wp2
          go_quiet (fail)
          go_wp2
          go_ret
          exact ⟨false, rfl, ⟨fun h => (by cases h), fun h => absurd (h.2 k hlt) Hfg.out⟩, m + nq, by rw [HW.out.1, World.drewN_drewN]⟩
      · have hk5 : k = n := by omega
        subst hk5
        subst hw
        go_wp2
        go_ret
        exact ⟨true, rfl, ⟨fun _ => ⟨by trivial, hE⟩, fun _ => rfl⟩, _, rfl⟩
theorem sb19_true (u v : Value) (n : Nat) (F G : Nat → Nat) (w : World) (h : Rb w u n F) (k : Rb w v n G) (e : ∀ i, i < n → F i = G i) :
    Calls Try.prog 7 #[u, v] w fun e w' => e = .returned (.bool true) ∧ ∃ m, w' = w.drewN m :=
  (sb19 u v n n F G w h k).mono fun _ w' ⟨b, h1, h2, h3⟩ => ⟨by rw [h1, h2.2 ⟨rfl, e⟩], h3⟩
theorem si19_true (u v : Value) (n : Nat) (F G : Nat → Int) (w : World) (h : Qi w u n F) (k : Qi w v n G) (e : ∀ i, i < n → F i = G i) :
    Calls Try.prog 8 #[u, v] w fun e w' => e = .returned (.bool true) ∧ ∃ m, w' = w.drewN m :=
  (si19 u v n n F G w h k).mono fun _ w' ⟨b, h1, h2, h3⟩ => ⟨by rw [h1, h2.2 ⟨rfl, e⟩], h3⟩
end Go.Proofs.Ytfhgamaakkoplaa
namespace Go.Proofs.Ytfhgamaakkoplaa
open Go.RowKit Gf2
set_option linter.unusedVariables false

-- layer 19: awake, names
theorem lit_ints19 (W : World) (l : List Nat) (hn : l.length ≤ 1000) : Qi (W.alloc (.cells (l.map (fun n : Nat => Value.int .i64 (n : Int))).toArray 3)) (.slice (some ⟨W.heap.size, 0, none⟩) l.length l.length) l.length (fun i => ((l.getD i 0 : Nat) : Int)) :=
  ⟨by unfold big; omega, trivial, _, _, rfl, Nat.le_refl _, by unfold big; omega, fun _ => ⟨_, _, rfl, by simp, fun i hi => by
    rw [cell_of_row _ W.heap.size (0 + i) _ _ _ (heap_alloc_new _ _), Nat.zero_add]
    simp [hi]⟩⟩
/-- the polynomial x. -/
def idp19 (i : Nat) : Nat := if i = 1 then 1 else 0
def awp (i : Nat) : Nat := [0, 1, 2, 3].getD i 0
def awy (i : Nat) : Nat := [0, 1, 7, 3].getD i 0
theorem aw_near : Nr19 awp awy 4 ((4 - 2) / 2) idp19 := by unfold Nr19; decide +kernel
theorem aw_val : ∀ i, i < 4 → pe 285 (awp i) 4 idp19 = [0, 1, 2, 3].getD i 0 := by decide +kernel
theorem aw_cnt : cnb (Df19 awp awy 4 idp19) 4 = 1 := by decide +kernel
theorem aw_sel : fsel (Df19 awp awy 4 idp19) awp 4 0 = 2 := by decide +kernel
theorem idp_el : Gf2.El 8 idp19 := fun i => by unfold idp19; split <;> decide
theorem idp_dg : Dg idp19 2 := fun i hi => by unfold idp19; rw [if_neg (by omega)]
theorem awp_lt : ∀ i, i < 4 → awp i < 256 := by decide
theorem awp_up : Up8 4 awp := fun i j h hj => by
  have : ∀ j, j < 4 → ∀ i, i < j → awp i < awp j := by decide
  exact this j hj i h
theorem aw_a (w : World) :
    Calls Try.prog 6 #[.int .i64 2, .slice (some ⟨w.heap.size, 0, none⟩) 4 4, .slice (some ⟨w.heap.size + 1, 0, none⟩) 4 4] ((w.alloc (.cells #[.int .i64 0, .int .i64 1, .int .i64 2, .int .i64 3] 3)).alloc (.cells #[.int .u8 0, .int .u8 1, .int .u8 7, .int .u8 3] 5)) fun e w2 => ∃ gf xw, e = .returned (.tuple #[.slice (some ⟨gf, 0, none⟩) 4 4, xw, .int .i64 0]) ∧
    Calls Try.prog 7 #[.slice (some ⟨gf, 0, none⟩) 4 4, .slice (some ⟨w2.heap.size, 0, none⟩) 4 4] (w2.alloc (.cells #[.int .u8 0, .int .u8 1, .int .u8 2, .int .u8 3] 5)) fun e w3 => e = .returned (.bool true) ∧
    Calls Try.prog 8 #[xw, .slice (some ⟨w3.heap.size, 0, none⟩) 1 1] (w3.alloc (.cells #[.int .i64 2] 3)) fun e w4 => e = .returned (.bool true) ∧ Below w.heap.size w w4 := by
  have l1 := lit_ints19 w [0, 1, 2, 3] (by decide)
  obtain ⟨W1, hW1⟩ : ∃ W1, W1 = w.alloc (.cells #[.int .i64 0, .int .i64 1, .int .i64 2, .int .i64 3] 3) := ⟨_, rfl⟩
  have l1' : Qi W1 (.slice (some ⟨w.heap.size, 0, none⟩) 4 4) 4 (fun i => ((awp i : Nat) : Int)) := by rw [hW1]; exact l1
  have s1 : W1.heap.size = w.heap.size + 1 := by rw [hW1]; simp
  have b1 : Below w.heap.size w W1 := by rw [hW1]; exact (Below.refl _ _).alloc (Nat.le_refl _) _
  have l2 := lit_rw [0, 1, 7, 3] W1 (by decide) (by decide)
  obtain ⟨W2, hW2⟩ : ∃ W2, W2 = W1.alloc (.cells #[.int .u8 0, .int .u8 1, .int .u8 7, .int .u8 3] 5) := ⟨_, rfl⟩
  have l2' : Rb W2 (.slice (some ⟨w.heap.size + 1, 0, none⟩) 4 4) 4 awy := by rw [hW2, ← s1]; exact l2.rb0
  have b2 : Below W1.heap.size W1 W2 := by rw [hW2]; exact (Below.refl _ _).alloc (Nat.le_refl _) _
  have bw2 : Below w.heap.size w W2 := b1.trans (b2.mono b1.size)
  rw [← hW1, ← hW2]
  refine (column19 _ _ 2 4 awp awy W2 (l1'.below b2) l2' (by decide) (by decide) (by decide) awp_lt awp_up).mono ?_
  rintro e w2 (⟨gf, lo, xw, f, rfl, hC⟩ | ⟨-, hno, -⟩)
  case inr => exact absurd aw_near (hno _ idp_el idp_dg)
  obtain rfl : f = idp19 := near_uniq19 awp_lt awp_up (by decide) (by decide) hC.el hC.dg idp_el idp_dg hC.nr aw_near
  refine ⟨gf, xw, rfl, ?_⟩
  have bw3 : Below w.heap.size w w2 := bw2.trans (hC.bel.mono bw2.size)
  obtain ⟨X, hX⟩ : ∃ X, X = w2.alloc (.cells #[.int .u8 0, .int .u8 1, .int .u8 2, .int .u8 3] 5) := ⟨_, rfl⟩
  have l3 := lit_rw [0, 1, 2, 3] w2 (by decide) (by decide)
  have l3' : Rb X (.slice (some ⟨w2.heap.size, 0, none⟩) 4 4) 4 (fun i => [0, 1, 2, 3].getD i 0) := by rw [hX]; exact l3.rb0
  have b3 : Below w2.heap.size w2 X := by rw [hX]; exact (Below.refl _ _).alloc (Nat.le_refl _) _
  rw [← hX]
  refine (sb19_true _ _ 4 _ _ X (hC.fix.rb0.below b3) l3' (fun i hi => aw_val i hi)).mono ?_
  rintro e w3 ⟨rfl, q, rfl⟩
  refine ⟨rfl, ?_⟩
  have l4 := lit_ints19 (X.drewN q) [2] (by decide)
  have b4 : Below w2.heap.size w2 (X.drewN q) := below_drewN b3 q
  have b5 : Below (X.drewN q).heap.size (X.drewN q) ((X.drewN q).alloc (.cells #[.int .i64 2] 3)) := (Below.refl _ _).alloc (Nat.le_refl _) _
  have hq := ((hC.tell.qi.below b4).below b5)
  rw [aw_cnt] at hq
  refine (si19_true _ _ 1 _ _ _ hq l4 (fun i hi => ?_)).mono ?_
  · obtain rfl : i = 0 := by omega
    rw [aw_sel]; rfl
  · rintro e w4 ⟨rfl, q2, rfl⟩
    exact ⟨rfl, below_drewN (bw3.trans ((b4.trans (b5.mono b4.size)).mono bw3.size)) q2⟩
set_option maxHeartbeats 4000000 in
set_option maxRecDepth 100000 in
theorem awake19 (w : World) : Calls Try.prog 4 #[] w fun e w' => e = .returned (.bool true) ∧ Below w.heap.size w w' := by
  have c1 := aw_a w
  have s1 : (w.alloc (.cells #[.int .i64 0, .int .i64 1, .int .i64 2, .int .i64 3] 3)).heap.size = w.heap.size + 1 := by simp
  go_enter Try.func4, Try.ntmps4
  go_wp2_with (first
    | (go_at_call 6; (with_reducible refine c1.mono ?_); rintro e w2 ⟨gf, xw, rfl, c2⟩; clear c1)
    | (go_at_call 7; (with_reducible refine c2.mono ?_); rintro e w3 ⟨rfl, c3⟩; clear c2)
    | (go_at_call 8; (with_reducible refine c3.mono ?_); rintro e w4 ⟨rfl, h4⟩; clear c3))
  go_ret
  exact ⟨rfl, h4⟩
end Go.Proofs.Ytfhgamaakkoplaa
