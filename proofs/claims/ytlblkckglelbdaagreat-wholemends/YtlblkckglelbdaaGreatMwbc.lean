import Derived.Test.YtlblkckglelbdaaGreatMwbb
import Derived.Deep.Cut
namespace Go.Proofs.YtlblkckglelbdaaGreat
open Go.RowKit Gf2
set_option linter.unusedVariables false

-- layer 19: column, the walk
/-- what a column leaves. -/
def Cl19 (w0 w' : World) (e : Ending) (S g r t gp gv gsc gbk gt f k n np nm L lo pb cp y : Nat) (vM : Value) (p q : Nat → Nat) (prb : Nat → Bool) (Sh : Nat → Nat → Nat) (D : Nat → Nat → Nat) : Prop :=
  (e = .returned (.bool true) ∧ ∃ F, Gf2.El 8 F ∧ Dg F k ∧ Nr19 p (yv19 f k y p Sh) np ((np - k) / 2) F ∧ Sz19 w0 w' S g r t gp gv gsc gbk gt f k n np nm L lo pb cp vM p q ∧ Ys19 w' gt n L lo (y + 1) (fun x => prb x = true) (fun z => if z = y then dw19 f k np y prb Sh F else D z) (fun _ => false) (fun _ => False)) ∨
  (e = .returned (.bool false) ∧ (∀ F, Gf2.El 8 F → Dg F k → ¬ Nr19 p (yv19 f k y p Sh) np ((np - k) / 2) F) ∧ Below w0.heap.size w0 w')
set_option maxHeartbeats 8000000 in
set_option maxRecDepth 100000 in
theorem scol19 (w0 : World) (S g r t gp gv gsc gbk gt f k n np nm L lo pb cp sb so cs y : Nat) (vM : Value) (p q : Nat → Nat) (prb : Nat → Bool) (Sh D : Nat → Nat → Nat) (w : World)
    (hZ : Sz19 w0 w S g r t gp gv gsc gbk gt f k n np nm L lo pb cp vM p q) (hI : Ci19 w0 sb so n np nm k f L p q prb Sh) (hY : Ys19 w gt n L lo y (fun x => prb x = true) D (fun _ => false) (fun _ => False)) (hy : y < L) :
    Calls Tryz.prog 31 #[.pointer (some ⟨S, 0, none⟩), .slice (some ⟨sb, so, none⟩) n cs, .int .i64 ((y : Nat) : Int)] w fun e w' => Cl19 w0 w' e S g r t gp gv gsc gbk gt f k n np nm L lo pb cp y vM p q prb Sh D := by
  obtain ⟨am, cm, rfl, hms⟩ := hZ.ms
  have hmk := make_u8 np (by have := hI.npn; have := hI.n2; omega)
  have r0 := made_rw np (by have := hI.npn; have := hI.n2; omega) w
  have b0 : Below w.heap.size w (w.alloc (.cells (madeCells #[.int .u8 0] np) 5)) := (Below.refl _ _).alloc (Nat.le_refl _) _
  obtain ⟨w3, hw3⟩ : ∃ w3, Hid (w.alloc (.cells (madeCells #[.int .u8 0] np) 5) = w3) := ⟨_, rfl⟩
  have z1 := hZ.sv.c1
  have z1b : (w.alloc (.cells (madeCells #[.int .u8 0] np) 5)).cell? ⟨S, 1, none⟩ = some (.slice (some ⟨pb, 0, none⟩) np cp) := (hZ.below b0).sv.c1
  rw [hw3.out] at r0 b0
  obtain ⟨gy, hgy⟩ : ∃ gy, Hid (w.heap.size = gy) := ⟨_, rfl⟩
  rw [hgy.out] at r0
  have HH : Hid (Sz19 w0 w S g r t gp gv gsc gbk gt f k n np nm L lo pb cp (.slice am nm cm) p q ∧ Ci19 w0 sb so n np nm k f L p q prb Sh ∧ Ys19 w gt n L lo y (fun x => prb x = true) D (fun _ => false) (fun _ => False) ∧ y < L ∧ Below w.heap.size w w3) := ⟨hZ, hI, hY, hy, b0⟩
  have yb : ((y : Nat) : Int) < (L : Int) := by omega
  clear hZ hI hY hy b0
  go_enter Tryz.func31, Tryz.ntmps31
  go_wp2
  rw [hw3.out, hgy.out]
  clear hw3 hmk z1 z1b
  go_loopw [27] (fun s wr => ∃ i : Nat, i ≤ np ∧ s = .int .i64 (i : Int) ∧ Below w.heap.size w wr ∧ Rw wr gy np (fun j => if j < i then yv19 f k y p Sh j else 0)) (fun s _ => np - (intOf s).toNat)
  case atStart => exact ⟨0, Nat.zero_le _, rfl, HH.out.2.2.2.2, r0.congr (fun j _ => (if_neg (Nat.not_lt_zero _)).symm)⟩
  case round =>
    obtain ⟨i, hi, rfl, hb, hrw⟩ := hrel
    clear r0
    by_cases hlt : i < np
    · have hZr := HH.out.1.below hb
      have pn := HH.out.2.1.hp i hlt
      have qn := HH.out.2.1.n2
      obtain ⟨b1, o1, c1, hsh⟩ := HH.out.2.1.sh i hlt
      obtain ⟨q2, q3⟩ := hsh wr hZr.bel
      have q3 := q3 y HH.out.2.2.2.1
      have q1 : wr.cell? ⟨pb, i, none⟩ = some (.int .i64 ((p i : Nat) : Int)) := by
        obtain ⟨-, -, a', c', e', -, -, h4⟩ := hZr.sv.pres
        cases e'
        obtain ⟨b', o', e', -, hc⟩ := h4 (by omega)
        cases e'
        have := hc i hlt
        rw [Nat.zero_add] at this
        exact this
      have z3 := hZr.sv.c3
      have qs := hZr.sv.sc.2.2.cell pn
      have c5 := times19 S g r t (sc19 f k (p i)) (Sh (p i) y) wr.drew (hZr.below (below_drewN (Below.refl _ _) 1)).sv.c0 (hZr.below (below_drewN (Below.refl _ _) 1)).sv.de.c0 (hZr.sv.de.rg.drewN 1) (sc19_lt _ _ _) (HH.out.2.1.lb i hlt y)
      have HC : Hid (∀ W2, Below wr.drew.heap.size wr.drew W2 → i < np ∧ (∃ z : Nat, W2.cell? ⟨gy, i, none⟩ = some (.int .u8 ((z : Nat) : Int))) ∧ (∃ F, Rw W2 gy np F) ∧ (W2.cell? ⟨S, 3, none⟩ = some (.slice (some ⟨gsc, 0, none⟩) n n) ∧ W2.cell? ⟨gsc, p i, none⟩ = some (.int .u8 ((sc19 f k (p i) : Nat) : Int)) ∧ W2.cell? ⟨sb, so + p i, none⟩ = some (.slice (some ⟨b1, o1, none⟩) L c1) ∧ W2.cell? ⟨b1, o1 + y, none⟩ = some (.int .u8 ((Sh (p i) y : Nat) : Int))) ∧ Below w.heap.size w (W2.setCell ⟨gy, i, none⟩ (.int .u8 ((yv19 f k y p Sh i : Nat) : Int))) ∧ Rw (W2.setCell ⟨gy, i, none⟩ (.int .u8 ((yv19 f k y p Sh i : Nat) : Int))) gy np (fun j => if j < i + 1 then yv19 f k y p Sh j else 0)) := fun W2 hW => by
        have b12 : Below wr.heap.size wr W2 := (below_drewN (Below.refl _ _) 1).trans hW
        have r2 := hrw.of_block (b12.block _ hrw.lt)
        have bb := hb.trans (b12.mono hb.size)
        have hZ2 := hZr.below b12
        exact ⟨hlt, ⟨_, r2.2.2.cell hlt⟩, ⟨_, r2⟩, ⟨hZ2.sv.c3, hZ2.sv.sc.2.2.cell pn, (hsh W2 hZ2.bel).1, (hsh W2 hZ2.bel).2 y HH.out.2.2.2.1⟩, bb.setCell (by show w.heap.size ≤ gy; have := hgy.out; omega) _, (r2.set i _ (fm8_lt _ _)).congr (fun j _ => upd_19 (V := fun j => yv19 f k y p Sh j))⟩
      have ib : ((i : Nat) : Int) < (np : Int) := Int.ofNat_lt.2 hlt
      have ibn : ((p i : Nat) : Int) < (n : Int) := by omega
      have W1 := wrap_lt8 (j := i) (b := np) hlt (by have := HH.out.2.1.npn; omega)
      have e9 : fm 285 (sc19 f k (p i)) (Sh (p i) y) = yv19 f k y p Sh i := rfl
      rw [e9] at c5
      clear hrw hb hlt hi hZr hsh pn qn e9
      go_wp2
      refine region_planJ (fun w' => w'.cell? ⟨S, 3, none⟩ = some (.slice (some ⟨gsc, 0, none⟩) n n) ∧ w'.cell? ⟨gsc, p i, none⟩ = some (.int .u8 ((sc19 f k (p i) : Nat) : Int)) ∧ w'.cell? ⟨sb, so + p i, none⟩ = some (.slice (some ⟨b1, o1, none⟩) L c1) ∧ w'.cell? ⟨b1, o1 + y, none⟩ = some (.int .u8 ((Sh (p i) y : Nat) : Int))) 19 [17, 1] 123 ⟨z3, qs, q2, q3⟩ (by kernel_rfl) (by kernel_rfl) (fun _ a d v _ h => by cases d <;> exact h) ?_
      refine planT_step ?A1 rfl (fun w' hS => ?s1) rfl (fun Kc hK => ?n1)
      case s1 =>
        obtain ⟨u0, u1, u2, u3⟩ := hS
        simp only [List.take_succ_cons, List.take_zero]
        repeat still_step
        exact rfl
      case n1 =>
      go_simp
      go_wp2_with (go_at_call 55; (with_reducible refine c5.mono ?_); rintro e W2 ⟨rfl, hb2⟩; clear c5)
      obtain ⟨k1, ⟨zz, k2⟩, ⟨FF, k3⟩, k4, k5, k6⟩ := HC.out W2 hb2
      refine hK _ _ k4 ?_
      have k7 := k3.2.2.frozen i
      have HE : Hid _ := And.intro k1 (And.intro k5 k6)
      clear hK HC k1 k3 k4 k5 k6 hb2 z3 qs q2 q3
      refine planT_last ?A2 rfl (fun w' hS => ?s2) rfl ?n2
      case s2 =>
        simp only [List.take_succ_cons, List.take_zero]
        repeat still_step
        exact rfl
      case n2 =>
      simp only [List.drop_succ_cons, List.drop_zero]
      go_wp2
      go_roundw
      case rel => exact ⟨i + 1, HE.out.1, by first | rfl | (rw [W1]; rfl), HE.out.2.1, HE.out.2.2⟩
      case measure => first | exact meas_lt8 HE.out.1 | (rw [W1]; exact meas_lt8 HE.out.1)
    · have ib : ¬ ((i : Nat) : Int) < (np : Int) := by omega
      have hZr := HH.out.1.below hb
      have hrY : Rw wr gy np (yv19 f k y p Sh) := hrw.congr (fun j hj => if_pos (by omega))
      have hp2 : ∀ j, j < np → p j < 256 := fun j hj => by have := HH.out.2.1.hp j hj; have := HH.out.2.1.n2; omega
      have z0 := hZr.sv.c0
      have c1 := near19 (.slice (some ⟨gy, 0, none⟩) np np) g k np r t gp gv p (yv19 f k y p Sh) wr hZr.sv.de HH.out.2.1.up hp2 hrY.rb0 HH.out.2.1.k1 HH.out.2.1.kn (by have := HH.out.2.1.npn; have := HH.out.2.1.n2; omega)
      have HA : Hid (Sz19 w0 wr S g r t gp gv gsc gbk gt f k n np nm L lo pb cp (.slice am nm cm) p q ∧ Rw wr gy np (yv19 f k y p Sh) ∧ Below w.heap.size w wr) := ⟨hZr, hrY, hb⟩
      clear hrw hb hlt hi hZr hrY hp2
      go_upto_region 8 with (go_at_call 36; (with_reducible refine c1.mono ?_); rintro e W2 ⟨x, ok, rfl, hN⟩; clear c1)
      have HA2 : Hid (Sz19 w0 W2 S g r t gp gv gsc gbk gt f k n np nm L lo pb cp (.slice am nm cm) p q ∧ Rw W2 gy np (yv19 f k y p Sh) ∧ Below w.heap.size w W2) := ⟨HA.out.1.below hN.bel, HA.out.2.1.of_block (hN.bel.block _ HA.out.2.1.lt), HA.out.2.2.trans (hN.bel.mono HA.out.2.2.size)⟩
      cases ok with
      | false =>
        have HF : Hid _ := hN.no rfl
        clear hN z0
        go_wp2
        go_ret
        exact .inr ⟨rfl, HF.out, HA2.out.1.bel⟩
      | true =>
        obtain ⟨m, F, pF, dF, nF⟩ := hN.yes rfl
        have z0b := HA2.out.1.sv.c0
        have hmk2 : m ≤ k := pF.len dF
        have c2 := valuesOf19 x g k np r t gp gv m p F W2 HA2.out.1.sv.de (fun j hj => by have := HH.out.2.1.hp j hj; have := HH.out.2.1.n2; omega) pF (by have := HH.out.2.1.npn; have := HH.out.2.1.n2; omega) (by have := HH.out.2.1.kn; have := HH.out.2.1.npn; have := HH.out.2.1.n2; omega)
        have HFR : Hid (Fh8 w x) := hN.fr.mono HA.out.2.2.size
        have HF : Hid (Gf2.El 8 F ∧ Dg F k ∧ Nr19 p (yv19 f k y p Sh) np ((np - k) / 2) F ∧ Pl8 W2 x m F ∧ m ≤ k) := ⟨pF.el, dF, nF, pF, hmk2⟩
        clear hN z0 pF dF nF hmk2
        go_wp2_with (go_at_call 37; (with_reducible refine c2.mono ?_); rintro e W3 ⟨rfl, r3, b3⟩; clear c2)
        obtain ⟨D', hD'⟩ : ∃ D' : Nat → Nat → Nat, D' = fun z => if z = y then dw19 f k np y prb Sh F else D z := ⟨_, rfl⟩
        have eD : ∀ x, D' y x = dw19 f k np y prb Sh F x := fun x => by rw [hD']; simp
        have bw3 : Below w.heap.size w W3 := HA2.out.2.2.trans (b3.mono HA2.out.2.2.size)
        have hZ3 := HA2.out.1.below b3
        have hY3 : Ys19 W3 gt n L lo y (fun x => prb x = true) D' (fun _ => false) (fun x => w.heap.size ≤ x ∧ x < W3.heap.size) := (HH.out.2.2.1.congr (fun z hz => by rw [hD']; exact (if_neg (by omega)).symm)).avoid bw3
        have hA : ∀ x, w.heap.size ≤ x → x ≠ gt := fun x hx e => by have := HH.out.1.sz; have := HH.out.1.g0; omega
        obtain ⟨gw, hgw⟩ : ∃ gw, Hid (W2.heap.size = gw) := ⟨_, rfl⟩
        rw [hgw.out] at r3
        rw [hgw.out]
        have hgwa : w.heap.size ≤ gw ∧ gw < W3.heap.size := ⟨by have := HA2.out.2.2.size; have := hgw.out; omega, r3.lt⟩
        have hgya : w.heap.size ≤ gy ∧ gy < W3.heap.size := ⟨by have := hgy.out; omega, Nat.lt_of_lt_of_le HA2.out.2.1.lt b3.size⟩
        have hrY3 := HA2.out.2.1.of_block (b3.block _ HA2.out.2.1.lt)
        have hpF3 := HF.out.2.2.2.1.below b3
        have HP : Hid (∀ W, W3.heap.size ≤ W.heap.size → (∀ x, w.heap.size ≤ x ∧ x < W3.heap.size → W.heap[x]? = W3.heap[x]?) → Rw W gy np (yv19 f k y p Sh) ∧ Rw W gw np (fun i => pe 285 (p i) m F) ∧ Pl8 W x m F) := fun W hs hW => by
          refine ⟨hrY3.of_block (hW _ hgya), r3.of_block (hW _ hgwa), ?_⟩
          obtain ⟨a, n', c, rfl, hfr⟩ := HFR.out
          refine ⟨?_, hpF3.dg, hpF3.el, hpF3.top⟩
          obtain ⟨h1, h2, a', c', e', h5, h6, h4⟩ := hpF3.rb
          cases e'
          refine ⟨h1, h2, _, _, rfl, h5, h6, fun h0 => ?_⟩
          obtain ⟨b, o, e, hl, hc⟩ := h4 h0
          subst e
          exact ⟨b, o, rfl, Nat.lt_of_lt_of_le hl hs, fun i hi => by
            rw [← hc i hi]
            unfold World.cell?
            rw [hW b ⟨hfr b o none rfl, hl⟩]⟩
        have HS : Hid (Sz19 w0 W3 S g r t gp gv gsc gbk gt f k n np nm L lo pb cp (.slice am nm cm) p q ∧ Ys19 W3 gt n L lo y (fun x => prb x = true) D' (fun _ => false) (fun x => w.heap.size ≤ x ∧ x < W3.heap.size) ∧ (∀ x, w.heap.size ≤ x → x ≠ gt) ∧ (∀ x, D' y x = dw19 f k np y prb Sh F x) ∧ D' = (fun z => if z = y then dw19 f k np y prb Sh F else D z)) := ⟨hZ3, hY3, hA, eD, hD'⟩
        clear bw3 hZ3 hY3 hA r3 b3 hrY3 hpF3 hgwa hgya hgw eD z0b hD'
        go_loopw [70] (fun s wr => ∃ i : Nat, i ≤ np ∧ s = .int .i64 (i : Int) ∧ Sz19 w0 wr S g r t gp gv gsc gbk gt f k n np nm L lo pb cp (.slice am nm cm) p q ∧ (∃ dn, Ys19 wr gt n L lo y (fun x => prb x = true) D' dn (fun x => w.heap.size ≤ x ∧ x < W3.heap.size) ∧ ∀ x, dn x = true ↔ ∃ j, j < i ∧ p j = x) ∧ W3.heap.size ≤ wr.heap.size ∧ ∀ x, w.heap.size ≤ x ∧ x < W3.heap.size → wr.heap[x]? = W3.heap[x]?) (fun s _ => np - (intOf s).toNat)
        case atStart => exact ⟨0, Nat.zero_le _, rfl, HS.out.1, ⟨fun _ => false, HS.out.2.1, fun x => ⟨fun h => (by cases h), fun ⟨j, hj, _⟩ => absurd hj (Nat.not_lt_zero _)⟩⟩, Nat.le_refl _, fun _ _ => rfl⟩
        case round =>
          obtain ⟨i, hi, rfl, hZr, ⟨dn, hYr, hdn⟩, hsz, hav⟩ := hrel
          by_cases hlt : i < np
          · obtain ⟨rY, rV, -⟩ := HP.out wr hsz hav
            have q1 : wr.cell? ⟨gw, i, none⟩ = some (.int .u8 ((pe 285 (p i) m F : Nat) : Int)) := rV.2.2.cell hlt
            have q2 := rY.2.2.cell hlt
            have ib : ((i : Nat) : Int) < (np : Int) := Int.ofNat_lt.2 hlt
            have W1 := wrap_lt8 (j := i) (b := np) hlt (by have := HH.out.2.1.npn; have := HH.out.2.1.n2; omega)
            have eV : pe 285 (p i) m F = pe 285 (p i) np F := fld8.pe_any (p i) HF.out.2.2.2.1.dg (HF.out.2.1.mono HH.out.2.1.kn)
            have hd0 : dn (p i) = false := by
              cases h9 : dn (p i) with
              | false => rfl
              | true =>
                obtain ⟨j, hj, e⟩ := (hdn _).1 h9
                exact absurd (up_inj8 HH.out.2.1.up j i (by omega) hlt e) (by omega)
            have hstep : ∀ x, (if x = p i then true else dn x) = true ↔ ∃ j, j < i + 1 ∧ p j = x := fun x => by
              by_cases e : x = p i
              · rw [if_pos e]
                exact ⟨fun _ => ⟨i, by omega, e.symm⟩, fun _ => rfl⟩
              · rw [if_neg e, hdn x]
                exact ⟨fun ⟨j, hj, h9⟩ => ⟨j, by omega, h9⟩, fun ⟨j, hj, h9⟩ => ⟨j, by
                  have : j ≠ i := fun e9 => e (by rw [← h9, e9])
                  omega, h9⟩⟩
            by_cases hne : pe 285 (p i) m F = yv19 f k y p Sh i
            · have HE : Hid (i < np ∧ Sz19 w0 wr S g r t gp gv gsc gbk gt f k n np nm L lo pb cp (.slice am nm cm) p q ∧ (∃ dn, Ys19 wr gt n L lo y (fun x => prb x = true) D' dn (fun x => w.heap.size ≤ x ∧ x < W3.heap.size) ∧ ∀ x, dn x = true ↔ ∃ j, j < i + 1 ∧ p j = x) ∧ W3.heap.size ≤ wr.heap.size ∧ ∀ x, w.heap.size ≤ x ∧ x < W3.heap.size → wr.heap[x]? = W3.heap[x]?) := ⟨hlt, hZr, ⟨_, hYr.pass hd0 ((HH.out.2.1.pr _).2 ⟨i, hlt, rfl⟩) (by rw [HS.out.2.2.2.1]; exact (dw_zero19 HH.out.2.1 F hlt).2 (by rw [← eV]; exact hne)), hstep⟩, hsz, hav⟩
              rw [hne] at q1
              generalize yv19 f k y p Sh i = yy at q1 q2
              clear hZr hYr hdn hsz hav rY rV hlt hi hd0 hstep hne eV
              go_wp2
              go_roundw
              case rel => exact ⟨i + 1, HE.out.1, by first | rfl | (rw [W1]; rfl), HE.out.2.1, HE.out.2.2.1, HE.out.2.2.2.1, HE.out.2.2.2.2⟩
              case measure => first | exact meas_lt8 HE.out.1 | (rw [W1]; exact meas_lt8 HE.out.1)
            · have z1 := hZr.sv.c1
              have q0 : wr.cell? ⟨pb, i, none⟩ = some (.int .i64 ((p i : Nat) : Int)) := by
                obtain ⟨-, -, a', c', e', -, -, h4⟩ := hZr.sv.pres
                cases e'
                obtain ⟨b', o', e', -, hc⟩ := h4 (by omega)
                cases e'
                have := hc i hlt
                rw [Nat.zero_add] at this
                exact this
              have hld : pe 285 (p i) m F ^^^ yv19 f k y p Sh i < 256 := Nat.xor_lt_two_pow (n := 8) (fld8.pe_lt _ _ _) (fm8_lt _ _)
              have XX := u8_xor_nat (pe 285 (p i) m F) (yv19 f k y p Sh i) (fld8.pe_lt _ _ _) (fm8_lt _ _)
              have c5 := Ys19.turn (w := wr.drew) (d := pe 285 (p i) m F ^^^ yv19 f k y p Sh i) (hZr.below (below_drewN (Below.refl _ _) 1)).sf (hYr.below (below_drewN (Below.refl _ _) 1)) (fun x hx => ⟨Nat.lt_of_lt_of_le hx.2 hsz, HS.out.2.2.1 x hx.1⟩) (HH.out.2.1.hp i hlt) HH.out.2.1.n2 HH.out.2.2.2.1 HH.out.2.1.hL hld hd0 (.inr (by rw [HS.out.2.2.2.1]; exact fun e => hne (by rw [eV]; exact (dw_zero19 HH.out.2.1 F hlt).1 e))) (by rw [HS.out.2.2.2.1, eV]; exact dw_pres19 HH.out.2.1 F hlt)
              have HG : Hid (∀ w', Ys19 w' gt n L lo y (fun x => prb x = true) D' (fun x => if x = p i then true else dn x) (fun x => w.heap.size ≤ x ∧ x < W3.heap.size) → Ke (fun z => z = gt ∨ lo ≤ z) wr.drew w' → (∀ x, w.heap.size ≤ x ∧ x < W3.heap.size → w'.heap[x]? = wr.drew.heap[x]?) → i < np ∧ Sz19 w0 w' S g r t gp gv gsc gbk gt f k n np nm L lo pb cp (.slice am nm cm) p q ∧ (∃ dn, Ys19 w' gt n L lo y (fun x => prb x = true) D' dn (fun x => w.heap.size ≤ x ∧ x < W3.heap.size) ∧ ∀ x, dn x = true ↔ ∃ j, j < i + 1 ∧ p j = x) ∧ W3.heap.size ≤ w'.heap.size ∧ ∀ x, w.heap.size ≤ x ∧ x < W3.heap.size → w'.heap[x]? = W3.heap[x]?) := fun w' k1 k2 k3 => ⟨hlt, (hZr.below (below_drewN (Below.refl _ _) 1)).ke k2, ⟨_, k1, hstep⟩, Nat.le_trans hsz k2.size, fun x hx => (k3 x hx).trans (hav x hx)⟩
              have neN : ¬ pe 285 (p i) m F = yv19 f k y p Sh i := hne
              have neI : ¬ ((pe 285 (p i) m F : Nat) : Int) = ((yv19 f k y p Sh i : Nat) : Int) := by omega
              generalize hd9 : pe 285 (p i) m F ^^^ yv19 f k y p Sh i = d9 at XX c5
              generalize pe 285 (p i) m F = vv at q1 XX neN neI
              generalize yv19 f k y p Sh i = yy at q2 XX neN neI
              clear hZr hYr hdn hsz hav rY rV hlt hi hd0 hstep hne eV hld hd9
              go_upto_region 14 with (fail)
              refine region_planJ (fun w' => w'.cell? ⟨S, 1, none⟩ = some (.slice (some ⟨pb, 0, none⟩) np cp) ∧ w'.cell? ⟨pb, i, none⟩ = some (.int .i64 ((p i : Nat) : Int)) ∧ w'.cell? ⟨gy, i, none⟩ = some (.int .u8 ((yy : Nat) : Int))) 15 [15] 123 ⟨z1, q0, q2⟩ (by kernel_rfl) (by kernel_rfl) (fun _ a d v _ h => by cases d <;> exact h) ?_
              refine planT_last ?B1 rfl (fun w' hS => ?sb1) rfl ?nb1
              case sb1 =>
                obtain ⟨u0, u1, u2⟩ := hS
                simp only [List.take_succ_cons, List.take_zero]
                repeat still_step
                exact rfl
              case nb1 =>
              simp only [List.drop_succ_cons, List.drop_zero]
              go_wp2_with (go_at_call 56; (with_reducible refine c5.mono ?_); rintro e w9 ⟨rfl, k1, k2, k3⟩; clear c5)
              have HE : Hid _ := HG.out w9 k1 k2 k3
              clear HG k1 k2 k3
              go_roundw
              case rel => exact ⟨i + 1, HE.out.1, by first | rfl | (rw [W1]; rfl), HE.out.2.1, HE.out.2.2.1, HE.out.2.2.2.1, HE.out.2.2.2.2⟩
              case measure => first | exact meas_lt8 HE.out.1 | (rw [W1]; exact meas_lt8 HE.out.1)
          · have ib : ¬ ((i : Nat) : Int) < (np : Int) := by omega
            have hin : i = np := by omega
            rw [hin] at hdn
            have z2 := hZr.sv.c2
            have HT : Hid (Sz19 w0 wr S g r t gp gv gsc gbk gt f k n np nm L lo pb cp (.slice am nm cm) p q ∧ (∃ dn, Ys19 wr gt n L lo y (fun x => prb x = true) D' dn (fun x => w.heap.size ≤ x ∧ x < W3.heap.size) ∧ ∀ x, dn x = true ↔ ((∃ j, j < np ∧ p j = x) ∨ ∃ l, l < 0 ∧ q l = x)) ∧ W3.heap.size ≤ wr.heap.size ∧ ∀ x, w.heap.size ≤ x ∧ x < W3.heap.size → wr.heap[x]? = W3.heap[x]?) := ⟨hZr, ⟨dn, hYr, fun x => ⟨fun h => .inl ((hdn x).1 h), fun h => h.elim (fun h => (hdn x).2 h) (fun ⟨l, hl, _⟩ => absurd hl (Nat.not_lt_zero _))⟩⟩, hsz, hav⟩
            clear hZr hYr hdn hsz hav hlt hi hin
            go_wp2
            clear z2
            go_loopw [103] (fun s wr => ∃ i : Nat, i ≤ nm ∧ s = .int .i64 (i : Int) ∧ Sz19 w0 wr S g r t gp gv gsc gbk gt f k n np nm L lo pb cp (.slice am nm cm) p q ∧ (∃ dn, Ys19 wr gt n L lo y (fun x => prb x = true) D' dn (fun x => w.heap.size ≤ x ∧ x < W3.heap.size) ∧ ∀ x, dn x = true ↔ ((∃ j, j < np ∧ p j = x) ∨ ∃ l, l < i ∧ q l = x)) ∧ W3.heap.size ≤ wr.heap.size ∧ ∀ x, w.heap.size ≤ x ∧ x < W3.heap.size → wr.heap[x]? = W3.heap[x]?) (fun s _ => nm - (intOf s).toNat)
            case atStart => exact ⟨0, Nat.zero_le _, rfl, HT.out.1, HT.out.2.1, HT.out.2.2.1, HT.out.2.2.2⟩
            case round =>
              obtain ⟨j, hj, rfl, hZr, ⟨dn, hYr, hdn⟩, hsz, hav⟩ := hrel
              clear HT
              by_cases hlt : j < nm
              · obtain ⟨-, -, hPx⟩ := HP.out wr hsz hav
                obtain ⟨-, -, a', c', e', -, -, h4⟩ := hZr.sv.miss
                cases e'
                obtain ⟨mb, mo, rfl, -, hc⟩ := h4 (by omega)
                have q0 := hc j hlt
                have z0 := hZr.sv.c0
                have z00 := hZr.sv.de.c0
                have qn := HH.out.2.1.hq j hlt
                have q2 : q j < 256 := by have := HH.out.2.1.n2; omega
                have eV : pe 285 (q j) m F = pe 285 (q j) np F := fld8.pe_any (q j) HF.out.2.2.2.1.dg (HF.out.2.1.mono HH.out.2.1.kn)
                have c4 := eval8 r t (q j) m x F wr hZr.sv.de.rg hPx.rb (by have := HF.out.2.2.2.2; have := HH.out.2.1.kn; have := HH.out.2.1.npn; have := HH.out.2.1.n2; omega) q2
                have U8 : IntKind.u8.wrap ((q j : Nat) : Int) = ((q j : Nat) : Int) := u8s19 q2
                have hd0 : dn (q j) = false := by
                  cases h9 : dn (q j) with
                  | false => rfl
                  | true =>
                    rcases (hdn _).1 h9 with ⟨i, hi, e⟩ | ⟨l, hl, e⟩
                    · exact absurd e (HH.out.2.1.dis i j hi hlt)
                    · exact absurd (up_inj8 HH.out.2.1.uq l j (by omega) hlt e) (by omega)
                have hstep : ∀ x, (if x = q j then true else dn x) = true ↔ ((∃ i, i < np ∧ p i = x) ∨ ∃ l, l < j + 1 ∧ q l = x) := fun x => by
                  by_cases e : x = q j
                  · rw [if_pos e]
                    exact ⟨fun _ => .inr ⟨j, by omega, e.symm⟩, fun _ => rfl⟩
                  · rw [if_neg e, hdn x]
                    exact ⟨fun h => h.elim .inl (fun ⟨l, hl, h9⟩ => .inr ⟨l, by omega, h9⟩), fun h => h.elim .inl (fun ⟨l, hl, h9⟩ => .inr ⟨l, by
                      have : l ≠ j := fun e9 => e (by rw [← h9, e9])
                      omega, h9⟩)⟩
                have hmi := dw_miss19 (y := y) HH.out.2.1 F hlt
                have c5 := fun q9 => Ys19.turn (w := wr.drewN q9) (d := pe 285 (q j) m F) (hZr.below (below_drewN (Below.refl _ _) q9)).sf (hYr.below (below_drewN (Below.refl _ _) q9)) (fun x hx => ⟨Nat.lt_of_lt_of_le hx.2 hsz, HS.out.2.2.1 x hx.1⟩) qn HH.out.2.1.n2 HH.out.2.2.2.1 HH.out.2.1.hL (fld8.pe_lt _ _ _) hd0 (.inl hmi.1) (by rw [HS.out.2.2.2.1, eV]; exact hmi.2)
                have HG : Hid (∀ q9 w', Ys19 w' gt n L lo y (fun x => prb x = true) D' (fun x => if x = q j then true else dn x) (fun x => w.heap.size ≤ x ∧ x < W3.heap.size) → Ke (fun z => z = gt ∨ lo ≤ z) (wr.drewN q9) w' → (∀ x, w.heap.size ≤ x ∧ x < W3.heap.size → w'.heap[x]? = (wr.drewN q9).heap[x]?) → j < nm ∧ Sz19 w0 w' S g r t gp gv gsc gbk gt f k n np nm L lo pb cp (.slice (some ⟨mb, mo, none⟩) nm cm) p q ∧ (∃ dn, Ys19 w' gt n L lo y (fun x => prb x = true) D' dn (fun x => w.heap.size ≤ x ∧ x < W3.heap.size) ∧ ∀ x, dn x = true ↔ ((∃ i, i < np ∧ p i = x) ∨ ∃ l, l < j + 1 ∧ q l = x)) ∧ W3.heap.size ≤ w'.heap.size ∧ ∀ x, w.heap.size ≤ x ∧ x < W3.heap.size → w'.heap[x]? = W3.heap[x]?) := fun q9 w' k1 k2 k3 => ⟨hlt, (hZr.below (below_drewN (Below.refl _ _) q9)).ke k2, ⟨_, k1, hstep⟩, Nat.le_trans hsz k2.size, fun x hx => (k3 x hx).trans (hav x hx)⟩
                have ib2 : ((j : Nat) : Int) < (nm : Int) := Int.ofNat_lt.2 hlt
                have W1 := wrap_lt8 (j := j) (b := nm) hlt (by have := HH.out.2.1.nmn; have := HH.out.2.1.n2; omega)
                generalize pe 285 (q j) m F = vv at c4 c5 eV
                clear hZr hYr hdn hsz hav hPx h4 hc hlt hj hd0 hstep hmi eV qn q2
                go_wp2_with (first
                  | (go_at_call 57; (with_reducible refine c4.mono ?_); rintro e w8 ⟨rfl, q9, rfl⟩; clear c4)
                  | (go_at_call 56; (with_reducible refine (c5 _).mono ?_); rintro e w9 ⟨rfl, k1, k2, k3⟩; clear c5; have HE : Hid _ := HG.out _ w9 k1 k2 k3; clear HG k1 k2 k3))
                go_roundw
                case rel => exact ⟨j + 1, HE.out.1, by first | rfl | (rw [W1]; rfl), HE.out.2.1, HE.out.2.2.1, HE.out.2.2.2.1, HE.out.2.2.2.2⟩
                case measure => first | exact meas_lt8 HE.out.1 | (rw [W1]; exact meas_lt8 HE.out.1)
              · have ib2 : ¬ ((j : Nat) : Int) < (nm : Int) := by omega
                have hjn : j = nm := by omega
                rw [hjn] at hdn
                have hYe : Ys19 wr gt n L lo (y + 1) (fun x => prb x = true) (fun z => if z = y then dw19 f k np y prb Sh F else D z) (fun _ => false) (fun _ => False) := by
                  rw [← HS.out.2.2.2.2]
                  exact (hYr.next (fun x hx => (hdn x).2 (HH.out.2.1.cov x hx))).free
                have HR : Hid (Sz19 w0 wr S g r t gp gv gsc gbk gt f k n np nm L lo pb cp (.slice am nm cm) p q ∧ Ys19 wr gt n L lo (y + 1) (fun x => prb x = true) (fun z => if z = y then dw19 f k np y prb Sh F else D z) (fun _ => false) (fun _ => False)) := ⟨hZr, hYe⟩
                clear hZr hYr hdn hsz hav hlt hj hjn hYe
                go_wp2
                go_ret
                exact .inl ⟨rfl, F, HF.out.1, HF.out.2.1, HF.out.2.2.1, HR.out.1, HR.out.2⟩
end Go.Proofs.YtlblkckglelbdaaGreat
namespace Go.Proofs.YtlblkckglelbdaaGreat
open Go.RowKit Gf2
set_option linter.unusedVariables false

-- layer 19: BinarySearch (as in Xcf)
set_option maxHeartbeats 400000 in
theorem nan19 (x : Int) (w : World) : Calls Tryz.prog 106 #[.int .i64 x] w fun e w' => e = .returned (.bool false) ∧ w' = w := by
  go_enter Tryz.func106, Tryz.ntmps106
  go_wp2
  go_ret
  exact ⟨rfl, rfl⟩
set_option maxHeartbeats 400000 in
theorem snan19 (x : Int) (w : World) : Calls Tryz.prog 83 #[.int .i64 x] w fun e w' => e = .returned (.bool false) ∧ w' = w := by
  go_enter Tryz.func83, Tryz.ntmps83
  go_wp2
  go_ret
  exact ⟨rfl, rfl⟩
set_option maxHeartbeats 400000 in
theorem less19 (x y : Int) (w : World) : Calls Tryz.prog 82 #[.int .i64 x, .int .i64 y] w fun e w' => e = .returned (.bool (decide (x < y))) ∧ w' = w := by
  have c1 := fun x w => nan19 x w
  by_cases h : x < y
  · have d : decide (x < y) = true := by simpa using h
    rw [d]
    go_enter Tryz.func82, Tryz.ntmps82
    go_wp2_with (go_at_call 106; (with_reducible refine (c1 _ _).mono ?_); rintro e w9 ⟨rfl, hw9⟩; have hw9 := hw9.symm; subst hw9)
    go_ret
    exact ⟨rfl, rfl⟩
  · have d : decide (x < y) = false := by simpa using h
    rw [d]
    go_enter Tryz.func82, Tryz.ntmps82
    go_wp2_with (go_at_call 106; (with_reducible refine (c1 _ _).mono ?_); rintro e w9 ⟨rfl, hw9⟩; have hw9 := hw9.symm; subst hw9)
    go_ret
    exact ⟨rfl, rfl⟩
/-- where T belongs in a rising list. -/
structure Bs19 (N i T : Nat) (Q : Nat → Nat) : Prop where
  le : i ≤ N
  lo : ∀ a, a < i → Q a < T
  hi : ∀ a, i ≤ a → a < N → T ≤ Q a
/-- what BinarySearch answers. -/
def BsP19 (w w' : World) (e : Ending) (N T : Nat) (Q : Nat → Nat) : Prop := ∃ (i : Nat) (bo : Bool), e = .returned (.tuple #[.int .i64 (i : Nat), .bool bo]) ∧ Bs19 N i T Q ∧ (bo = true ↔ i < N ∧ Q i = T) ∧ w' = w
theorem half19 {i j h : Nat} (hlt : i < j) (hj : j ≤ 256) (hh : h = (i + j) / 2) : ∃ s : Nat, wrap64 ((i : Int) + (j : Int)) = (s : Int) ∧ wrap64 (IntKind.u64.wrap (s : Int) / 2) = (h : Int) := by
  refine ⟨i + j, by unfold wrap64; omega, ?_⟩
  have e : IntKind.u64.wrap ((i + j : Nat) : Int) = ((i + j : Nat) : Int) := by
    rw [IntKind.wrap_u64]; omega
  rw [e]
  unfold wrap64
  omega
set_option maxHeartbeats 2000000 in
set_option maxRecDepth 100000 in
theorem bsearch19 (u : Value) (N T : Nat) (Q : Nat → Nat) (w : World) (hu : Qi w u N (fun i => (Q i : Int))) (hN : N ≤ 256) (up : ∀ i j, i < j → j < N → Q i < Q j) :
    Calls Tryz.prog 52 #[u, .int .i64 (T : Int)] w fun e w' => BsP19 w w' e N T Q := by
  have c1 := fun x w => snan19 x w
  have c2 := fun x y w => less19 x y w
  obtain ⟨-, -, a, cap, rfl, -, -, h6⟩ := hu
  go_enter Tryz.func52, Tryz.ntmps52
  go_wp2
  have HN : Hid (N ≤ 256) := hN
  clear hN
  go_loopw [7, 8] (fun x y wr => ∃ i j : Nat, i ≤ j ∧ j ≤ N ∧ x = .int .i64 i ∧ y = .int .i64 j ∧ (∀ a, a < i → Q a < T) ∧ (∀ a, j ≤ a → a < N → T ≤ Q a) ∧ wr = w) (fun x y _ => (intOf y).toNat - (intOf x).toNat)
  case atStart => exact ⟨0, N, Nat.zero_le _, Nat.le_refl _, rfl, rfl, fun a ha => absurd ha (Nat.not_lt_zero _), fun a h1 h2 => absurd h1 (by omega), rfl⟩
  case round =>
    obtain ⟨i, j, hij, hjN, rfl, rfl, hlo, hhi, rfl⟩ := hrel
    by_cases hlt : i < j
    · obtain ⟨h, hh⟩ : ∃ h, h = (i + j) / 2 := ⟨_, rfl⟩
      have hhN : h < N := by omega
      obtain ⟨b, o, rfl, -, hcell⟩ := h6 (by omega)
      have q1 := hcell h hhN
      have ih : ((h : Nat) : Int) < (N : Int) := by omega
      have c3 := c2 (Q h : Int) (T : Int) wr
      have hm1 : j - (h + 1) < j - i := by omega
      have hm2 : h - i < j - i := by omega
      have W2 := wrap_succ8 (j := h) (by have := HN.out; unfold big; omega)
      by_cases hq : Q h < T
      · have d : decide (((Q h : Nat) : Int) < (T : Int)) = true := by simpa using hq
        rw [d] at c3
        have HR : Hid (h + 1 ≤ j ∧ j ≤ N ∧ (∀ a, a < h + 1 → Q a < T) ∧ (∀ a, j ≤ a → a < N → T ≤ Q a)) := ⟨by omega, hjN, fun a ha => by
          rcases Nat.lt_or_ge a h with e | e
          · exact Nat.lt_trans (up a h e hhN) hq
          · rw [show a = h by omega]; exact hq, hhi⟩
        obtain ⟨s0, W0, W1⟩ := half19 hlt (by have := HN.out; omega) hh
        generalize Q h = qh at q1 c3
        clear hcell h6 c1 c2 hlo hhi d hh hhN hq hij hjN up
        go_wp2_with (go_at_call 82; (with_reducible refine c3.mono ?_); rintro e w9 ⟨rfl, hw9⟩; have hw9 := hw9.symm; subst hw9; clear c3)
        go_roundw
        case rel => exact ⟨h + 1, j, HR.out.1, HR.out.2.1, by first | rfl | (rw [W2]; rfl), rfl, HR.out.2.2.1, HR.out.2.2.2, by trivial⟩
        case measure => first | exact hm1 | (rw [W2]; exact hm1)
      · have d : decide (((Q h : Nat) : Int) < (T : Int)) = false := by simpa using hq
        rw [d] at c3
        have HR : Hid (i ≤ h ∧ h ≤ N ∧ (∀ a, a < i → Q a < T) ∧ (∀ a, h ≤ a → a < N → T ≤ Q a)) := ⟨by omega, by omega, hlo, fun a h1 h2 => by
          rcases Nat.lt_or_ge h a with e | e
          · have := up h a e h2; omega
          · rw [show a = h by omega]; omega⟩
        obtain ⟨s0, W0, W1⟩ := half19 hlt (by have := HN.out; omega) hh
        generalize Q h = qh at q1 c3
        clear hcell h6 c1 c2 hlo hhi d hh hhN hq hij hjN up
        go_wp2_with (go_at_call 82; (with_reducible refine c3.mono ?_); rintro e w9 ⟨rfl, hw9⟩; have hw9 := hw9.symm; subst hw9; clear c3)
        go_roundw
        case rel => exact ⟨i, h, HR.out.1, HR.out.2.1, rfl, by first | rfl | (rw [W1]), HR.out.2.2.1, HR.out.2.2.2, by trivial⟩
        case measure => first | exact hm2 | (rw [W1]; exact hm2)
    · obtain rfl : i = j := by omega
      have HB : Hid (Bs19 N i T Q) := ⟨hjN, hlo, hhi⟩
      by_cases hiN : i < N
      · obtain ⟨b, o, rfl, -, hcell⟩ := h6 (by omega)
        have q1 := hcell i hiN
        have ib : ((i : Nat) : Int) < (N : Int) := by omega
        by_cases hq : Q i = T
        · have d : (((Q i : Nat) : Int) == (T : Int)) = true := by rw [hq]; simp
          have HQ : Hid (i < N ∧ Q i = T) := ⟨hiN, hq⟩
          generalize Q i = qi at q1 d
          clear hcell h6 c2 hlo hhi hq up hlt
          go_wp2_with (go_at_call 83; (with_reducible refine (c1 _ _).mono ?_); rintro e w9 ⟨rfl, hw9⟩; have hw9 := hw9.symm; subst hw9)
          go_ret2
          exact ⟨i, true, rfl, HB.out, ⟨fun _ => HQ.out, fun _ => rfl⟩, rfl⟩
        · have d : (((Q i : Nat) : Int) == (T : Int)) = false := by
            have : ((Q i : Nat) : Int) ≠ (T : Int) := by omega
            simpa using this
          have HQ : Hid (¬ Q i = T) := hq
          generalize Q i = qi at q1 d
          clear hcell h6 c2 hlo hhi hq up hlt
          go_wp2_with (go_at_call 83; (with_reducible refine (c1 _ _).mono ?_); rintro e w9 ⟨rfl, hw9⟩; have hw9 := hw9.symm; subst hw9)
          go_ret2
          exact ⟨i, false, rfl, HB.out, ⟨fun h => (by cases h), fun h => absurd h.2 HQ.out⟩, rfl⟩
      · have ib : ¬ ((i : Nat) : Int) < (N : Int) := by omega
        have HQ : Hid (¬ i < N) := hiN
        clear h6 c2 hlo hhi up hlt
        go_wp2_with (go_at_call 83; (with_reducible refine (c1 _ _).mono ?_); rintro e w9 ⟨rfl, hw9⟩; have hw9 := hw9.symm; subst hw9)
        go_ret2
        exact ⟨i, false, rfl, HB.out, ⟨fun h => (by cases h), fun h => absurd h.1 HQ.out⟩, rfl⟩
/-- is T in the list? -/
theorem BsP19.tell {w w' : World} {e : Ending} {N T : Nat} {Q : Nat → Nat} (h : BsP19 w w' e N T Q) (up : ∀ i j, i < j → j < N → Q i < Q j) : ∃ (i : Nat) (bo : Bool), e = .returned (.tuple #[.int .i64 (i : Nat), .bool bo]) ∧ (bo = true ↔ ∃ a, a < N ∧ Q a = T) ∧ w' = w := by
  obtain ⟨i, bo, e1, h1, h2, h3⟩ := h
  refine ⟨i, bo, e1, ⟨fun hb => ⟨i, (h2.1 hb).1, (h2.1 hb).2⟩, fun ⟨a, ha, e⟩ => h2.2 ?_⟩, h3⟩
  have h4 : i ≤ a := by
    apply Nat.le_of_not_lt
    intro h5
    have := h1.lo a h5
    omega
  have h6 : i < N := by omega
  refine ⟨h6, ?_⟩
  have h7 := h1.hi i (Nat.le_refl _) h6
  by_cases e9 : a = i
  · rw [← e9]; exact e
  · have := up i a (by omega) ha
    omega
end Go.Proofs.YtlblkckglelbdaaGreat
namespace Go.Proofs.YtlblkckglelbdaaGreat
open Go.RowKit Gf2
set_option linter.unusedVariables false

-- layer 19: newSurvey
theorem fsel_get {P : Nat → Bool} : ∀ {n i : Nat}, i < cnb P n → ∃ x, x < n ∧ P x = true ∧ fsel P (fun j => j) n i = (x : Int) ∧ cnb P x = i
  | 0, i, h => absurd h (Nat.not_lt_zero _)
  | n + 1, i, h => by
    cases hP : P n with
    | true =>
      rw [cnb_yes hP] at h
      rw [fsel_yes hP]
      by_cases e : i < cnb P n
      · obtain ⟨x, h1, h2, h3, h4⟩ := fsel_get e
        exact ⟨x, by omega, h2, by show (if i < cnb P n then _ else _) = _; rw [if_pos e]; exact h3, h4⟩
      · exact ⟨n, by omega, hP, by show (if i < cnb P n then _ else _) = _; rw [if_neg e], by omega⟩
    | false =>
      rw [cnb_no hP] at h
      rw [fsel_no hP]
      obtain ⟨x, h1, h2, h3, h4⟩ := fsel_get h
      exact ⟨x, by omega, h2, h3, h4⟩
theorem cnb_mono {P : Nat → Bool} {a : Nat} : ∀ {b : Nat}, a ≤ b → cnb P a ≤ cnb P b
  | 0, h => by obtain rfl : a = 0 := by omega
               exact Nat.le_refl _
  | b + 1, h => by
    by_cases e : a = b + 1
    · rw [e]; exact Nat.le_refl _
    · have := cnb_mono (P := P) (a := a) (b := b) (by omega)
      show cnb P a ≤ cnb P b + _
      omega
/-- the numbers that P names below n, in their order. -/
def pk19 (P : Nat → Bool) (n i : Nat) : Nat := (fsel P (fun j => j) n i).toNat
theorem pk19_get {P : Nat → Bool} {n i : Nat} (h : i < cnb P n) : pk19 P n i < n ∧ P (pk19 P n i) = true ∧ cnb P (pk19 P n i) = i ∧ fsel P (fun j => j) n i = ((pk19 P n i : Nat) : Int) := by
  obtain ⟨x, h1, h2, h3, h4⟩ := fsel_get h
  have e : pk19 P n i = x := by unfold pk19; rw [h3]; rfl
  rw [e]
  exact ⟨h1, h2, h4, h3⟩
theorem pk19_up (P : Nat → Bool) (n : Nat) : Up8 (cnb P n) (pk19 P n) := fun i j hij hj => by
  obtain ⟨h1, h2, h3, -⟩ := pk19_get (P := P) (n := n) (i := i) (by omega)
  obtain ⟨k1, k2, k3, -⟩ := pk19_get (P := P) (n := n) hj
  apply Nat.lt_of_not_le
  intro hle
  have := cnb_mono (P := P) hle
  omega
theorem pk19_all {P : Nat → Bool} {n x : Nat} (hx : x < n) (hP : P x = true) : ∃ i, i < cnb P n ∧ pk19 P n i = x := by
  have hlt : cnb P x < cnb P n := by
    have := cnb_mono (P := P) (a := x + 1) (b := n) (by omega)
    rw [cnb_yes hP] at this
    omega
  obtain ⟨h1, h2, h3, -⟩ := pk19_get hlt
  refine ⟨_, hlt, ?_⟩
  rcases Nat.lt_trichotomy (pk19 P n (cnb P x)) x with e | e | e
  · have := cnb_mono (P := P) (a := pk19 P n (cnb P x) + 1) (b := x) (by omega)
    rw [cnb_yes h2] at this
    omega
  · exact e
  · have := cnb_mono (P := P) (a := x + 1) (b := pk19 P n (cnb P x)) (by omega)
    rw [cnb_yes hP] at this
    omega
end Go.Proofs.YtlblkckglelbdaaGreat
namespace Go.Proofs.YtlblkckglelbdaaGreat
open Go.RowKit Gf2
set_option linter.unusedVariables false

-- layer 19: addTo
set_option maxHeartbeats 4000000 in
set_option maxRecDepth 100000 in
theorem addTo19 (b N L c tb : Nat) (F T : Nat → Nat) (w : World) (hr : Rw w b N F) (hL : L ≤ N) (ht : Rw w tb L T) (hne : tb ≠ b) :
    Calls Tryz.prog 23 #[.slice (some ⟨b, 0, none⟩) L c, .slice (some ⟨tb, 0, none⟩) L L] w fun e w' => e = .returned (.tuple #[]) ∧ Rw w' b N (fun z => if z < L then F z ^^^ T z else F z) ∧ Kp b w w' := by
  have HH : Hid (Rw w b N F ∧ L ≤ N ∧ Rw w tb L T ∧ tb ≠ b ∧ N ≤ big) := ⟨hr, hL, ht, hne, hr.1⟩
  clear hL hne
  go_enter Tryz.func23, Tryz.ntmps23
  go_wp2
  go_loopw [8] (fun s wr => ∃ i : Nat, i ≤ L ∧ s = .int .i64 (i : Int) ∧ Kp b w wr ∧ Rw wr b N (fun z => if z < i then F z ^^^ T z else F z)) (fun s _ => L - (intOf s).toNat)
  case atStart => exact ⟨0, Nat.zero_le _, rfl, Kp.refl _ _, hr.congr (fun j _ => (if_neg (Nat.not_lt_zero _)).symm)⟩
  case round =>
    obtain ⟨i, hi, rfl, hkp, hrw⟩ := hrel
    clear hr ht
    by_cases hlt : i < L
    · have q1 := (hkp.rw_ HH.out.2.2.1 HH.out.2.2.2.1).2.2.cell hlt
      have hiN : i < N := by have := HH.out.2.1; omega
      have q2 : wr.cell? ⟨b, i, none⟩ = some (.int .u8 ((F i : Nat) : Int)) := by
        have := hrw.2.2.cell hiN
        simp only [Nat.lt_irrefl, if_false] at this
        exact this
      have q3 := hrw.2.2.frozen i
      have lF := HH.out.1.2.1 i hiN
      have lT := HH.out.2.2.1.2.1 i hlt
      have ib : ((i : Nat) : Int) < (L : Int) := Int.ofNat_lt.2 hlt
      have W1 := wrap_succ8 (j := i) (by have := HH.out; unfold big at *; omega)
      have upd : ∀ j, (if j = i then F i ^^^ T i else if j < i then F j ^^^ T j else F j) = if j < i + 1 then F j ^^^ T j else F j := fun j => by
        by_cases e : j = i
        · rw [if_pos e, if_pos (by omega), e]
        · rw [if_neg e]
          by_cases e2 : j < i
          · rw [if_pos e2, if_pos (by omega)]
          · rw [if_neg e2, if_neg (by omega)]
      by_cases h0 : T i = 0
      · have HC : Hid (i < L ∧ Kp b w wr ∧ Rw wr b N (fun z => if z < i + 1 then F z ^^^ T z else F z)) := ⟨hlt, hkp, hrw.congr (fun j _ => by
          rw [← upd j]
          by_cases e : j = i
          · rw [if_pos e, if_neg (by omega), e, h0, Nat.xor_zero]
          · rw [if_neg e])⟩
        rw [h0] at q1
        clear hrw hkp hlt hi hiN lF lT upd h0
        go_wp2
        go_roundw
        case rel => exact ⟨i + 1, HC.out.1, by first | rfl | (rw [W1]; rfl), HC.out.2.1, HC.out.2.2⟩
        case measure => first | exact meas_lt8 HC.out.1 | (rw [W1]; exact meas_lt8 HC.out.1)
      · have XX := u8_xor_nat (F i) (T i) lF lT
        have HC : Hid (i < L ∧ Kp b w (wr.setCell ⟨b, i, none⟩ (.int .u8 ((F i ^^^ T i : Nat) : Int))) ∧ Rw (wr.setCell ⟨b, i, none⟩ (.int .u8 ((F i ^^^ T i : Nat) : Int))) b N (fun z => if z < i + 1 then F z ^^^ T z else F z)) := ⟨hlt, hkp.setCell _ _, (hrw.set i _ (Nat.xor_lt_two_pow (n := 8) lF lT)).congr (fun j _ => upd j)⟩
        have h0I : ¬ ((T i : Nat) : Int) = 0 := by omega
        generalize hd : F i ^^^ T i = d at XX HC
        generalize F i = ff at q2 XX
        generalize T i = tt at q1 XX h0 h0I
        clear hrw hkp hlt hi hiN lF lT upd hd
        go_wp2
        go_roundw
        case rel => first | exact ⟨i + 1, HC.out.1, by first | rfl | (rw [W1]; rfl), HC.out.2.1, HC.out.2.2⟩ | ((try rw [W1]); (repeat apply Exists.intro); exact ⟨⟨i + 1, HC.out.1, rfl, HC.out.2.1, HC.out.2.2⟩, rfl⟩)
        case measure => first | exact meas_lt8 HC.out.1 | (rw [W1]; exact meas_lt8 HC.out.1)
    · have ib : ¬ ((i : Nat) : Int) < (L : Int) := by omega
      have HF : Hid (Rw wr b N (fun z => if z < L then F z ^^^ T z else F z) ∧ Kp b w wr) := ⟨hrw.congr (fun j _ => by rw [show i = L by omega]), hkp⟩
      clear hrw hkp hlt hi
      go_wp2
      ((try simp only [Exit.inBlock, Exit.then]); first | (refine bodyPost_ret (results_none rfl _ _ _) rfl ?_) | (refine bodyPost_end (results_none rfl _ _ _) rfl ?_))
      exact ⟨rfl, HF.out⟩
end Go.Proofs.YtlblkckglelbdaaGreat
namespace Go.Proofs.YtlblkckglelbdaaGreat
open Go.RowKit Gf2
set_option linter.unusedVariables false

-- layer 19: newSurvey
theorem cell_ne19 {W : World} {a b : Nat} {x y : Value} (hx : W.cell? ⟨a, 0, none⟩ = some x) (hy : W.cell? ⟨b, 0, none⟩ = some y) (h : x ≠ y) : a ≠ b := fun e => by
  subst e
  rw [hx] at hy
  exact h (Option.some.inj hy)
/-- a decoder's blocks are others than one that begins with no function and no number. -/
theorem De19.ne {W : World} {g k n r t gp gv b : Nat} {p : Nat → Nat} {v : Value} (h : De19 W g k n p r t gp gv) (hn : 1 ≤ n) (hb : W.cell? ⟨b, 0, none⟩ = some v) (h1 : ∀ f a c, v ≠ .func f a c) (h2 : ∀ z, v ≠ .int .u8 z) : r ≠ b ∧ t ≠ b ∧ gp ≠ b ∧ gv ≠ b := by
  refine ⟨cell_ne19 h.rg.mul hb (fun e => h1 _ _ _ e.symm), cell_ne19 (h.rg.tab.pow (n := 0) (by decide)) hb (fun e => h2 _ e.symm), ?_, ?_⟩
  · obtain ⟨-, -, a, c, e, -, -, h4⟩ := h.pts
    cases e
    obtain ⟨b', o, e, -, hc⟩ := h4 (by omega)
    cases e
    exact cell_ne19 (hc 0 (by omega)) hb (fun e => h2 _ e.symm)
  · obtain ⟨-, -, a, c, e, -, -, h4⟩ := h.van.rb
    cases e
    obtain ⟨b', o, e, -, hc⟩ := h4 (by omega)
    cases e
    exact cell_ne19 (hc 0 (by omega)) hb (fun e => h2 _ e.symm)
theorem De19.kp {W W' : World} {g k n r t gp gv b : Nat} {p : Nat → Nat} (h : De19 W g k n p r t gp gv) (hk : Kp b W W') (hg : g ≠ b) (hr : r ≠ b) (ht : t ≠ b) (hp : gp ≠ b) (hv : gv ≠ b) : De19 W' g k n p r t gp gv :=
  ⟨(hk.2 g (Array.getElem?_eq_some_iff.1 h.blk).1 hg).trans h.blk, h.rg.kp hk hr ht, rb_keep19 h.pts (fun hl => hk.2 _ hl hp) hk.size, ⟨rb_keep19 h.van.rb (fun hl => hk.2 _ hl hv) hk.size, h.van.dg, h.van.el, h.van.top⟩⟩
/-- the loop of newSurvey. -/
structure Nv19 (w wr : World) (S gt n L i : Nat) (l vM : Value) (prb : Nat → Bool) : Prop where
  blk : wr.heap[S]? = some (.cells #[.pointer none, l, vM, .slice none 0 0, .slice none 0 0, .int .i64 (L : Int), .slice (some ⟨gt, 0, none⟩) n n] 73 (0, 0))
  lst : Gj (S + 1) wr l (cnb prb i) (fsel prb (fun j => j) i)
  row : wr.rowIs gt 27 n (fun _ => .slice none 0 0)
  bel : Below w.heap.size w wr
  gt_ : gt = w.heap.size
  S_ : S = gt + 1
theorem Nv19.sz {w wr : World} {S gt n L i : Nat} {l vM : Value} {prb : Nat → Bool} (h : Nv19 w wr S gt n L i l vM prb) : S + 1 ≤ wr.heap.size := (Array.getElem?_eq_some_iff.1 h.blk).1
theorem Nv19.pass {w wr : World} {S gt n L i : Nat} {l vM : Value} {prb : Nat → Bool} (h : Nv19 w wr S gt n L i l vM prb) (hp : prb i = false) : Nv19 w wr S gt n L (i + 1) l vM prb :=
  ⟨h.blk, by rw [cnb_no hp, fsel_no hp]; exact h.lst, h.row, h.bel, h.gt_, h.S_⟩
theorem Nv19.hit {w wr : World} {S gt n L i : Nat} {l vM : Value} {prb : Nat → Bool} (h : Nv19 w wr S gt n L i l vM prb) (hp : prb i = true) (hi : i ≤ 256) :
    ∃ w' v', (Builtin.append_ #[23, 23] 23 #[l, .slice (some ⟨wr.heap.size, 0, none⟩) 1 1]).run Tryz.prog (wr.alloc (.cells #[.int .i64 ((i : Nat) : Int)] 3)) = .ok v' w' ∧ w'.cell? ⟨S, 1, none⟩ = some l ∧ (∃ A T, w'.heap[S]? = some (.cells A T (0, 0))) ∧ Nv19 w (w'.setCell ⟨S, 1, none⟩ v') S gt n L (i + 1) v' vM prb := by
  obtain ⟨w', v', hrun, hG, hb⟩ := app_gj h.lst h.sz ((i : Nat) : Int) (by have := cnb_le prb i; omega)
  have hb2 : w'.heap[S]? = _ := (hb.block S (by omega)).trans h.blk
  have kp : Kp S w' (w'.setCell ⟨S, 1, none⟩ v') := (Kp.refl _ _).setCell _ _
  have hS := h.S_
  have hg := h.gt_
  refine ⟨w', v', hrun, by rw [cell_of_row _ _ 1 _ _ _ hb2]; rfl, ⟨_, _, hb2⟩, ?_, ?_, ?_, ?_, hg, hS⟩
  · rw [set_at8 _ hb2]; rfl
  · rw [cnb_yes hp, fsel_yes hp]
    exact hG.keep kp.ke (fun x hx e => by omega)
  · exact (h.row.of_block (hb.block _ (by omega))).of_block (kp.2 _ (by have := hb.size; have := h.sz; omega) (by omega))
  · exact (h.bel.trans (hb.mono (by omega))).trans (kp.below (by omega) (by have := hb.size; have := h.bel.size; omega))
end Go.Proofs.YtlblkckglelbdaaGreat
