import Derived.Test.YtefolifecbhgoaaGreatMbbu
import Derived.Test.YtefolifecbhgoaaGreatMbbo
namespace Go.Proofs.YtefolifecbhgoaaGreat
open Go.RowKit Gf2
set_option linter.unusedVariables false


section
variable {w : World} {c : Nat} {Fp FT : Nat → Prop} {p : Addr} {lo hi : Nat} {rows : Value} {t : Nat} {f : Int} {k m b N : Nat} {L : List (Nat × Ent)} {slo shi l fr tq : Nat} {C B : Nat → Nat} {S Fr : Nat → Nat → Nat} {Q : Nat → Bool}
structure Ud17 (w x2 wr : World) (f : Int) (k m d l fr tq x : Nat) (C B : Nat → Nat) (Q : Nat → Bool) (S Fr : Nat → Nat → Nat) : Prop where
  kw : Ke (Pb17 k m B) w wr
  k2 : Ke (fun q => q = w.heap.size + 1 ∨ Pb17 k m B q) x2 wr
  dr : ∃ F, Rw wr (w.heap.size + 1) d F
  rows : ∀ r, r < m → Rw wr (B (k + r)) (C (k + r)) (upx17 f k fr tq Q S Fr x (k + r))
set_option maxHeartbeats 4000000 in
set_option maxRecDepth 100000 in
theorem update17 (h : Co w c Fp FT p lo hi rows t f k m b N L) {v : Value} (hv : Cs slo shi w v (k + m) (fun _ => l) C B S) (hd : ∀ x, Pb17 k m B x → ¬ Fp x) (h1 : fr ≤ tq) (h2 : tq ≤ l) (hlb : l ≤ 140737488351232) (fv tv : Value) (hfv : Ll (Pb17 k m B) w fv k (fun i => if Q i then l else 0) Fr) (htv : ∀ w', Ke (Pb17 k m B) w w' → Qi w' tv (ems Q k).length (emz Q k)) :
    Calls Tryz.prog 39 #[.pointer (some ⟨c, 0, none⟩), v, fv, tv, .agg #[.int .i64 (fr : Int), .int .i64 (tq : Int)]] w fun e w' => e = .returned (.tuple #[]) ∧ Ke (Pb17 k m B) w w' ∧ Cs slo shi w' v (k + m) (fun _ => l) C B (upx17 f k fr tq Q S Fr (ems Q k).length) := by
  have hs := h.hs
  have hk := h.hk
  have hm := h.hm
  have hmb := hv.mb
  obtain ⟨g, cap, hveq, hcap, hcapb, g1, g2, g3, g4⟩ := hv.at17 (by omega)
  subst hveq
  have hshi := hv.hw
  obtain ⟨hsp, hb0⟩ := sp17_new w fr tq
  generalize hx : w.alloc (.cells #[.int .i64 (fr : Int), .int .i64 (tq : Int)] 65) = x0 at hsp hb0
  have hz0 : x0.heap.size = w.heap.size + 1 := by rw [← hx]; simp
  have HX : Hid (w.alloc (.cells #[.int .i64 (fr : Int), .int .i64 (tq : Int)] 65) = x0) := hx
  clear hx
  obtain ⟨d, hdd⟩ : ∃ d, d = tq - fr := ⟨_, rfl⟩
  have mk := make_u8 d (by omega)
  have hr1 := made_rw d (by omega) x0
  have hb1 : Below x0.heap.size x0 (x0.alloc (.cells (madeCells #[.int .u8 0] d) 5)) := (Below.refl _ _).alloc (Nat.le_refl _) _
  generalize hx1 : x0.alloc (.cells (madeCells #[.int .u8 0] d) 5) = x1 at hr1 hb1
  have hz1 : x1.heap.size = w.heap.size + 2 := by rw [← hx1]; simp; omega
  have HX1 : Hid (x0.alloc (.cells (madeCells #[.int .u8 0] d) 5) = x1) := hx1
  clear hx1
  rw [hz0] at hr1
  have b01 : Below w.heap.size w x1 := hb0.trans (hb1.mono (by omega))
  have hsp1 := hsp.below hb1
  have h1x := h.below b01
  -- parts
  have hlvp : Lv (fun _ => False) x1.drew (.slice (some ⟨g, k, none⟩) m (cap - k)) m (fun r => .slice (some ⟨B (k + r), 0, none⟩) l (C (k + r))) := by
    have hg' := (hv.below b01).at17 (by omega)
    obtain ⟨g', cap', e, -, -, -, -, -, g4'⟩ := hg'
    cases e
    exact ⟨by omega, _, _, rfl, by omega, by omega, fun _ => ⟨g, k, rfl, ⟨by show g < x1.heap.size; omega, fun e => e⟩, fun i hi => g4' (k + i) (by omega)⟩⟩
  have c2 := parts17 (.slice (some ⟨g, k, none⟩) m (cap - k)) m fr tq l (fun r => some ⟨B (k + r), 0, none⟩) (fun r => C (k + r)) x1.drew hlvp (by omega) h1 h2 (fun r hr => (hv.row (k + r) (by omega)).2.2.1)
  rw [← hdd] at c2
  have q1 : x1.drew.cell? ⟨c, 1, none⟩ = _ := h1x.c1
  have z0 : x1.drew.cell? ⟨w.heap.size, 0, none⟩ = _ := hsp1.c0
  have z1 : x1.drew.cell? ⟨w.heap.size, 1, none⟩ = _ := hsp1.c1
  have s2 := fromL17 g 0 (k + m) cap k (by omega) hcap (by omega)
  rw [Nat.add_sub_cancel_left, Nat.zero_add] at s2
  have HP : Hid (∀ x2 pv, (∃ A : Nat → Option Addr, (∀ r, r < m → ∀ b o, (fun r => some (⟨B (k + r), 0, none⟩ : Addr)) r = some ⟨b, o, none⟩ → fr < tq → A r = some ⟨b, o + fr, none⟩) ∧ Gp x1.drew.heap.size x2 pv m (fun r => .slice (A r) d ((fun r => C (k + r)) r - fr))) → Below x1.drew.heap.size x1.drew x2 → (x2.cell? ⟨c, 1, none⟩ = some (.int .i64 (k : Int)) ∧ x2.cell? ⟨w.heap.size, 0, none⟩ = some (.int .i64 (fr : Int)) ∧ x2.cell? ⟨w.heap.size, 1, none⟩ = some (.int .i64 (tq : Int))) ∧ ∃ pa pn pc, pv = .slice pa pn pc) := fun x2 pv hG hbp => by
    have b12 := undraw17 hbp
    have hsp2 := hsp1.below b12
    obtain ⟨A, -, g, C', F, e, -⟩ := hG
    exact ⟨⟨(h1x.below b12).c1, hsp2.c0, hsp2.c1⟩, _, _, _, e⟩
  obtain ⟨nt, hnt⟩ : ∃ nt, nt = (ems Q k).length := ⟨_, rfl⟩
  have hnk := ems_le Q k
  have HO : Hid (Co w c Fp FT p lo hi rows t f k m b N L ∧ Cs slo shi w (.slice (some ⟨g, 0, none⟩) (k + m) cap) (k + m) (fun _ => l) C B S ∧ (∀ x, Pb17 k m B x → ¬ Fp x) ∧ Ll (Pb17 k m B) w fv k (fun i => if Q i then l else 0) Fr ∧ (∀ w', Ke (Pb17 k m B) w w' → Qi w' tv nt (emz Q k))) := ⟨h, hv, hd, hfv, by rw [hnt]; exact htv⟩
  have HN : Hid (d = tq - fr ∧ fr ≤ tq ∧ tq ≤ l ∧ l ≤ 140737488351232 ∧ nt = (ems Q k).length ∧ nt ≤ 256 ∧ k + m ≤ 256 ∧ 1 ≤ k ∧ k + m ≤ cap ∧ cap ≤ big ∧ slo ≤ g ∧ g < shi ∧ shi ≤ w.heap.size) := ⟨hdd, h1, h2, hlb, hnt, by omega, hs, hk, hcap, hcapb, g1, g2, hshi⟩
  have H1 : Hid (Rw x1 (w.heap.size + 1) d (fun _ => 0) ∧ x1.heap.size = w.heap.size + 2 ∧ Below w.heap.size w x1 ∧ Sp17 x1 w.heap.size fr tq) := ⟨hr1, hz1, b01, hsp1⟩
  have W0 : wrap64 ((tq : Int) - (fr : Int)) = (d : Int) := by unfold wrap64; omega
  obtain ⟨fa0, fc0, hfe⟩ : ∃ a c, fv = .slice a k c := by
    obtain ⟨V, ⟨-, a, cc, e, -⟩, -⟩ := hfv
    exact ⟨a, cc, e⟩
  obtain ⟨ta0, tc0, hte⟩ : ∃ a c, tv = .slice a nt c := by
    obtain ⟨-, -, a, cc, e, -⟩ := htv w (Ke.refl _ _)
    exact ⟨a, cc, by rw [e, hnt]⟩
  subst hfe hte
  clear h hv hd hfv htv hs hk hm hmb hcap hcapb g1 g2 g3 g4 hshi hsp hb0 hdd hr1 hb1 hz1 b01 hsp1 h1x hlvp hnk h1 h2 hlb hz0
  rw [← hnt]
  clear hnt
  go_enter Tryz.func39, Tryz.ntmps39
  go_wp2
  rw [HX.out, HX1.out]
  refine region_planI (fun w' => w'.cell? ⟨c, 1, none⟩ = some (.int .i64 (k : Int)) ∧ w'.cell? ⟨w.heap.size, 0, none⟩ = some (.int .i64 (fr : Int)) ∧ w'.cell? ⟨w.heap.size, 1, none⟩ = some (.int .i64 (tq : Int))) [0, 1, 2, 3, 4, 5, 6, 7, 8] [7, 1] 70 ⟨q1, z0, z1⟩ (by kernel_rfl) (by kernel_rfl) (fun _ a d v _ h => by cases d <;> exact h) ?_
  simp only [atI, List.getElem?_cons_zero, List.getElem?_cons_succ]
  refine planH_step ?Aq0 rfl (fun w' hS => ?sq0) rfl (fun K hK => ?nq0)
  case sq0 =>
    obtain ⟨y0, y1, y2⟩ := hS
    simp only [List.take_succ_cons, List.take_zero]
    repeat still_step
    exact rfl
  case nq0 =>
  go_simp
  go_wp2_with (go_at_call 72; (with_reducible refine c2.mono ?_); rintro e x2 ⟨pv, rfl, hG, hbp⟩; clear c2; obtain ⟨⟨q1, z0, z1⟩, pa, pn, pc, rfl⟩ := HP.out x2 pv hG hbp)
  refine hK _ _ ⟨q1, z0, z1⟩ ?_
  clear hK K
  refine planH_last ?Aq1 rfl (fun w' hS => ?sq1) rfl ?nq1
  case sq1 =>
    obtain ⟨y0, y1, y2⟩ := hS
    simp only [List.take_succ_cons, List.take_zero]
    repeat still_step
    exact rfl
  case nq1 =>
  clear q1 z0 z1 s2 HP W0 mk
  have b12 := undraw17 hbp
  have H2 : Hid (Below x1.heap.size x1 x2 ∧ (∃ A : Nat → Option Addr, (∀ r, r < m → ∀ b o, (fun r => some (⟨B (k + r), 0, none⟩ : Addr)) r = some ⟨b, o, none⟩ → fr < tq → A r = some ⟨b, o + fr, none⟩) ∧ Gp x1.drew.heap.size x2 (.slice pa pn pc) m (fun r => .slice (A r) d ((fun r => C (k + r)) r - fr)))) := ⟨b12, hG⟩
  clear hG hbp b12
  go_wp2
  go_loopw [30] (fun i wr => ∃ x : Nat, x ≤ nt ∧ i = .int .i64 x ∧ Ud17 w x2 wr f k m d l fr tq x C B Q S Fr) (fun i _ => nt - (intOf i).toNat)
  case atStart =>
    have b02 : Below w.heap.size w x2 := H1.out.2.2.1.trans (H2.out.1.mono (by have := H1.out.2.1; omega))
    refine ⟨0, Nat.zero_le _, rfl, ke_below b02 _, Ke.refl _ _, ⟨_, rw_below H1.out.1 H2.out.1⟩, fun r hr => ?_⟩
    have hrow := (HO.out.2.1.row (k + r) (by omega)).2.2.2
    refine (rw_below hrow b02).congr (fun j _ => ?_)
    unfold upx17 uq17
    split
    · rw [Nat.xor_zero]
    · rfl
  case round =>
    obtain ⟨x, hx, rfl, hU⟩ := hrel
    by_cases hlt : x < nt
    · obtain ⟨hdd, h1, h2, hlb, hnt, hn256, hs, hk1, hcap, hcapb, g1, g2, hshi⟩ := HN.out
      have hPb : ∀ q, Pb17 k m B q → slo ≤ q ∧ q < shi := fun q ⟨r, hr, e⟩ => by
        obtain ⟨r1, r2, -⟩ := HO.out.2.1.row (k + r) (by omega)
        subst e
        exact ⟨r1, r2⟩
      obtain ⟨hik, hQ⟩ := eN_mem (P := Q) (n := k) (i := x) (by omega)
      obtain ⟨-, -, a', cp, e', -, -, h4⟩ := HO.out.2.2.2.2 wr hU.kw
      cases e'
      obtain ⟨tb, tof, rfl, -, htc⟩ := h4 (by omega)
      have q1 : wr.cell? ⟨tb, tof + x, none⟩ = some (.int .i64 ((eN Q k x : Nat) : Int)) := htc x hlt
      obtain ⟨i, hie⟩ : ∃ i, i = eN Q k x := ⟨_, rfl⟩
      rw [← hie] at q1 hik hQ
      have hg' := HO.out.2.1.at17 (by omega)
      obtain ⟨g', cap', e', -, -, -, -, g3, g4⟩ := hg'
      cases e'
      have hgP : ¬ Pb17 k m B g := fun ⟨r, hr, e⟩ => g3 (k + r) (by omega) e.symm
      have hBi : ¬ Pb17 k m B (B i) := fun ⟨r, hr, e⟩ => by have := HO.out.2.1.inj i (k + r) (by omega) (by omega) e; omega
      have hBr := HO.out.2.1.row i (by omega)
      have q2 : wr.cell? ⟨g, i, none⟩ = some (.slice (some ⟨B i, 0, none⟩) l (C i)) := (hU.kw.cell (by omega) hgP).trans (g4 i (by omega))
      have hRi : Rw wr (B i) (C i) (S i) := hU.kw.rw_ hBr.2.2.2 hBi
      have hsp : Sp17 wr w.heap.size fr tq := (H1.out.2.2.2.below H2.out.1).ke hU.k2 (fun e => by
        rcases e with e | e
        · omega
        · have := hPb _ e; omega)
      obtain ⟨VF, ⟨-, a', cp, e', -, -, h5⟩, hVF⟩ := (HO.out.2.2.2.1.mono (E' := fun q => Pb17 k m B q ∨ w.heap.size ≤ q) (fun q hq e => e.elim id (fun e => by omega))).ke (hU.kw.mono (fun q _ e => .inl e))
      cases e'
      obtain ⟨fb, fo, rfl, ⟨hfbl, hfbP⟩, hfc⟩ := h5 (by omega)
      have hFi : Re (fun q => Pb17 k m B q ∨ w.heap.size ≤ q) wr (VF i) l (Fr i) := by
        have hh := hVF i hik
        have e : (fun i => if Q i then l else 0) i = l := by show (if Q i then l else 0) = l; rw [hQ, if_pos rfl]
        rw [e] at hh
        exact hh
      obtain ⟨-, -, fa, fc, ef, hlfc, -⟩ := id hFi
      have y0 : wr.cell? ⟨fb, fo + i, none⟩ = some (.slice fa l fc) := (hfc i hik).trans (by rw [ef])
      obtain ⟨F, hF⟩ := hU.dr
      have hgdP : ∀ q, q = w.heap.size + 1 → ¬ Pb17 k m B q := fun q e hq => by have := hPb q hq; omega
      -- copy
      obtain ⟨a1, ha1, s1⟩ := cutB17 (some ⟨B i, 0, none⟩) l (C i) fr tq h1 (Nat.le_trans h2 hBr.2.2.1)
      have hre1 : Re (fun _ => False) wr.drew (.slice (some ⟨B i, 0, none⟩) l (C i)) l (S i) := Rw.re (w := wr.drew) (hRi.drewN 1) hBr.2.2.1 hBr.2.2.1 hRi.1 (fun e => e)
      have hrb1 := (hre1.cut17 h1 h2 ha1).rb
      rw [← hdd] at s1 hrb1
      obtain ⟨w4, hrun, hr4, ho4⟩ := copy10 (w := wr.drew) (o := 0) (dl := d) (cap := d) (hF.drewN 1) hrb1 (by omega) (Nat.le_refl _)
      have k4 : Ke (fun q => q = w.heap.size + 1) wr w4 := ⟨⟨ho4.kp.ke.1.os, ho4.kp.ke.1.tape, ho4.kp.ke.1.output, ho4.kp.ke.1.size, ho4.kp.ke.1.block⟩, ho4.kp.ke.2⟩
      rw [ef] at hFi
      have hFi4 : Re (fun q => Pb17 k m B q ∨ w.heap.size ≤ q) w4 (.slice fa l fc) l (Fr i) := hFi.ke (k4.mono (fun q _ e => .inr (by omega)))
      obtain ⟨a2, ha2, s3⟩ := cutB17 fa l fc fr tq h1 (Nat.le_trans h2 hlfc)
      have hre2 := (hFi4.cut17 h1 h2 ha2).mono (E' := fun q => q = w.heap.size + 1) (fun q _ e => .inr (by omega))
      rw [← hdd] at s3 hre2
      have hr4' : Rw w4 (w.heap.size + 1) d (fun j => S i (fr + j)) := hr4.congr (fun j hj => by have := pl_in (F := F) (o := 0) (S := fun j => S i (fr + j)) hj; rwa [Nat.zero_add] at this)
      have c3 := kxor_far d (w.heap.size + 1) 0 d (fun j => S i (fr + j)) (fun j => Fr i (fr + j)) (some ⟨w.heap.size + 1, 0, none⟩) d (.slice a2 d (fc - fr)) w4.drew (Nat.le_refl _) hr4'.1 hr4'.1 (hr4'.drewN 1) (fun _ => rfl) (by omega) hre2
      have hgs : w.heap.size ≠ w.heap.size + 1 := by omega
      have hsp4 : Sp17 w4 w.heap.size fr tq := hsp.ke k4 hgs
      have hfbg : fb ≠ w.heap.size + 1 := fun e => hfbP (.inr (by omega))
      have y4 : w4.drew.cell? ⟨fb, fo + i, none⟩ = some (.slice fa l fc) := (k4.cell hfbl hfbg).trans y0
      have z0 : wr.drew.cell? ⟨w.heap.size, 0, none⟩ = some (.int .i64 (fr : Int)) := hsp.c0
      have z1 : wr.drew.cell? ⟨w.heap.size, 1, none⟩ = some (.int .i64 (tq : Int)) := hsp.c1
      have z4 : w4.drew.cell? ⟨w.heap.size, 0, none⟩ = some (.int .i64 (fr : Int)) := hsp4.c0
      have z5 : w4.drew.cell? ⟨w.heap.size, 1, none⟩ = some (.int .i64 (tq : Int)) := hsp4.c1
      have q2' : wr.drew.cell? ⟨g, i, none⟩ = some (.slice (some ⟨B i, 0, none⟩) l (C i)) := q2
      have HXo : Hid (∀ w5, (Kp (w.heap.size + 1) w4.drew w5 ∧ Rw w5 (w.heap.size + 1) d (pl (fun j => S i (fr + j)) 0 d (fun j => S i (fr + (0 + j)) ^^^ Fr i (fr + j)))) → (w5.cell? ⟨fb, fo + i, none⟩ = some (.slice fa l fc) ∧ w5.cell? ⟨w.heap.size, 0, none⟩ = some (.int .i64 (fr : Int)) ∧ w5.cell? ⟨w.heap.size, 1, none⟩ = some (.int .i64 (tq : Int))) ∧ Ke (fun q => q = w.heap.size + 1) wr w5 ∧ Rw w5 (w.heap.size + 1) d (fun j => S i (fr + j) ^^^ Fr i (fr + j))) := fun w5 ⟨hk5, hr5⟩ => by
        have k5 : Ke (fun q => q = w.heap.size + 1) w4 w5 := ⟨⟨hk5.ke.1.os, hk5.ke.1.tape, hk5.ke.1.output, hk5.ke.1.size, hk5.ke.1.block⟩, hk5.ke.2⟩
        have hsp5 := hsp4.ke k5 hgs
        refine ⟨⟨(k5.cell (Nat.lt_of_lt_of_le hfbl k4.size) hfbg).trans y4, hsp5.c0, hsp5.c1⟩, k4.trans k5, hr5.congr (fun j hj => ?_)⟩
        have := pl_in (F := fun j => S i (fr + j)) (o := 0) (S := fun j => S i (fr + (0 + j)) ^^^ Fr i (fr + j)) hj
        rw [Nat.zero_add] at this
        exact this
      have HUd : Hid (Ud17 w x2 wr f k m d l fr tq x C B Q S Fr ∧ i = eN Q k x ∧ i < k ∧ Q i = true) := ⟨hU, hie, hik, hQ⟩
      have ib : ((x : Nat) : Int) < (nt : Int) := by omega
      have ib2 : ((i : Nat) : Int) < ((k + m : Nat) : Int) := by omega
      have ib3 : i < k + m := by omega
      have ib5 : ((i : Nat) : Int) < (k : Int) + (m : Int) := by omega
      have ib4 : ((i : Nat) : Int) < (k : Int) := by omega
      have W1 := wrap_succ8 (j := x) (by unfold big; omega)
      clear hU hdd h1 h2 hlb hnt hn256 hs hk1 hcap hcapb g1 g2 hshi hPb hQ h4 htc hie g3 g4 hgP hBi hBr hRi hsp h5 hVF hfc hFi hlfc hF hgdP hre1 hrb1 hr4 ho4 k4 hFi4 hre2 hr4' hsp4 hfbg hfbl hfbP ha1 ha2 ef hgs
      go_wp2
      refine region_planT (fun w' => w'.cell? ⟨g, i, none⟩ = some (.slice (some ⟨B i, 0, none⟩) l (C i)) ∧ w'.cell? ⟨w.heap.size, 0, none⟩ = some (.int .i64 (fr : Int)) ∧ w'.cell? ⟨w.heap.size, 1, none⟩ = some (.int .i64 (tq : Int))) 10 [10] 70 ⟨q2', z0, z1⟩ (by kernel_rfl) (by kernel_rfl) (fun _ a d v _ h => by cases d <;> exact h) ?_
      refine planT_last ?Ac rfl (fun w' hS => ?sc) rfl ?nc
      case sc =>
        obtain ⟨y0, y1, y2⟩ := hS
        simp only [List.take_succ_cons, List.take_zero]
        repeat still_step
        exact rfl
      case nc =>
      simp only [List.drop_succ_cons, List.drop_zero]
      clear q1 q2 q2' s1 y0 z0 z1
      go_wp2
      have y0 := y4
      have z0 := z4
      have z1 := z5
      clear y4 z4 z5 hrun
      refine region_planI (fun w' => w'.cell? ⟨fb, fo + i, none⟩ = some (.slice fa l fc) ∧ w'.cell? ⟨w.heap.size, 0, none⟩ = some (.int .i64 (fr : Int)) ∧ w'.cell? ⟨w.heap.size, 1, none⟩ = some (.int .i64 (tq : Int))) [0, 1, 2, 3, 4, 5, 6, 7, 8, 9, 10] [10, 0] 70 ⟨y0, z0, z1⟩ (by kernel_rfl) (by kernel_rfl) (fun _ a d v _ h => by cases d <;> exact h) ?_
      simp only [atI, List.getElem?_cons_zero, List.getElem?_cons_succ]
      refine planH_step ?Ax0 rfl (fun w' hS => ?sx0) rfl (fun K hK => ?nx0)
      case sx0 =>
        obtain ⟨y0, y1, y2⟩ := hS
        simp only [List.take_succ_cons, List.take_zero]
        repeat still_step
        exact rfl
      case nx0 =>
      go_simp
      go_wp2_with (go_at_call 73; (with_reducible refine c3.mono ?_); rintro e w5 ⟨rfl, hX5⟩; clear c3; obtain ⟨⟨y0, z0, z1⟩, H5⟩ := HXo.out w5 hX5)
      refine hK _ _ ⟨y0, z0, z1⟩ ?_
      clear hK K
      refine planH_last ?Ax1 rfl (fun w' hS => ?sx1) rfl ?nx1
      case sx1 =>
        obtain ⟨y0, y1, y2⟩ := hS
        simp only [List.take_zero]
        exact rfl
      case nx1 =>
      clear y0 z0 z1 HXo hX5 s3
      have HH5 : Hid (Ke (fun q => q = w.heap.size + 1) wr w5 ∧ Rw w5 (w.heap.size + 1) d (fun j => S i (fr + j) ^^^ Fr i (fr + j))) := H5
      clear H5
      have HC8 : Hid (∀ X, (Ke (fun q => q = w.heap.size + 1) wr X ∧ Rw X (w.heap.size + 1) d (fun j => S i (fr + j) ^^^ Fr i (fr + j))) → X.cell? ⟨c, 3, none⟩ = some (.pointer (some p)) ∧ Calls Tryz.prog 75 #[.pointer (some ⟨c, 0, none⟩), .int .i64 (i : Int)] X fun e w' => ∃ u, e = .returned u ∧ Gw X w' u m (fun r => par11 f k r i)) := fun X hX => by
        obtain ⟨hdd, h1, h2, hlb, hnt, hn256, hs, hk1, hcap, hcapb, g1, g2, hshi⟩ := HN.out
        have hCX : Co X c Fp FT p lo hi rows t f k m b N L := (HO.out.1.ke HUd.out.1.kw (fun q e => HO.out.2.2.1 q e)).ke hX.1 (fun q e hq => by have := HO.out.1.lt q hq; omega)
        exact ⟨hCX.c3, column17 hCX i HUd.out.2.2.1⟩
      have HS8 : Hid (∀ X Y u, (Ke (fun q => q = w.heap.size + 1) wr X ∧ Rw X (w.heap.size + 1) d (fun j => S i (fr + j) ^^^ Fr i (fr + j))) → Gw X Y u m (fun r => par11 f k r i) → Y.cell? ⟨c, 3, none⟩ = some (.pointer (some p)) ∧ ∃ ua uc, u = .slice ua m uc ∧
          Calls Tryz.prog 74 #[.pointer (some p), .slice ua m uc, .slice (some ⟨w.heap.size + 1, 0, none⟩) d d, .slice pa pn pc, .agg #[.int .i64 0, .int .i64 (d : Int)]] Y fun e w' => e = .returned (.int .i64 0) ∧ w'.cell? ⟨c, 3, none⟩ = some (.pointer (some p)) ∧ Ud17 w x2 w' f k m d l fr tq (x + 1) C B Q S Fr) := fun X Y u hX hG => by
        obtain ⟨hdd, h1, h2, hlb, hnt, hn256, hs, hk1, hcap, hcapb, g1, g2, hshi⟩ := HN.out
        have hPb : ∀ q, Pb17 k m B q → slo ≤ q ∧ q < shi := fun q ⟨r, hr, e⟩ => by
          obtain ⟨r1, r2, -⟩ := HO.out.2.1.row (k + r) (by omega)
          subst e
          exact ⟨r1, r2⟩
        have hU := HUd.out.1
        have bXY := hG.1
        have kX : Ke (Pb17 k m B) w X := ⟨hU.kw.1.trans hX.1.1, fun q hq hn => by rw [hX.1.2 q (Nat.lt_of_lt_of_le hq hU.kw.size) (by omega), hU.kw.2 q hq hn]⟩
        have kY : Ke (Pb17 k m B) w Y := kX.trans (ke_below bXY _)
        have k2Y : Ke (fun q => q = w.heap.size + 1 ∨ Pb17 k m B q) x2 Y := (hU.k2.trans (hX.1.mono (fun q _ e => .inl e))).trans (ke_below bXY _)
        have hCY : Co Y c Fp FT p lo hi rows t f k m b N L := HO.out.1.ke kY (fun q e => HO.out.2.2.1 q e)
        refine ⟨hCY.c3, ?_⟩
        obtain ⟨ua, uc, rfl⟩ := hG.form
        refine ⟨ua, uc, rfl, ?_⟩
        obtain ⟨A, hA, hGp⟩ := H2.out.2
        have hx1 := H1.out.2.1
        have hGY : Gp x1.heap.size Y (.slice pa pn pc) m (fun r => .slice (A r) d (C (k + r) - fr)) := by
          obtain ⟨g', C', F', e, a1, a2, a3, a4, a5⟩ := hGp
          have a3' : x1.heap.size ≤ g' := a3
          refine ⟨g', C', F', e, a1, a2, a3', a4.of_block (k2Y.2 g' a4.lt (fun e => ?_)), a5⟩
          rcases e with e | e
          · omega
          · have := hPb _ e; omega
        have inj : ∀ i j, i < m → j < m → B (k + i) = B (k + j) → i = j := fun i j hi hj e => by have := HO.out.2.1.inj (k + i) (k + j) (by omega) (by omega) e; omega
        have hrY : ∀ r, r < m → Rw Y (B (k + r)) (C (k + r)) (upx17 f k fr tq Q S Fr x (k + r)) := fun r hr => rw_below (hX.1.rw_ (hU.rows r hr) (fun e => by have := hPb (B (k + r)) ⟨r, hr, rfl⟩; omega)) bXY
        have hEb : ∀ q, Eb m (fun r => B (k + r)) q → slo ≤ q ∧ q < shi := fun q e => hPb q e
        have hdl : Dl Y (.slice pa pn pc) m d (fun r => B (k + r)) (fun _ => fr) (fun b => C (k + inv9 m (fun r => B (k + r)) b)) (fun b => upx17 f k fr tq Q S Fr x (k + inv9 m (fun r => B (k + r)) b)) := by
          refine ⟨⟨A, fun r => C (k + r) - fr, hGY.lv (fun q e => by have := hEb q e; omega), fun r hr => ?_⟩, fun r hr => ?_, fun r s hr hs hrs => .inl (fun e => hrs (inj r s hr hs e))⟩
          · have hl := (HO.out.2.1.row (k + r) (by omega)).2.2.1
            have hb := (hrY r hr).1
            refine ⟨by show d ≤ C (k + r) - fr; omega, by show C (k + r) - fr ≤ big; omega, fun h0 => ?_⟩
            have := hA r hr (B (k + r)) 0 rfl (by omega)
            rw [Nat.zero_add] at this
            exact this
          · show Rw Y (B (k + r)) (C (k + inv9 m (fun r => B (k + r)) (B (k + r)))) (upx17 f k fr tq Q S Fr x (k + inv9 m (fun r => B (k + r)) (B (k + r)))) ∧ fr + d ≤ C (k + inv9 m (fun r => B (k + r)) (B (k + r)))
            rw [inv9_at (B := fun r => B (k + r)) inj hr]
            exact ⟨hrY r hr, by have := (HO.out.2.1.row (k + r) (by omega)).2.2.1; omega⟩
        have hgdE : ¬ Eb m (fun r => B (k + r)) (w.heap.size + 1) := fun e => by have := hEb _ e; omega
        have hdY := rw_below hX.2 bXY
        have hszX : w.heap.size ≤ X.heap.size := kX.size
        refine (kspread_ok p b lo hi m d 0 d (fun r => B (k + r)) (fun _ => fr) _ (fun r => par11 f k r i) (fun j => S i (fr + j) ^^^ Fr i (fr + j)) _ _ _ _ Y hCY.ks (by omega) (fun r hr => ?_) (hG.re17 (fun q hq e => by have := hEb q e; omega)) (hdY.re (Nat.le_refl _) (Nat.le_refl _) hdY.1 hgdE) hdl (Nat.zero_le _) (Nat.le_refl _)).mono ?_
        · have q := hPb _ ⟨r, hr, rfl⟩
          have q2 := HO.out.2.2.1 _ ⟨r, hr, rfl⟩
          rcases Nat.lt_or_ge (B (k + r)) lo with e | e
          · exact .inl e
          · refine .inr (Nat.le_of_not_lt (fun e2 => q2 (HO.out.1.kf _ e e2).1))
        · rintro e w7 ⟨rfl, hke, hr7⟩
          refine ⟨rfl, (hCY.ke hke (fun q e => HO.out.2.2.1 q e)).c3, kY.trans hke, k2Y.trans (hke.mono (fun q _ e => .inr e)), ⟨_, hke.rw_ hdY hgdE⟩, fun r hr => ?_⟩
          have q := hr7 r hr
          simp only [inv9_at (B := fun r => B (k + r)) inj hr] at q
          refine q.congr (fun j hj => ?_)
          refine (spb17 (B := fun r => B (k + r)) inj fr d (fun r j => fm 285 (par11 f k r i) (S i (fr + j) ^^^ Fr i (fr + j))) (fun r => upx17 f k fr tq Q S Fr x (k + r)) hr).trans ?_
          unfold upx17
          by_cases e : fr ≤ j ∧ j < tq
          · rw [if_pos (by omega), if_pos ⟨by omega, e.1, e.2⟩, if_pos ⟨by omega, e.1, e.2⟩, show k + r - k = r by omega, show fr + (j - fr) = j by omega, Nat.xor_assoc]
            congr 1
            show _ = uq17 f k Q S Fr r j x ^^^ fm 285 (par11 f k r (eN Q k x)) (S (eN Q k x) j ^^^ Fr (eN Q k x) j)
            rw [HUd.out.2.1]
          · rw [if_neg (by omega), if_neg (fun x => e ⟨x.2.1, x.2.2⟩), if_neg (fun x => e ⟨x.2.1, x.2.2⟩)]
      have st5 : Ke (fun q => q = w.heap.size + 1) wr w5.drew ∧ Rw w5.drew (w.heap.size + 1) d (fun j => S i (fr + j) ^^^ Fr i (fr + j)) := ⟨HH5.out.1.drewN 1, HH5.out.2.drewN 1⟩
      obtain ⟨u1, c4⟩ := HC8.out _ st5
      clear HC8
      go_wp2
      go_region_held (fun W => W.cell? ⟨c, 3, none⟩ = some (.pointer (some p))) (first | exact u1 | exact u2 | exact u3) (first
        | (go_at_call 75; (with_reducible refine c4.mono ?_); rintro e w6 ⟨u, rfl, hG6⟩; clear c4; obtain ⟨u2, ua, uc, rfl, c5⟩ := HS8.out _ _ _ st5 hG6; clear HS8 hG6)
        | (go_at_call 74; (with_reducible refine c5.mono ?_); rintro e w7 ⟨rfl, u3, hU7⟩; clear c5))
      all_goals
        have HU7 : Hid _ := hU7
        clear hU7
        go_wp2
        go_roundw
      case rel => exact ⟨x + 1, hlt, by first | rfl | (rw [W1]; rfl), HU7.out⟩
      case measure => first | exact meas_lt8 hlt | (rw [W1]; exact meas_lt8 hlt)
    · have htl : ¬ ((x : Nat) : Int) < (nt : Int) := fun e => hlt (Int.ofNat_lt.1 e)
      obtain rfl : x = nt := by omega
      have HE : Hid (Ke (Pb17 k m B) w wr ∧ Cs slo shi wr (.slice (some ⟨g, 0, none⟩) (k + m) cap) (k + m) (fun _ => l) C B (upx17 f k fr tq Q S Fr x)) := ⟨hU.kw, HO.out.2.1.part17 hU.kw hU.rows (fun i hi j _ => by unfold upx17; rw [if_neg (by omega)])⟩
      clear hU
      go_wp2
      ((try simp only [Exit.inBlock, Exit.then]); first | (refine bodyPost_ret (results_none rfl _ _ _) rfl ?_) | (refine bodyPost_end (results_none rfl _ _ _) rfl ?_))
      exact ⟨rfl, HE.out⟩
end
end Go.Proofs.YtefolifecbhgoaaGreat
namespace Go.Proofs.YtefolifecbhgoaaGreat
open Go.RowKit Gf2
set_option linter.unusedVariables false


structure Up17 (w w' : World) (slo shi : Nat) (v : Value) (f : Int) (k m l fr tq : Nat) (C B : Nat → Nat) (Q : Nat → Bool) (S Fr : Nat → Nat → Nat) : Prop where
  ke : Ke (Pb17 k m B) w w'
  cs : Cs slo shi w' v (k + m) (fun _ => l) C B (upx17 f k fr tq Q S Fr (ems Q k).length)
section
variable {w : World} {c : Nat} {Fp FT : Nat → Prop} {p : Addr} {lo hi : Nat} {rows : Value} {t : Nat} {f : Int} {k m b N : Nat} {L : List (Nat × Ent)} {slo shi l fr tq : Nat} {C B : Nat → Nat} {S Fr : Nat → Nat → Nat} {Q : Nat → Bool} {v : Value}
theorem update17_at (h : Co w c Fp FT p lo hi rows t f k m b N L) (hv : Cs slo shi w v (k + m) (fun _ => l) C B S) (hd : ∀ x, Pb17 k m B x → ¬ Fp x) (h1 : fr ≤ tq) (h2 : tq ≤ l) (hlb : l ≤ 140737488351232) (fv : Value) (hfv : Ll (Pb17 k m B) w fv k (fun i => if Q i then l else 0) Fr) (w1 : World) (u : Value) (hG : Gi w w1 u (ems Q k).length (emz Q k)) :
    Calls Tryz.prog 39 #[.pointer (some ⟨c, 0, none⟩), v, fv, u, .agg #[.int .i64 (fr : Int), .int .i64 (tq : Int)]] w1 fun e w' => e = .returned (.tuple #[]) ∧ Up17 w w' slo shi v f k m l fr tq C B Q S Fr := by
  have hb := hG.1
  refine (update17 (h.below hb) (hv.below hb) hd h1 h2 hlb fv u (hfv.ke (ke_below hb _)) (fun w' hk => hG.ke17 hk (fun x hx ⟨r, hr, e⟩ => ?_))).mono ?_
  · obtain ⟨r1, r2, -⟩ := hv.row (k + r) (by omega)
    have := hv.hw
    subst e
    omega
  · rintro e w' ⟨rfl, h1, h2⟩
    exact ⟨rfl, (ke_below hb _).trans h1, h2⟩
set_option maxHeartbeats 2000000 in
set_option maxRecDepth 100000 in
theorem Update17 (h : Co w c Fp FT p lo hi rows t f k m b N L) (hv : Cs slo shi w v (k + m) (fun _ => l) C B S) (hd : ∀ x, Pb17 k m B x → ¬ Fp x) (hl : 1 ≤ l) (hlb : l ≤ 140737488351232) (fv : Value) (hfv : Ll (Pb17 k m B) w fv k (fun i => if Q i then l else 0) Fr) :
    Calls Tryz.prog 23 #[.pointer (some ⟨c, 0, none⟩), v, fv] w fun e w' => e = .returned (.int .i64 0) ∧ Up17 w w' slo shi v f k m l 0 l C B Q S Fr := by
  have c1 := fresh17 h v fv l Q S Fr hv.lb hfv.lb hl
  have c2 : ∀ w1 u, Gi w w1 u (ems Q k).length (emz Q k) → Calls Tryz.prog 39 #[.pointer (some ⟨c, 0, none⟩), v, fv, u, .agg #[.int .i64 0, .int .i64 (l : Int)]] w1 fun e w' => e = .returned (.tuple #[]) ∧ Up17 w w' slo shi v f k m l 0 l C B Q S Fr := fun w1 u hG => update17_at h hv hd (Nat.zero_le _) (Nat.le_refl _) hlb fv hfv w1 u hG
  clear h hv hd hfv hl hlb
  go_enter Tryz.func23, Tryz.ntmps23
  go_wp2_with (first
    | (go_at_call 38; (with_reducible refine c1.mono ?_); rintro e w1 ⟨u, rfl, hG⟩; clear c1; have c3 := c2 w1 u hG; clear c2 hG)
    | (go_at_call 39; (with_reducible refine c3.mono ?_); rintro e w2 ⟨rfl, hb2⟩; clear c3; have HB : Hid _ := hb2; clear hb2))
  go_ret
  exact ⟨rfl, HB.out⟩
set_option maxHeartbeats 2000000 in
set_option maxRecDepth 100000 in
theorem Reconstruct17_new (h : Co w c Fp FT p lo hi rows t f k m b N L) {g cap : Nat} {P : Nat → Bool} {V : Nat → Value} (hS : Sh17 w v g (k + m) cap l P V S Fp) (hg : ¬ Fp g) (hl : 1 ≤ l) (hl2 : l ≤ 140737488351232)
    (h1 : 1 ≤ (ems P (k + m)).length) (h2 : (ems P (k + m)).length ≤ m) (hnew : ∀ b x, (b, x) ∈ L → x.key ≠ tk12 (emz P (k + m)) (ems P (k + m)).length) (hroom : L.length < 16) (hN : N ≤ 1000000) :
    Calls Tryz.prog 16 #[.pointer (some ⟨c, 0, none⟩), v] w fun e w' => e = .returned (.int .i64 0) ∧ Rs17 w w' c Fp v g l (k + m) f k m b N L P S := by
  have c1 := restore17_new h hS hg hl hl2 h1 h2 hnew hroom hN (k + m) (Nat.le_refl _)
  have hv := hS.eq
  subst hv
  obtain ⟨km, hkm⟩ : ∃ km, km = k + m := ⟨_, rfl⟩
  have e1 : ((k + m : Nat) : Int) = (km : Int) := by rw [hkm]
  rw [e1] at c1
  have HK : Hid (km = k + m) := hkm
  have e2 : (Value.slice (some ⟨g, 0, none⟩) (k + m) cap) = .slice (some ⟨g, 0, none⟩) km cap := by rw [hkm]
  rw [e2] at c1 ⊢
  clear h hS hg hl hl2 h1 h2 hnew hroom hN hkm e1 e2
  go_enter Tryz.func16, Tryz.ntmps16
  go_wp2_with (go_at_call 27; (with_reducible refine c1.mono ?_); rintro e w1 ⟨rfl, hR⟩; clear c1; have HB : Hid _ := hR; clear hR)
  go_ret
  exact ⟨rfl, HB.out⟩
end
end Go.Proofs.YtefolifecbhgoaaGreat
namespace Go.Proofs.YtefolifecbhgoaaGreat
open Go.RowKit Gf2
set_option linter.unusedVariables false


theorem into_val17 (n : Int) (lo W : Nat) (hW : 0 < W) (hb : lo + W ≤ 200000) : ∃ r : Nat, wrap64 ((lo : Int) + (wrap64 (n.tmod (W : Int) + (W : Int))).tmod (W : Int)) = (r : Int) ∧ lo ≤ r ∧ r < lo + W := by
  have hWp : (0 : Int) < (W : Int) := by omega
  have h1 := Int.tmod_lt_of_pos n hWp
  have h2 := Int.lt_tmod_of_pos n hWp
  generalize n.tmod (W : Int) = x at h1 h2
  have e1 : wrap64 (x + (W : Int)) = x + (W : Int) := by unfold wrap64; omega
  rw [e1]
  have h3 : 0 ≤ (x + (W : Int)).tmod (W : Int) := Int.tmod_nonneg _ (by omega)
  have h4 := Int.tmod_lt_of_pos (x + (W : Int)) hWp
  generalize (x + (W : Int)).tmod (W : Int) = y at h3 h4
  refine ⟨((lo : Int) + y).toNat, by unfold wrap64; omega, by omega, by omega⟩
def ino17 (n : Int) (lo hi : Nat) : Nat := (wrap64 ((lo : Int) + (wrap64 (n.tmod ((hi - lo + 1 : Nat) : Int) + ((hi - lo + 1 : Nat) : Int))).tmod ((hi - lo + 1 : Nat) : Int))).toNat
theorem ino17_in {n : Int} {lo hi : Nat} (h : lo ≤ hi) (hh : hi ≤ 100000) : lo ≤ ino17 n lo hi ∧ ino17 n lo hi ≤ hi := by
  obtain ⟨r, hr, hr1, hr2⟩ := into_val17 n lo (hi - lo + 1) (by omega) (by omega)
  unfold ino17
  rw [hr]
  omega
set_option maxHeartbeats 2000000 in
set_option maxRecDepth 100000 in
theorem into17 (n : Int) (lo hi : Nat) (w : World) (h : lo ≤ hi) (hh : hi ≤ 100000) :
    Calls Tryz.prog 15 #[.int .i64 n, .int .i64 (lo : Int), .int .i64 (hi : Int)] w fun e w' => e = .returned (.int .i64 (ino17 n lo hi : Nat)) ∧ w' = w := by
  obtain ⟨r, hr, hr1, hr2⟩ := into_val17 n lo (hi - lo + 1) (by omega) (by omega)
  have he : ino17 n lo hi = r := by unfold ino17; rw [hr]; omega
  rw [he]
  obtain ⟨d, hd⟩ : ∃ d : Nat, hi = lo + d := ⟨hi - lo, by omega⟩
  obtain ⟨W, hW⟩ : ∃ W : Nat, W = hi - lo + 1 := ⟨_, rfl⟩
  rw [← hW] at hr
  have HV : Hid (wrap64 ((lo : Int) + (wrap64 (n.tmod (W : Int) + (W : Int))).tmod (W : Int)) = (r : Int)) := hr
  have hWi : ((W : Int) == 0) = false := beq_eq_false_iff_ne.2 (by omega)
  have hW0 : ¬ W = 0 := by omega
  have hW3 : ¬ (W : Int) = 0 := by omega
  have W1 : wrap64 ((hi : Int) - (lo : Int)) = (d : Int) := by unfold wrap64; omega
  have W2 : wrap64 ((d : Int) + 1) = (W : Int) := by unfold wrap64; omega
  clear hd hW hr hr1 hr2 h hh he
  go_enter Tryz.func15, Tryz.ntmps15
  go_wp2
  go_ret
  exact ⟨by rw [HV.out]; rfl, rfl⟩
set_option maxHeartbeats 2000000 in
set_option maxRecDepth 100000 in
theorem equal17 (u v : Value) (n : Nat) (F : Nat → Nat) (w : World) (hu : Rb w u n F) (hv : Rb w v n F) (hn : n ≤ 140737488351232) :
    Calls Tryz.prog 26 #[u, v] w fun e w' => e = .returned (.bool true) ∧ ∃ q, w' = w.drewN q := by
  obtain ⟨-, -, a, cu, rfl, -, -, hu4⟩ := hu
  obtain ⟨-, -, b, cv, rfl, -, -, hv4⟩ := hv
  have HN : Hid (n ≤ 140737488351232) := hn
  have HU : Hid (0 < n → _) := hu4
  have HV : Hid (0 < n → _) := hv4
  clear hn hu4 hv4
  go_enter Tryz.func26, Tryz.ntmps26
  go_wp2
  go_loopw [5] (fun i wr => ∃ k q : Nat, k ≤ n ∧ i = .int .i64 k ∧ wr = w.drewN q) (fun i _ => n - (intOf i).toNat)
  case atStart => exact ⟨0, 0, Nat.zero_le _, rfl, rfl⟩
  case round =>
    obtain ⟨k, q, hk, rfl, hw⟩ := hrel
    by_cases hlt : k < n
    · obtain ⟨b1, o1, rfl, -, z1⟩ := HU.out (by omega)
      obtain ⟨b2, o2, rfl, -, z2⟩ := HV.out (by omega)
      have q5 : wr.cell? ⟨b1, o1 + k, none⟩ = some (.int .u8 (F k : Nat)) := by rw [hw]; exact z1 k hlt
      have q6 : wr.cell? ⟨b2, o2 + k, none⟩ = some (.int .u8 (F k : Nat)) := by rw [hw]; exact z2 k hlt
      have ib : ((k : Nat) : Int) < (n : Int) := by omega
      have W1 := wrap_succ8 (j := k) (by have := HN.out; unfold big; omega)
      have HX : Hid (k < n ∧ wr = w.drewN q) := ⟨hlt, hw⟩
      clear z1 z2 hlt hw hk
      generalize F k = A0 at q5 q6
      go_wp2
      go_quiet (fail)
      go_wp2
      go_roundw
      case rel => exact ⟨k + 1, q + nq, HX.out.1, by first | rfl | (rw [W1]; rfl), by rw [HX.out.2, World.drewN_drewN]⟩
      case measure => first | exact meas_lt8 HX.out.1 | (rw [W1]; exact meas_lt8 HX.out.1)
    · have hkn : k = n := by omega
      have HX : Hid (wr = w.drewN q) := hw
      have htl : ¬ ((k : Nat) : Int) < (n : Int) := by omega
      clear hw hkn hk hlt
      go_wp2
      go_ret
      exact ⟨rfl, q, HX.out⟩
end Go.Proofs.YtefolifecbhgoaaGreat
namespace Go.Proofs.YtefolifecbhgoaaGreat
open Go.RowKit Gf2
set_option linter.unusedVariables false


theorem drew17 {w wr : World} {q : Nat} (h : wr = w.drewN q) (q3 : Nat) : wr.drewN (1 + q3) = w.drewN (q + (1 + q3)) := by
  rw [h, World.drewN_drewN]
set_option maxHeartbeats 2000000 in
set_option maxRecDepth 100000 in
theorem alike17 (u v : Value) (n : Nat) (len : Nat → Nat) (S : Nat → Nat → Nat) (w : World) (hu : Lb w u n len S) (hv : Lb w v n len S) (hn : n ≤ 100000) (hl : ∀ i, i < n → len i ≤ 140737488351232) :
    Calls Tryz.prog 12 #[u, v] w fun e w' => e = .returned (.bool true) ∧ ∃ q, w' = w.drewN q := by
  have HU : Hid (Lb w u n len S) := hu
  have HV : Hid (Lb w v n len S) := hv
  obtain ⟨-, ⟨-, a, cu, rfl, -⟩, -⟩ := hu
  obtain ⟨-, ⟨-, b, cv, rfl, -⟩, -⟩ := hv
  have HN : Hid (n ≤ 100000 ∧ ∀ i, i < n → len i ≤ 140737488351232) := ⟨hn, hl⟩
  clear hn hl
  go_enter Tryz.func12, Tryz.ntmps12
  go_wp2
  go_loopw [5] (fun i wr => ∃ k q : Nat, k ≤ n ∧ i = .int .i64 k ∧ wr = w.drewN q) (fun i _ => n - (intOf i).toNat)
  case atStart => exact ⟨0, 0, Nat.zero_le _, rfl, rfl⟩
  case round =>
    obtain ⟨k, q, hk, rfl, hw⟩ := hrel
    by_cases hlt : k < n
    · have hU : Lb wr (.slice a n cu) n len S := by rw [hw]; exact HU.out.ke ((Ke.refl _ w).drewN q)
      have hV : Lb wr (.slice b n cv) n len S := by rw [hw]; exact HV.out.ke ((Ke.refl _ w).drewN q)
      obtain ⟨VU, ⟨-, a', c', e, -, -, h4⟩, hVU⟩ := hU
      cases e
      obtain ⟨b1, o1, rfl, -, z1⟩ := h4 (by omega)
      obtain ⟨VV, ⟨-, a', c', e, -, -, h4⟩, hVV⟩ := hV
      cases e
      obtain ⟨b2, o2, rfl, -, z2⟩ := h4 (by omega)
      have r1 := hVU k hlt
      have r2 := hVV k hlt
      obtain ⟨-, -, x1, y1, e1, -⟩ := id r1
      obtain ⟨-, -, x2, y2, e2, -⟩ := id r2
      have q1 : wr.drew.cell? ⟨b1, o1 + k, none⟩ = some (.slice x1 (len k) y1) := (z1 k hlt).trans (by rw [e1])
      have q2 : wr.drew.cell? ⟨b2, o2 + k, none⟩ = some (.slice x2 (len k) y2) := (z2 k hlt).trans (by rw [e2])
      rw [e1] at r1
      rw [e2] at r2
      have c1 := equal17 (.slice x1 (len k) y1) (.slice x2 (len k) y2) (len k) (S k) wr.drew r1.rb r2.rb (HN.out.2 k hlt)
      generalize len k = l1 at q1 q2 c1
      have ib : ((k : Nat) : Int) < (n : Int) := by omega
      have W1 := wrap_succ8 (j := k) (by have := HN.out.1; unfold big; omega)
      have HX : Hid (k < n ∧ wr = w.drewN q) := ⟨hlt, hw⟩
      clear z1 z2 hw hk h4 hVU hVV r1 r2 e1 e2
      go_wp2
      refine region_planI (fun w' => w'.cell? ⟨b1, o1 + k, none⟩ = some (.slice x1 l1 y1) ∧ w'.cell? ⟨b2, o2 + k, none⟩ = some (.slice x2 l1 y2)) [0, 1, 2, 3, 4, 5, 6, 7, 8, 9] [8, 1] 27 ⟨q1, q2⟩ (by kernel_rfl) (by kernel_rfl) (fun _ a d v _ h => by cases d <;> exact h) ?_
      simp only [atI, List.getElem?_cons_zero, List.getElem?_cons_succ]
      refine planH_step ?Ak0 rfl (fun w' hS => ?sk0) rfl (fun K hK => ?nk0)
      case sk0 =>
        obtain ⟨y0, y1⟩ := hS
        simp only [List.take_succ_cons, List.take_zero]
        repeat still_step
        exact rfl
      case nk0 =>
      go_simp
      go_wp2_with (go_at_call 26; (with_reducible refine c1.mono ?_); rintro e w2 ⟨rfl, q3, rfl⟩; clear c1)
      refine hK _ _ ⟨q1, q2⟩ ?_
      clear hK K
      refine planH_last ?Ak1 rfl (fun w' hS => ?sk1) rfl ?nk1
      case sk1 =>
        obtain ⟨y0, y1⟩ := hS
        simp only [List.take_succ_cons, List.take_zero]
        repeat still_step
        exact rfl
      case nk1 =>
      go_wp2
      go_roundw
      case rel => exact ⟨k + 1, q + (1 + q3), HX.out.1, by first | rfl | (rw [W1]; rfl), drew17 HX.out.2 q3⟩
      case measure => first | exact meas_lt8 HX.out.1 | (rw [W1]; exact meas_lt8 HX.out.1)
    · have hkn : k = n := by omega
      have HX : Hid (wr = w.drewN q) := hw
      have htl : ¬ ((k : Nat) : Int) < (n : Int) := by omega
      clear hw hkn hk hlt
      go_wp2
      go_ret
      exact ⟨rfl, q, HX.out⟩
end Go.Proofs.YtefolifecbhgoaaGreat
namespace Go.Proofs.YtefolifecbhgoaaGreat
open Go.RowKit Gf2
set_option linter.unusedVariables false


def lv17 (a b c d e f : Nat) (i j : Nat) : Nat := ([[a, b], [c, d], [e, f]].getD i []).getD j 0
def p0_17 (i : Nat) : Bool := i == 0
def p1_17 (i : Nat) : Bool := i == 1
def fr17 (i j : Nat) : Nat := ([[], [6, 1]].getD i []).getD j 0
set_option maxRecDepth 100000 in
theorem aw_enc17 : ∀ i, i < 3 → ∀ j, j < 2 → enc17 0 2 0 2 (lv17 5 0 7 1 0 0) i j = lv17 5 0 7 1 1 2 i j := by decide +kernel
set_option maxRecDepth 100000 in
theorem aw_ver17 : ∀ r, r < 1 → ∀ j, j < 2 → lv17 5 0 7 1 1 2 (2 + r) j = ks (par11 0 2 r) (lv17 5 0 7 1 1 2) 2 j := by decide +kernel
theorem aw_ems17 : ems p0_17 3 = [0] := by decide +kernel
theorem aw_ems17b : ems p1_17 2 = [1] := by decide +kernel
set_option maxRecDepth 100000 in
theorem aw_upd17 : ∀ i, i < 3 → ∀ j, j < 2 → upx17 0 2 0 2 p1_17 (lv17 5 0 7 1 1 2) fr17 1 i j = lv17 5 0 7 1 3 2 i j := by decide +kernel
set_option maxRecDepth 100000 in
theorem aw_giv17 : ∀ i, i < 3 → ∀ j, j < 2 → giv17 0 2 1 p0_17 (lv17 5 0 7 1 1 2) i j = lv17 5 0 7 1 1 2 i j := by decide +kernel
end Go.Proofs.YtefolifecbhgoaaGreat
namespace Go.Proofs.YtefolifecbhgoaaGreat
open Go.RowKit Gf2
set_option linter.unusedVariables false


def lw17 (w : World) (a b c d e f : Nat) : World := (w3_16 w a b c d e f).alloc (.cells #[.slice (some ⟨w.heap.size, 0, none⟩) 2 2, .slice (some ⟨w.heap.size + 1, 0, none⟩) 2 2, .slice (some ⟨w.heap.size + 2, 0, none⟩) 2 2] 27)
theorem lit17 (w : World) {a b c d e f : Nat} (h : a < 256 ∧ b < 256 ∧ c < 256 ∧ d < 256 ∧ e < 256 ∧ f < 256) :
    Cs w.heap.size (w.heap.size + 4) (lw17 w a b c d e f) (.slice (some ⟨w.heap.size + 3, 0, none⟩) 3 3) 3 (fun _ => 2) (fun _ => 2) (fun i => w.heap.size + i) (lv17 a b c d e f) ∧ Below w.heap.size w (lw17 w a b c d e f) ∧ (lw17 w a b c d e f).heap.size = w.heap.size + 4 ∧
      (lw17 w a b c d e f).rowIs (w.heap.size + 3) 27 3 (fun i => .slice (some ⟨w.heap.size + i, 0, none⟩) 2 2) := by
  generalize hW : lw17 w a b c d e f = W
  have hW := hW.symm
  unfold lw17 at hW
  have r0 := lit_rw [a, b] w (fun x h => by simp at h; omega) (by simp)
  have r1 := lit_rw [c, d] (w.alloc (.cells #[.int .u8 (a : Nat), .int .u8 (b : Nat)] 5)) (fun x h => by simp at h; omega) (by simp)
  have r2 := lit_rw [e, f] ((w.alloc (.cells #[.int .u8 (a : Nat), .int .u8 (b : Nat)] 5)).alloc (.cells #[.int .u8 (c : Nat), .int .u8 (d : Nat)] 5)) (fun x h => by simp at h; omega) (by simp)
  have z1 : (w.alloc (.cells #[.int .u8 (a : Nat), .int .u8 (b : Nat)] 5)).heap.size = w.heap.size + 1 := by simp
  have z2 : ((w.alloc (.cells #[.int .u8 (a : Nat), .int .u8 (b : Nat)] 5)).alloc (.cells #[.int .u8 (c : Nat), .int .u8 (d : Nat)] 5)).heap.size = w.heap.size + 2 := by simp
  rw [z1] at r1
  rw [z2] at r2
  have s0 : Rw W w.heap.size 2 (fun i => [a, b].getD i 0) := by rw [hW]; exact rw_alloc (rw_alloc (rw_alloc r0 _) _) _
  have s1 : Rw W (w.heap.size + 1) 2 (fun i => [c, d].getD i 0) := by rw [hW]; exact rw_alloc (rw_alloc r1 _) _
  have s2 : Rw W (w.heap.size + 2) 2 (fun i => [e, f].getD i 0) := by rw [hW]; exact rw_alloc r2 _
  have hh : W.heap[w.heap.size + 3]? = some (.cells #[.slice (some ⟨w.heap.size, 0, none⟩) 2 2, .slice (some ⟨w.heap.size + 1, 0, none⟩) 2 2, .slice (some ⟨w.heap.size + 2, 0, none⟩) 2 2] 27 (0, 0)) := by
    rw [hW, ← w3_size w a b c d e f]; exact heap_alloc_new _ _
  have hsz : W.heap.size = w.heap.size + 4 := by rw [hW]; simp [w3_size]
  have hrow : W.rowIs (w.heap.size + 3) 27 3 (fun i => .slice (some ⟨w.heap.size + i, 0, none⟩) 2 2) := ⟨_, hh, rfl, fun i hi => by
    have : i = 0 ∨ i = 1 ∨ i = 2 := by omega
    rcases this with rfl | rfl | rfl <;> rfl⟩
  refine ⟨⟨by unfold big; omega, by omega, ⟨_, _, rfl, by omega, by unfold big; omega, fun _ => ⟨w.heap.size + 3, rfl, by omega, by omega, fun i hi => by omega, fun i hi => hrow.cell hi⟩⟩, fun i hi => ?_, fun i j _ _ e => by omega⟩, ?_, hsz, hrow⟩
  · refine ⟨by omega, by omega, Nat.le_refl _, ?_⟩
    have : i = 0 ∨ i = 1 ∨ i = 2 := by omega
    rcases this with rfl | rfl | rfl
    · exact s0
    · exact s1
    · exact s2
  · rw [hW]
    unfold w3_16
    exact ((((Below.refl _ _).alloc (Nat.le_refl _) _).alloc (by simp) _).alloc (by simp; omega) _).alloc (by simp; omega) _
def lf17 (w : World) : World := ((w.alloc (.cells #[] 5)).alloc (.cells #[.int .u8 6, .int .u8 1] 5)).alloc (.cells #[.slice (some ⟨w.heap.size, 0, none⟩) 0 0, .slice (some ⟨w.heap.size + 1, 0, none⟩) 2 2] 27)
theorem litf17 (w : World) : Ll (fun x => x < w.heap.size) (lf17 w) (.slice (some ⟨w.heap.size + 2, 0, none⟩) 2 2) 2 (fun i => if p1_17 i then 2 else 0) fr17 ∧ Below w.heap.size w (lf17 w) := by
  have b0 : Below w.heap.size w (w.alloc (.cells #[] 5)) := (Below.refl _ _).alloc (Nat.le_refl _) _
  have z1 : (w.alloc (.cells #[] 5)).heap.size = w.heap.size + 1 := by simp
  have r1 := lit_rw [6, 1] (w.alloc (.cells #[] 5)) (by decide) (by decide)
  rw [z1] at r1
  have hsz : (lf17 w).heap.size = w.heap.size + 3 := by unfold lf17; simp
  have s1 : Rw (lf17 w) (w.heap.size + 1) 2 (fun i => [6, 1].getD i 0) := rw_alloc r1 _
  have z2 : ((w.alloc (.cells #[] 5)).alloc (.cells #[.int .u8 6, .int .u8 1] 5)).heap.size = w.heap.size + 2 := by simp
  have hh : (lf17 w).heap[w.heap.size + 2]? = some (.cells #[.slice (some ⟨w.heap.size, 0, none⟩) 0 0, .slice (some ⟨w.heap.size + 1, 0, none⟩) 2 2] 27 (0, 0)) := by
    unfold lf17
    rw [← z2]
    exact heap_alloc_new _ _
  refine ⟨⟨fun i => if i = 0 then .slice (some ⟨w.heap.size, 0, none⟩) 0 0 else .slice (some ⟨w.heap.size + 1, 0, none⟩) 2 2, ⟨by unfold big; omega, _, _, rfl, Nat.le_refl _, by unfold big; omega, fun _ => ⟨w.heap.size + 2, 0, rfl, ⟨by omega, fun e => by omega⟩, fun i hi => ?_⟩⟩, fun i hi => ?_⟩, ?_⟩
  · rw [cell_of_row _ _ _ _ _ _ hh]
    have : i = 0 ∨ i = 1 := by omega
    rcases this with rfl | rfl <;> rfl
  · have : i = 0 ∨ i = 1 := by omega
    rcases this with rfl | rfl
    · exact ⟨Nat.zero_le _, fun i hi => absurd hi (Nat.not_lt_zero _), _, _, rfl, Nat.le_refl _, Nat.zero_le _, fun h => absurd h (Nat.lt_irrefl _)⟩
    · exact s1.re (Nat.le_refl _) (Nat.le_refl _) (by unfold big; omega) (fun e => by omega)
  · exact ((b0.alloc (by omega) _).alloc (by omega) _)
end Go.Proofs.YtefolifecbhgoaaGreat
namespace Go.Proofs.YtefolifecbhgoaaGreat
open Go.RowKit Gf2
set_option linter.unusedVariables false


set_option maxHeartbeats 2000000 in
set_option maxRecDepth 100000 in
theorem awake_chain17 (w : World) : Calls Tryz.prog 19 #[.int .i64 0, .int .i64 0, .int .i64 2, .int .i64 1] w fun e w1 => ∃ c, e = .returned (.tuple #[.pointer (some ⟨c, 0, none⟩), .int .i64 0]) ∧
    Calls Tryz.prog 11 #[.pointer (some ⟨c, 0, none⟩), .slice (some ⟨w1.heap.size + 3, 0, none⟩) 3 3] (lw17 w1 5 0 7 1 0 0) fun e w2 => e = .returned (.int .i64 0) ∧
    Calls Tryz.prog 12 #[.slice (some ⟨w1.heap.size + 3, 0, none⟩) 3 3, .slice (some ⟨w2.heap.size + 3, 0, none⟩) 3 3] (lw17 w2 5 0 7 1 1 2) fun e w3 => e = .returned (.bool true) ∧
    Calls Tryz.prog 18 #[.pointer (some ⟨c, 0, none⟩), .slice (some ⟨w1.heap.size + 3, 0, none⟩) 3 3] w3 fun e w4 => e = .returned (.tuple #[.bool true, .int .i64 0]) ∧
    (w4.cell? ⟨w1.heap.size + 3, 0, none⟩ = some (.slice (some ⟨w1.heap.size + 0, 0, none⟩) 2 2) ∧ w4.frozen? ⟨w1.heap.size + 3, 0, none⟩ = false) ∧
    Calls Tryz.prog 16 #[.pointer (some ⟨c, 0, none⟩), .slice (some ⟨w1.heap.size + 3, 0, none⟩) 3 3] (w4.setCell ⟨w1.heap.size + 3, 0, none⟩ (.slice none 0 0)) fun e w5 => e = .returned (.int .i64 0) ∧
    Calls Tryz.prog 12 #[.slice (some ⟨w1.heap.size + 3, 0, none⟩) 3 3, .slice (some ⟨w5.heap.size + 3, 0, none⟩) 3 3] (lw17 w5 5 0 7 1 1 2) fun e w6 => e = .returned (.bool true) ∧
    Calls Tryz.prog 22 #[.pointer (some ⟨c, 0, none⟩)] w6 fun e w7 => e = .returned (.int .i64 1) ∧
    Calls Tryz.prog 23 #[.pointer (some ⟨c, 0, none⟩), .slice (some ⟨w1.heap.size + 3, 0, none⟩) 3 3, .slice (some ⟨w7.heap.size + 2, 0, none⟩) 2 2] (lf17 w7) fun e w8 => e = .returned (.int .i64 0) ∧
    Calls Tryz.prog 12 #[.slice (some ⟨w1.heap.size + 3, 0, none⟩) 3 3, .slice (some ⟨w8.heap.size + 3, 0, none⟩) 3 3] (lw17 w8 5 0 7 1 3 2) fun e w9 => e = .returned (.bool true) ∧ Below w.heap.size w w9 := by
  refine (new17 0 0 2 1 w (.inl rfl) (by decide) (by decide) (by decide) (by decide)).mono ?_
  rintro e w1 ⟨c, rfl, hN⟩
  refine ⟨c, rfl, ?_⟩
  obtain ⟨⟨FT, p, lo, hi, rows, t, hC⟩, b1⟩ := hN
  have hz1 := b1.size
  obtain ⟨L1, bl1, zl1, rl1⟩ := lit17 w1 (a := 5) (b := 0) (c := 7) (d := 1) (e := 0) (f := 0) (by decide)
  have hC1 := hC.below bl1
  have hd1 : ∀ x, Pb17 2 1 (fun i => w1.heap.size + i) x → ¬ (w.heap.size ≤ x ∧ x < w1.heap.size) := fun x ⟨r, hr, e⟩ h => by
    have e' : x = w1.heap.size + (2 + r) := e
    omega
  refine (Encode17 hC1 L1 hd1 (by decide)).mono ?_
  rintro e w2 ⟨rfl, hE⟩
  refine ⟨rfl, ?_⟩
  have cs2 : Cs w1.heap.size (w1.heap.size + 4) w2 (.slice (some ⟨w1.heap.size + 3, 0, none⟩) 3 3) 3 (fun _ => 2) (fun _ => 2) (fun i => w1.heap.size + i) (lv17 5 0 7 1 1 2) := hE.cs.congr (fun i hi j hj => aw_enc17 i hi j hj)
  have k2 := hE.ke
  have hC2 := hC1.ke k2 hd1
  have hz2 := k2.size
  obtain ⟨L2, bl2, zl2, rl2⟩ := lit17 w2 (a := 5) (b := 0) (c := 7) (d := 1) (e := 1) (f := 2) (by decide)
  refine (alike17 _ _ 3 (fun _ => 2) (lv17 5 0 7 1 1 2) _ (cs2.below bl2).lb L2.lb (by decide) (fun _ _ => by decide)).mono ?_
  rintro e w3 ⟨rfl, q, rfl⟩
  refine ⟨rfl, ?_⟩
  have b23 : Below w2.heap.size w2 ((lw17 w2 5 0 7 1 1 2).drewN q) := below_drewN bl2 q
  refine (Verify17 (hC2.below b23) (cs2.below b23).lb (by decide) (by decide)).mono ?_
  rintro e w4 ⟨bo, rfl, hV⟩
  have hbo : bo = true := hV.yes.2 (fun r hr j _ hj => aw_ver17 r hr j hj)
  subst hbo
  refine ⟨rfl, ?_⟩
  have b24 := b23.trans (hV.bel.mono b23.size)
  have cs4 := cs2.below b24
  have hC4 := hC2.below b24
  have hz4 := b24.size
  have rl4 : w4.rowIs (w1.heap.size + 3) 27 3 (fun i => .slice (some ⟨w1.heap.size + i, 0, none⟩) 2 2) :=
    (rl1.of_block (k2.2 _ (by omega) (fun ⟨r, hr, e⟩ => by have e' : w1.heap.size + 3 = w1.heap.size + (2 + r) := e; omega))).of_block (b24.block _ (by omega))
  refine ⟨⟨rl4.cell (by decide), rl4.frozen 0⟩, ?_⟩
  have k4 : Ke (fun x => x = w1.heap.size + 3) w4 (w4.setCell ⟨w1.heap.size + 3, 0, none⟩ (.slice none 0 0)) := ((Only.refl _ _).setCell _ _).kp.ke
  have rl4' := rl4.set 0 (.slice none 0 0)
  generalize hw4' : w4.setCell ⟨w1.heap.size + 3, 0, none⟩ (.slice none 0 0) = w4' at k4 rl4'
  have hz4' := k4.size
  have hC4' := hC4.ke k4 (fun x e h => by omega)
  have hrow4 : ∀ i, 0 < i → i < 3 → Rw w4' (w1.heap.size + i) 2 (lv17 5 0 7 1 1 2 i) := fun i h0 hi => k4.rw_ (cs4.row i hi).2.2.2 (by show ¬ w1.heap.size + i = w1.heap.size + 3; omega)
  have hS : Sh17 w4' (.slice (some ⟨w1.heap.size + 3, 0, none⟩) 3 3) (w1.heap.size + 3) (2 + 1) 3 2 p0_17 (fun i => if i = 0 then .slice none 0 0 else .slice (some ⟨w1.heap.size + i, 0, none⟩) 2 2) (lv17 5 0 7 1 1 2) (fun x => w.heap.size ≤ x ∧ x < w1.heap.size) := by
    refine ⟨rfl, by decide, by decide, ⟨_, rl4', fun i hi => rfl⟩, fun i hi => ?_⟩
    by_cases e : i = 0
    · rw [if_pos e, e]
      exact ⟨Nat.zero_le _, fun i hi => absurd hi (Nat.not_lt_zero _), _, _, rfl, Nat.le_refl _, Nat.zero_le _, fun h => absurd h (Nat.lt_irrefl _)⟩
    · have hp : p0_17 i = false := beq_eq_false_iff_ne.2 e
      rw [if_neg e, hp, if_neg (by decide)]
      have hr := hrow4 i (by omega) hi
      exact hr.re (Nat.le_refl _) (Nat.le_refl _) hr.1 (fun h => by omega)
  refine (Reconstruct17_new hC4' hS (fun h => by omega) (by decide) (by decide) (by rw [aw_ems17]; decide) (by rw [aw_ems17]; decide) (fun b x h => by cases h) (by decide) (by decide)).mono ?_
  rintro e w5 ⟨rfl, hR⟩
  refine ⟨rfl, ?_⟩
  have lb5 : Lb w5 (.slice (some ⟨w1.heap.size + 3, 0, none⟩) 3 3) 3 (fun _ => 2) (lv17 5 0 7 1 1 2) := (hR.lb.lens (n' := fun _ => 2) (fun i hi => if_neg (by omega))).congr (fun i hi j hj => aw_giv17 i hi j hj)
  obtain ⟨Fp', N', L', ⟨FT', p', lo', hi', rows', t', hC5⟩, hF', hN', hL', he', ⟨hgl, hgF'⟩, B0, F, cap, V, hv, hrow5, hF5, hV5, hB0, hr5⟩ := hR.co
  cases hv
  have k5 := hR.ke
  have hz5 := k5.size
  obtain ⟨L5, bl5, zl5, -⟩ := lit17 w5 (a := 5) (b := 0) (c := 7) (d := 1) (e := 1) (f := 2) (by decide)
  refine (alike17 _ _ 3 (fun _ => 2) (lv17 5 0 7 1 1 2) _ (lb5.below bl5) L5.lb (by decide) (fun _ _ => by decide)).mono ?_
  rintro e w6 ⟨rfl, q5, rfl⟩
  refine ⟨rfl, ?_⟩
  have b56 : Below w5.heap.size w5 ((lw17 w5 5 0 7 1 1 2).drewN q5) := below_drewN bl5 q5
  generalize (lw17 w5 5 0 7 1 1 2).drewN q5 = w6 at b56
  have hz6 := b56.size
  refine (Cached17 (hC5.below b56)).mono ?_
  rintro e w7 ⟨rfl, rfl⟩
  refine ⟨by rw [hL']; rfl, ?_⟩
  obtain ⟨lf, blf⟩ := litf17 w7
  have hz7 := blf.size
  have e1 : (ems p0_17 (2 + 1)).length = 1 := by rw [aw_ems17]; rfl
  rw [e1] at hF5 hr5
  have hVi : ∀ i, 0 < i → i < 3 → V i = .slice (some ⟨w1.heap.size + i, 0, none⟩) 2 2 := fun i h0 hi => by
    have h1 := hV5 i hi
    have h2 := rl4'.cell (i := i) hi
    rw [h2] at h1
    have h3 := Option.some.inj h1
    rw [← h3, if_neg (by omega)]
  have hcs5 : Cs 0 w5.heap.size w5 (.slice (some ⟨w1.heap.size + 3, 0, none⟩) (2 + 1) 3) (2 + 1) (fun _ => 2) (fun _ => 2) (fun i => if i = 0 then B0 else w1.heap.size + i) (lv17 5 0 7 1 1 2) := by
    obtain ⟨h50, -⟩ := hr5 0 (by decide)
    refine ⟨by decide, Nat.le_refl _, ⟨_, _, rfl, by decide, by decide, fun _ => ⟨w1.heap.size + 3, rfl, Nat.zero_le _, hgl, fun i hi => ?_, fun i hi => ?_⟩⟩, fun i hi => ?_, fun i j hi hj e => ?_⟩
    · show (if i = 0 then B0 else w1.heap.size + i) ≠ w1.heap.size + 3
      split <;> omega
    · rw [hrow5.cell hi, hF5 i hi]
      unfold lst17
      by_cases e : i = 0
      · subst e
        rw [if_pos ⟨rfl, by decide⟩, if_pos rfl]
        rfl
      · have hp : p0_17 i = false := beq_eq_false_iff_ne.2 e
        rw [if_neg (by rw [hp]; exact fun h => Bool.noConfusion h.1), if_neg e, hVi i (by omega) hi]
    · by_cases e : i = 0
      · subst e
        refine ⟨Nat.zero_le _, by show (if 0 = 0 then B0 else _) < _; rw [if_pos rfl]; exact h50.lt, Nat.le_refl _, ?_⟩
        show Rw w5 (if 0 = 0 then B0 else _) 2 _
        rw [if_pos rfl]
        exact h50.congr (fun j hj => aw_giv17 0 (by decide) j hj)
      · show 0 ≤ (if i = 0 then B0 else w1.heap.size + i) ∧ (if i = 0 then B0 else w1.heap.size + i) < _ ∧ 2 ≤ 2 ∧ Rw w5 (if i = 0 then B0 else w1.heap.size + i) 2 _
        rw [if_neg e]
        have hr := k5.rw_ (hrow4 i (by omega) hi) (fun h => by omega)
        exact ⟨Nat.zero_le _, hr.lt, Nat.le_refl _, hr⟩
    · have e' : (if i = 0 then B0 else w1.heap.size + i) = (if j = 0 then B0 else w1.heap.size + j) := e
      split at e' <;> split at e' <;> omega
  have b57 := b56.trans (blf.mono b56.size)
  have hd7 : ∀ x, Pb17 2 1 (fun i => if i = 0 then B0 else w1.heap.size + i) x → x = w1.heap.size + 2 := fun x ⟨r, hr, e⟩ => by
    have e' : x = (if 2 + r = 0 then B0 else w1.heap.size + (2 + r)) := e
    rw [if_neg (by omega)] at e'
    omega
  refine (Update17 (Q := p1_17) (Fr := fr17) (hC5.below b57) (hcs5.below b57) (fun x e h => ?_) (by decide) (by decide) _ (lf.mono (fun x _ e => by have := hd7 x e; omega))).mono ?_
  · have e2 := hd7 x e
    rcases hF' x h with h1 | h1 <;> omega
  rintro e w8 ⟨rfl, hU⟩
  refine ⟨rfl, ?_⟩
  have cs8 := hU.cs
  rw [show (ems p1_17 2).length = 1 by rw [aw_ems17b]; rfl] at cs8
  have cs8' := cs8.congr (fun i hi j hj => aw_upd17 i hi j hj)
  obtain ⟨L8, bl8, zl8, -⟩ := lit17 w8 (a := 5) (b := 0) (c := 7) (d := 1) (e := 3) (f := 2) (by decide)
  refine (alike17 _ _ 3 (fun _ => 2) (lv17 5 0 7 1 3 2) _ (cs8'.below bl8).lb L8.lb (by decide) (fun _ _ => by decide)).mono ?_
  rintro e w9 ⟨rfl, q8, rfl⟩
  refine ⟨rfl, ?_⟩
  have c1 : Below w.heap.size w (lw17 w1 5 0 7 1 0 0) := b1.trans (bl1.mono hz1)
  have c2 := c1.trans (k2.below (B := w.heap.size) (fun x ⟨r, hr, e⟩ => by have e' : x = w1.heap.size + (2 + r) := e; omega) c1.size)
  have c4 := c2.trans (b24.mono c2.size)
  have c5 := c4.trans (k4.below (B := w.heap.size) (fun x e => by omega) c4.size)
  have c6 := c5.trans (k5.below (B := w.heap.size) (fun x e => by rcases e with e | e <;> omega) c5.size)
  have c7 := c6.trans (b57.mono c6.size)
  have c8 := c7.trans (hU.ke.below (B := w.heap.size) (fun x e => by have := hd7 x e; omega) c7.size)
  exact below_drewN (c8.trans (bl8.mono c8.size)) q8
end Go.Proofs.YtefolifecbhgoaaGreat
namespace Go.Proofs.YtefolifecbhgoaaGreat
open Go.RowKit Gf2
set_option linter.unusedVariables false


set_option maxHeartbeats 8000000 in
set_option maxRecDepth 100000 in
theorem awake17 (w : World) : Calls Tryz.prog 8 #[] w fun e w' => e = .returned (.bool true) ∧ Below w.heap.size w w' := by
  have c1 := awake_chain17 w
  unfold lw17 w3_16 lf17 at c1
  go_enter Tryz.func8, Tryz.ntmps8
  go_wp2_with (first
    | (go_at_call 19; (refine c1.mono ?_); rintro e w1 ⟨c, rfl, c2⟩; clear c1)
    | (go_at_call 11; (refine c2.mono ?_); rintro e w2 ⟨rfl, c3⟩; clear c2)
    | (go_at_call 12; (refine c3.mono ?_); rintro e w3 ⟨rfl, c4⟩; clear c3)
    | (go_at_call 18; (refine c4.mono ?_); rintro e w4 ⟨rfl, ⟨q1, q2⟩, c5⟩; clear c4)
    | (go_at_call 16; (refine c5.mono ?_); rintro e w5 ⟨rfl, c6⟩; clear c5 q1 q2)
    | (go_at_call 12; (refine c6.mono ?_); rintro e w6 ⟨rfl, c7⟩; clear c6)
    | (go_at_call 22; (refine c7.mono ?_); rintro e w7 ⟨rfl, c8⟩; clear c7)
    | (go_at_call 23; (refine c8.mono ?_); rintro e w8 ⟨rfl, c9⟩; clear c8)
    | (go_at_call 12; (refine c9.mono ?_); rintro e w9 ⟨rfl, hb⟩; clear c9))
  go_ret
  exact ⟨rfl, hb⟩
end Go.Proofs.YtefolifecbhgoaaGreat
