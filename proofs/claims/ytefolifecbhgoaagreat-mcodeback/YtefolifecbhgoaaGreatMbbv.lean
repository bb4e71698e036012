import Derived.Test.YtefolifecbhgoaaGreatMbbt
import Derived.Test.YtefolifecbhgoaaGreatMbbu
namespace Go.Proofs.YtefolifecbhgoaaGreat
open Go.RowKit Gf2
set_option linter.unusedVariables false


structure Pj17 (w w' : World) (c : Nat) (Fp : Nat → Prop) (pl : Value) (f : Int) (k m b : Nat) (R : Nat → List (Nat × Ent) → Prop) (P : Nat → Bool) : Prop where
  ex : ∃ Fp' N' L' mv uv d, pl = .agg #[mv, uv, d, .slice none 0 0] ∧ Cd w' c Fp' f k m b N' L' ∧ (∀ x, Fp' x → Fp x ∨ w.heap.size ≤ x) ∧ R N' L' ∧
    Qi w' mv (ems P (k + m)).length (emz P (k + m)) ∧ Qi w' uv k (emz (fun i => !P i) (k + m)) ∧ Lb w' d (ems P (k + m)).length (fun _ => k) (dec17 f k m P)
  ke : Ke Fp w w'
theorem Pz17.pj {w w' : World} {c : Nat} {Fp : Nat → Prop} {pl : Value} {f : Int} {k m b : Nat} {R : Nat → List (Nat × Ent) → Prop} {P : Nat → Bool} (h : Pz17 w w' c Fp pl f k m b R P) : Pj17 w w' c Fp pl f k m b R P := by
  obtain ⟨Fp', N', L', gm, Cm, gu, Cu, dlo, dhi, d, DC, DB, h1, h2, h3, h4, -⟩ := h.ex
  exact ⟨⟨Fp', N', L', _, _, d, h1.eq, h2, h4, h3, h1.qm, h1.qu, h1.dr.lb⟩, h.ke⟩
structure Rj17 (w w' : World) (c : Nat) (Fp : Nat → Prop) (v : Value) (g l en : Nat) (f : Int) (k m b : Nat) (R : Nat → List (Nat × Ent) → Prop) (P : Nat → Bool) (S : Nat → Nat → Nat) : Prop where
  co : ∃ Fp' N' L', Cd w' c Fp' f k m b N' L' ∧ (∀ x, Fp' x → Fp x ∨ w.heap.size ≤ x) ∧ R N' L' ∧ (g < w'.heap.size ∧ ¬ Fp' g) ∧
    ∃ (B0 : Nat) (F : Nat → Value) (cap : Nat) (V : Nat → Value), v = .slice (some ⟨g, 0, none⟩) (k + m) cap ∧ w'.rowIs g 27 cap F ∧ (∀ i, i < k + m → F i = lst17 P V B0 l (ems P en).length i) ∧ (∀ i, i < k + m → w.cell? ⟨g, i, none⟩ = some (V i)) ∧ w.heap.size ≤ B0 ∧ ∀ r, r < (ems P en).length → Rw w' (B0 + r) l (fun j => ks (dec17 f k m P r) (fun a => S (eN (fun i => !P i) (k + m) a)) k j) ∧ ¬ Fp' (B0 + r)
  lb : Lb w' v (k + m) (fun i => if P i = true ∧ en ≤ i then 0 else l) (giv17 f k m P S)
  ke : Ke (fun x => Fp x ∨ x = g) w w'
section
variable {w : World} {c : Nat} {Fp FT : Nat → Prop} {p : Addr} {lo hi : Nat} {rows : Value} {t : Nat} {f : Int} {k m b N : Nat} {L : List (Nat × Ent)}
set_option maxHeartbeats 4000000 in
set_option maxRecDepth 100000 in
theorem restore17_any (R : Nat → List (Nat × Ent) → Prop) (h : Co w c Fp FT p lo hi rows t f k m b N L) {v : Value} {g cap l : Nat} {P : Nat → Bool} {V : Nat → Value} {S : Nat → Nat → Nat} (hS : Sh17 w v g (k + m) cap l P V S Fp) (hg : ¬ Fp g) (hl : 1 ≤ l) (hl2 : l ≤ 140737488351232)
    (h1 : 1 ≤ (ems P (k + m)).length) (h2 : (ems P (k + m)).length ≤ m) 
    (hplan : ∀ w1 u, Below w.heap.size w w1 → (∀ w', Ke Fp w1 w' → Qi w' u (ems P (k + m)).length (emz P (k + m))) → Calls Tryz.prog 43 #[.pointer (some ⟨c, 0, none⟩), u] w1 fun e w' => ∃ pl, e = .returned (.tuple #[pl, .int .i64 0]) ∧ Pz17 w1 w' c Fp pl f k m b R P) (en : Nat) (hen : en ≤ k + m) :
    Calls Tryz.prog 27 #[.pointer (some ⟨c, 0, none⟩), v, .int .i64 (en : Int)] w fun e w' => e = .returned (.int .i64 0) ∧ Rj17 w w' c Fp v g l en f k m b R P S := by
  have hs := h.hs
  obtain ⟨r1, r2, r3, r4⟩ := ple17 h.hf h.hk h.hm h.hs hl (n := fun i => if P i then 0 else l) (fun i _ => rfl) h2
  have c1 := partial16 f k m v (k + m) (fun i => if P i then 0 else l) w.drew ⟨by omega, by omega⟩ (hS.lb.ln (by omega))
  rw [r2, r3, r4] at c1
  have ez : emz (emp (fun i => if P i then 0 else l)) (k + m) = emz P (k + m) := by
    funext i
    unfold emz
    rw [r1]
  rw [ez] at c1
  clear ez r1 r2 r3 r4
  have HO : Hid (Co w c Fp FT p lo hi rows t f k m b N L ∧ Sh17 w v g (k + m) cap l P V S Fp ∧ ¬ Fp g ∧ (1 ≤ l ∧ l ≤ 140737488351232) ∧ (1 ≤ (ems P (k + m)).length ∧ (ems P (k + m)).length ≤ m) ∧ en ≤ k + m) := ⟨h, hS, hg, ⟨hl, hl2⟩, ⟨h1, h2⟩, hen⟩
  have HA : Hid (∀ w1 u, Ps16 w.drew w1 u (ems P (k + m)).length (emz P (k + m)) → (w1.cell? ⟨c, 0, none⟩ = some (.int .i64 f) ∧ w1.cell? ⟨c, 1, none⟩ = some (.int .i64 (k : Int)) ∧ w1.cell? ⟨c, 2, none⟩ = some (.int .i64 (m : Int))) ∧ ∃ ua uc, u = .slice (some ⟨ua, 0, none⟩) (ems P (k + m)).length uc ∧
      (Qi w1 (.slice (some ⟨ua, 0, none⟩) (ems P (k + m)).length uc) (ems P (k + m)).length (emz P (k + m)) ∧ w.heap.size ≤ ua ∧ Below w.heap.size w w1) ∧
      Calls Tryz.prog 43 #[.pointer (some ⟨c, 0, none⟩), .slice (some ⟨ua, 0, none⟩) (ems P (k + m)).length uc] w1 fun e w' => ∃ pl, e = .returned (.tuple #[pl, .int .i64 0]) ∧ Pj17 w1 w' c Fp pl f k m b R P) := fun w1 u hA => by
    have hb : Below w.heap.size w w1 := undraw17 hA.bel
    have h' := h.below hb
    refine ⟨⟨h'.c0, h'.c1, h'.c2⟩, ?_⟩
    have hq := hA.gi.rb
    rcases hA.gi.2 with ⟨e, -⟩ | ⟨ua, C, F, rfl, a2, a3, -⟩
    · omega
    · exact ⟨ua, C, rfl, ⟨hq, a3, hb⟩, (hplan w1 _ hb (fun w' hk => hq.ke17 hk (fun e => by have := h.lt _ e; have a3' : w.heap.size ≤ ua := a3; omega))).mono (fun e w' ⟨pl, e1, e2⟩ => ⟨pl, e1, e2.pj⟩)⟩
  have q0 : w.drew.cell? ⟨c, 0, none⟩ = _ := h.c0
  have q1 : w.drew.cell? ⟨c, 1, none⟩ = _ := h.c1
  have q2 : w.drew.cell? ⟨c, 2, none⟩ = _ := h.c2
  have hv := hS.eq
  subst hv
  have D1 : (((ems P (k + m)).length : Int) == 0) = false := beq_eq_false_iff_ne.2 (by omega)
  obtain ⟨n, hn⟩ : ∃ n, n = (ems P (k + m)).length := ⟨_, rfl⟩
  rw [← hn] at c1 HA D1
  have Hn : Hid (n = (ems P (k + m)).length) := hn
  clear h hS hg hl hl2 h1 h2 hplan hen hs hn
  go_enter Tryz.func27, Tryz.ntmps27
  go_wp2
  refine region_planI (fun w' => w'.cell? ⟨c, 0, none⟩ = some (.int .i64 f) ∧ w'.cell? ⟨c, 1, none⟩ = some (.int .i64 (k : Int)) ∧ w'.cell? ⟨c, 2, none⟩ = some (.int .i64 (m : Int))) [0, 1, 2, 3, 4, 5, 6, 7, 8, 9, 10, 11, 12, 13, 14, 15, 16, 17, 18, 19, 20] [13, 7] 102 ⟨q0, q1, q2⟩ (by kernel_rfl) (by kernel_rfl) (fun _ a d v _ h => by cases d <;> exact h) ?_
  simp only [atI, List.getElem?_cons_zero, List.getElem?_cons_succ]
  refine planH_step ?Aa0 rfl (fun w' hS => ?sa0) rfl (fun K hK => ?na0)
  case sa0 =>
    obtain ⟨y0, y1, y2⟩ := hS
    simp only [List.take_succ_cons, List.take_zero]
    repeat still_step
    exact rfl
  case na0 =>
  go_simp
  go_wp2_with (go_at_call 42; (with_reducible refine c1.mono ?_); rintro e w1 ⟨u, rfl, hA⟩; clear c1; obtain ⟨⟨q0, q1, q2⟩, ua, uc, rfl, hU, c2⟩ := HA.out w1 u hA)
  refine hK _ _ ⟨q0, q1, q2⟩ ?_
  clear hK K
  refine planH_last ?Aa1 rfl (fun w' hS => ?sa1) rfl ?na1
  case sa1 =>
    obtain ⟨y0, y1, y2⟩ := hS
    simp only [List.take_succ_cons, List.take_zero]
    repeat still_step
    exact rfl
  case na1 =>
  clear q0 q1 q2 HA hA
  have HU : Hid _ := hU
  clear hU
  obtain ⟨Z, hZ⟩ : ∃ Z : Value, Z = .slice none 0 0 := ⟨_, rfl⟩
  have HB : Hid (∀ w2 pl, Pj17 w1 w2 c Fp pl f k m b R P → ∃ ma mn mc va vc da dc, pl = .agg #[.slice ma mn mc, .slice va k vc, .slice da n dc, .slice none 0 0] ∧ Qi w2 (.slice va k vc) k (emz (fun i => !P i) (k + m)) ∧ Lb w2 (.slice da n dc) n (fun _ => k) (dec17 f k m P)) := fun w2 pl hP => by
    obtain ⟨Fp2, N2, L2, mv, uv, d, hpl, hC2, hF2, hR2, hm2, hu2, hd2⟩ := hP.ex
    obtain ⟨-, -, ma, mc, e1, -⟩ := id hm2
    obtain ⟨-, -, va, vc, e2, -⟩ := id hu2
    obtain ⟨-, ⟨-, da, dc, e3, -⟩, -⟩ := id hd2
    subst e1 e2 e3
    exact ⟨_, _, _, va, vc, da, dc, by rw [hpl, Hn.out], hu2, by rw [Hn.out]; exact hd2⟩
  have HC : Hid (∀ w2 pl, Pj17 w1 w2 c Fp pl f k m b R P → ∀ w3, Below w2.heap.size w2 w3 → Calls Tryz.prog 44 #[.slice (some ⟨ua, 0, none⟩) n uc, .int .i64 (en : Int)] w3 fun e w' => ∃ bo : Bool, e = .returned (.tuple #[.int .i64 ((ems P en).length : Nat), .bool bo]) ∧ w' = w3) := fun w2 pl hP w3 hb3 => by
    have hlt := HO.out.1.lt
    have hnF : ¬ Fp ua := fun e => by have := hlt _ e; have := HU.out.2.1; omega
    have hq := (HU.out.1.ke17 hP.ke hnF).below hb3
    refine (bsearch17 _ n en (eN P (k + m)) w3 hq (by have := Hn.out; have := HO.out.1.hs; have := HO.out.2.2.2.2.1.2; omega) (fun i j a b => eN_lt a (by rw [← Hn.out]; exact b))).mono ?_
    rintro e w' ⟨i, bo, rfl, hB, rfl⟩
    rw [Hn.out] at hB
    have := hB.ems HO.out.2.2.2.2.2
    subst this
    exact ⟨bo, rfl, rfl⟩
  obtain ⟨W, hW⟩ : ∃ W, W = (ems P en).length := ⟨_, rfl⟩
  rw [← hW] at HC
  have HWl : Hid (W = (ems P en).length ∧ W ≤ n ∧ n ≤ 256 ∧ l ≤ 140737488351232) := ⟨hW, by rw [hW, Hn.out]; exact ems_up HO.out.2.2.2.2.2, by have := Hn.out; have := HO.out.1.hs; have := HO.out.2.2.2.2.1.2; omega, HO.out.2.2.2.1.2⟩
  clear hW
  have hmk := make_rows W (by have := HWl.out; omega)
  go_wp2_with (first
    | (go_at_call 43; (with_reducible refine c2.mono ?_); rintro e w2 ⟨pl, rfl, hP⟩; clear c2; obtain ⟨ma, mn, mc, va, vc, da, dc, rfl, hB⟩ := HB.out w2 _ hP;
       obtain ⟨w3, hw3⟩ : ∃ w3, w3 = w2.alloc (.cells #[.slice ma mn mc, .slice va k vc, .slice da n dc, .slice none 0 0] 89) := ⟨_, rfl⟩;
       have HW3 : Hid (w2.alloc (.cells #[.slice ma mn mc, .slice va k vc, .slice da n dc, .slice none 0 0] 89) = w3) := hw3.symm;
       have H3 : Hid (Below w2.heap.size w2 w3 ∧ w3.heap[w2.heap.size]? = some (.cells #[.slice ma mn mc, .slice va k vc, .slice da n dc, .slice none 0 0] 89 (0, 0)) ∧ w3.heap.size = w2.heap.size + 1) := plan_new17 hw3;
       have c3 := HC.out w2 _ hP w3 H3.out.1; have HP : Hid _ := hP; have HQ : Hid _ := hB; clear hP hB HB HC hw3)
    | (go_at_call 44; rw [HW3.out]; (with_reducible refine c3.mono ?_); rintro e w9 ⟨bo, rfl, hw9⟩; have hw9 := hw9.symm; subst hw9; clear c3 HW3))
  clear hmk
  go_loopw [62] (fun i wr => ∃ r : Nat, r ≤ W ∧ i = .int .i64 r ∧ Zr w3 wr W l r) (fun i _ => W - (intOf i).toNat)
  case atStart => exact ⟨0, Nat.zero_le _, rfl, Zr.start w3 W l⟩
  case round =>
    obtain ⟨r, hr, rfl, hz⟩ := hrel
    by_cases hlt : r < W
    · have ha : (wr.alloc (.cells (madeCells #[.int .u8 0] l) 5)).rowIs w3.heap.size 27 W (fun i => if i < r then .slice (some ⟨w3.heap.size + 1 + i, 0, none⟩) l l else .slice none 0 0) := hz.list.of_block (Below.heap_alloc wr _ _ (by have := hz.sz; omega))
      have q1 := ha.cell hlt
      rw [if_neg (Nat.lt_irrefl _)] at q1
      have q2 := ha.frozen r
      clear ha
      have ib : ((r : Nat) : Int) < (W : Int) := by omega
      have W1 := wrap_succ8 (j := r) (by have := HWl.out; unfold big; omega)
      have hm8 := make_u8 l (by have := HWl.out; omega)
      have HZ : Hid (Zr w3 ((wr.alloc (.cells (madeCells #[.int .u8 0] l) 5)).setCell ⟨w3.heap.size, r, none⟩ (.slice (some ⟨wr.heap.size, 0, none⟩) l l)) W l (r + 1)) := hz.step (by have := HWl.out; omega) hlt
      clear hz
      go_wp2
      go_roundw
      case rel => exact ⟨r + 1, hlt, by first | rfl | (rw [W1]; rfl), HZ.out⟩
      case measure => first | exact meas_lt8 hlt | (rw [W1]; exact meas_lt8 hlt)
    · have hkn : r = W := by omega
      subst hkn
      have HZ : Hid (Zr w3 wr r l r) := hz
      clear hz hr hlt
      go_wp2
      generalize wr = w5 at HZ ⊢
      have hQ2 := HQ.out
      obtain ⟨db, dof, hda⟩ : ∃ db dof, da = some ⟨db, dof, none⟩ := by
        obtain ⟨V', ⟨-, a, cc, e, -, -, h4⟩, -⟩ := hQ2.2
        cases e
        obtain ⟨b', o', e, -⟩ := h4 (by have := Hn.out; have := HO.out.2.2.2.2.1.1; omega)
        exact ⟨b', o', e⟩
      subst hda
      have hndc : n ≤ dc := by
        obtain ⟨V', ⟨-, a, cc, e, h5, -⟩, -⟩ := hQ2.2
        cases e
        exact h5
      obtain ⟨Fp2, N2, L2, mv0, uv0, d0, -, hC2, hF2, hR2, -, -, -⟩ := HP.out.ex
      obtain ⟨FT2, p2, lo2, hi2, rows2, t2, hCo2⟩ := hC2
      have hS := HO.out.2.1
      have hkw := HO.out.1.hk
      have b01 := HU.out.2.2
      have k12 := HP.out.ke
      have b23 := H3.out.1
      have b35 := HZ.out.bel
      have z3 := H3.out.2.2
      have z5 := HZ.out.sz
      have b25 : Below w2.heap.size w2 w5 := b23.trans (b35.mono (by omega))
      have hS2 : Sh17 w2 (.slice (some ⟨g, 0, none⟩) (k + m) cap) g (k + m) cap l P V S Fp := (hS.below b01).ke k12 HO.out.2.2.1
      have hS5 := hS2.below b25
      have hCo5 := hCo2.below b25
      have p5 : w5.heap[w2.heap.size]? = some (.cells #[.slice ma mn mc, .slice va k vc, .slice (some ⟨db, dof, none⟩) n dc, .slice none 0 0] 89 (0, 0)) := (b35.block _ (by omega)).trans H3.out.2.1
      have gpl : w2.heap.size < w5.heap.size := by omega
      have hgw : g < w.heap.size := by obtain ⟨F, hF, -⟩ := hS.row; exact hF.lt
      have hsz1 : w.heap.size ≤ w1.heap.size := b01.size
      have hsz2 : w1.heap.size ≤ w2.heap.size := k12.size
      have hbo := ems_both P (k + m)
      have hnm := HO.out.2.2.2.2.1.2
      have hsm := HO.out.1.hs
      have hel : k ≤ (ems (fun i => !P i) (k + m)).length := by omega
      have c4 := picked17 (.slice (some ⟨g, 0, none⟩) (k + m) cap) (.slice va k vc) (k + m) k V (eN (fun i => !P i) (k + m)) w5.drew hS5.lv hS5.form (hQ2.1.below b25.drew) (fun i hi => (eN_mem (by omega)).1) (by omega)
      have q0 : w5.drew.cell? ⟨c, 3, none⟩ = _ := hCo5.c3
      have q1 : w5.drew.cell? ⟨w2.heap.size, 2, none⟩ = some (.slice (some ⟨db, dof, none⟩) n dc) := by rw [cell_of_row w5.drew _ 2 _ _ _ p5]; rfl
      have q2 : w5.drew.cell? ⟨w2.heap.size, 1, none⟩ = some (.slice va k vc) := by rw [cell_of_row w5.drew _ 1 _ _ _ p5]; rfl
      have s1 := headL17 db dof n dc r (by have := HWl.out; omega)
      have HPl : Hid (w5.heap[w2.heap.size]? = some (.cells #[.slice ma mn mc, .slice va k vc, .slice (some ⟨db, dof, none⟩) n dc, .slice none 0 0] 89 (0, 0)) ∧ w2.heap.size < w5.heap.size) := ⟨p5, gpl⟩
      have HE : Hid (∀ w6 sx, Gp w5.drew.heap.size w6 sx k (fun a => V (eN (fun i => !P i) (k + m) a)) → Below w5.drew.heap.size w5.drew w6 → (w6.cell? ⟨c, 3, none⟩ = some (.pointer (some p2)) ∧ w6.cell? ⟨w2.heap.size, 2, none⟩ = some (.slice (some ⟨db, dof, none⟩) n dc) ∧ w6.cell? ⟨w2.heap.size, 1, none⟩ = some (.slice va k vc)) ∧ ∃ sxa sxn sxc, sx = .slice sxa sxn sxc ∧
          Calls Tryz.prog 41 #[.pointer (some p2), .slice (some ⟨db, dof, none⟩) r dc, .slice sxa sxn sxc, .slice (some ⟨w3.heap.size, 0, none⟩) r r, .agg #[.int .i64 0, .int .i64 (l : Int)]] w6 fun e w' => e = .returned (.int .i64 0) ∧ (Below w5.heap.size w5 w6 ∧ Ke (Eb r (fun a => w3.heap.size + 1 + a)) w6 w' ∧ ∀ a, a < r → Rw w' (w3.heap.size + 1 + a) l (fun j => ks (dec17 f k m P a) (fun a => S (eN (fun i => !P i) (k + m) a)) k j))) := fun w6 sx hG hb => by
        have b56 : Below w5.heap.size w5 w6 := undraw17 hb
        have b36 : Below w3.heap.size w3 w6 := b35.trans (b56.mono (by omega))
        have hCo6 := hCo5.below b56
        have p6 := (b56.block _ gpl).trans p5
        refine ⟨⟨hCo6.c3, by rw [cell_of_row _ _ 2 _ _ _ p6]; rfl, by rw [cell_of_row _ _ 1 _ _ _ p6]; rfl⟩, ?_⟩
        obtain ⟨sxa, sxc, rfl⟩ := hG.form
        refine ⟨sxa, _, sxc, rfl, ?_⟩
        have hCs := (HZ.out.cs (by have := HWl.out; unfold big; omega) (by have := HWl.out; unfold big; omega)).below b56
        have inj : ∀ i j, i < r → j < r → w3.heap.size + 1 + i = w3.heap.size + 1 + j → i = j := fun i j _ _ e => by omega
        have hE3 : ∀ x, Eb r (fun a => w3.heap.size + 1 + a) x → w3.heap.size ≤ x ∧ x < w5.heap.size := fun x ⟨a, ha, e⟩ => by
          have e' : x = w3.heap.size + 1 + a := e
          omega
        have hrow : Ll (Eb r (fun a => w3.heap.size + 1 + a)) w6 (.slice (some ⟨db, dof, none⟩) r dc) r (fun _ => k) (dec17 f k m P) := by
          have h3 : Ll (fun x => w3.heap.size ≤ x) w3 (.slice (some ⟨db, dof, none⟩) n dc) n (fun _ => k) (dec17 f k m P) := (hQ2.2.below b23).ll (fun x hx e => by omega)
          have h6 := (h3.ke (ke_below b36 _)).mono (E' := Eb r (fun a => w3.heap.size + 1 + a)) (fun x _ e => (hE3 x e).1)
          obtain ⟨d, hd⟩ : ∃ d, n = r + d := ⟨n - r, by have := HWl.out; omega⟩
          rw [hd] at h6
          exact h6.head17 (by have := Hn.out; have := HO.out.2.2.2.2.1.1; omega)
        have hsrc : Ll (Eb r (fun a => w3.heap.size + 1 + a)) w6 (.slice sxa k sxc) k (fun _ => l) (fun a => S (eN (fun i => !P i) (k + m) a)) := by
          refine ⟨_, hG.lv (fun x e => (hE3 x e).2), fun a ha => ?_⟩
          obtain ⟨a1, a2⟩ := eN_mem (P := fun i => !P i) (n := k + m) (i := a) (by omega)
          have hp : P (eN (fun i => !P i) (k + m) a) = false := by simpa using a2
          have hre := (hS2.below b23).rows _ a1
          rw [hp, if_neg (by decide)] at hre
          exact ((Rb.re (E := fun x => w3.heap.size ≤ x) hre.rb (fun x hx e => by omega)).ke (ke_below b36 _)).mono (fun x _ e => (hE3 x e).1)
        have hdl := hCs.dl (L := l) (fun i hi => rfl)
        refine (kapply_ok p2 b lo2 hi2 r k l 0 l (fun a => w3.heap.size + 1 + a) (fun _ => 0) _ (dec17 f k m P) _ _ _ _ _ w6 hCo6.ks (by have := HWl.out; omega) (by omega) (fun a ha => .inr ?_) hrow hsrc hdl (Nat.zero_le _) ?_).mono ?_
        · have := hCo2.ks.hi
          show hi2 ≤ w3.heap.size + 1 + a
          omega
        · unfold len9
          rw [if_pos (by omega)]
          exact Nat.le_refl _
        · rintro e w' ⟨rfl, hke, hr'⟩
          refine ⟨rfl, b56, hke, fun a ha => ?_⟩
          have q : Rw w' (w3.heap.size + 1 + a) l _ := hr' a ha
          refine q.congr (fun j hj => ?_)
          exact (cs_apb (B := fun a => w3.heap.size + 1 + a) (S := fun _ _ => 0) inj 0 l (fun r j => ks (dec17 f k m P r) (fun a => S (eN (fun i => !P i) (k + m) a)) k j) ha).trans (if_pos ⟨Nat.zero_le _, hj⟩)
      have HI : Hid (∀ w6 w7, (Below w5.heap.size w5 w6 ∧ Ke (Eb r (fun a => w3.heap.size + 1 + a)) w6 w7 ∧ ∀ a, a < r → Rw w7 (w3.heap.size + 1 + a) l (fun j => ks (dec17 f k m P a) (fun a => S (eN (fun i => !P i) (k + m) a)) k j)) → (w7.cell? ⟨c, 3, none⟩ = some (.pointer (some p2)) ∧ w7.cell? ⟨w2.heap.size, 2, none⟩ = some (.slice (some ⟨db, dof, none⟩) n dc) ∧ w7.cell? ⟨w2.heap.size, 1, none⟩ = some (.slice va k vc)) ∧
          Co w7 c Fp2 FT2 p2 lo2 hi2 rows2 t2 f k m b N2 L2 ∧ (∃ F, w7.rowIs g 27 cap F ∧ ∀ i, i < k + m → F i = V i) ∧ (∀ i, i < k + m → Re (fun x => x = g) w7 (V i) (if P i then 0 else l) (S i)) ∧ Qi w7 (.slice (some ⟨ua, 0, none⟩) n uc) n (emz P (k + m)) ∧ (∀ a, a < r → w7.cell? ⟨w3.heap.size, a, none⟩ = some (.slice (some ⟨w3.heap.size + 1 + a, 0, none⟩) l l)) ∧ w3.heap.size < w7.heap.size ∧
          (∀ a, a < r → Rw w7 (w3.heap.size + 1 + a) l (fun j => ks (dec17 f k m P a) (fun a => S (eN (fun i => !P i) (k + m) a)) k j)) ∧ Ke Fp w w7) := fun w6 w7 ⟨b56, k67, hr7⟩ => by
        have hE3 : ∀ x, Eb r (fun a => w3.heap.size + 1 + a) x → w3.heap.size + 1 ≤ x := fun x ⟨a, ha, e⟩ => by
          have e' : x = w3.heap.size + 1 + a := e
          omega
        have b26 : Below w2.heap.size w2 w6 := b25.trans (b56.mono (by omega))
        have hz6 := b56.size
        have hCo7 := (hCo2.below b26).ke k67 (fun x e hx => by have := hE3 x e; have := hCo2.lt x hx; omega)
        have p7 := (k67.2 _ (by omega) (fun e => by have := hE3 _ e; omega)).trans ((b56.block _ gpl).trans p5)
        have hnF : ¬ Fp ua := fun e => by have := HO.out.1.lt _ e; have := HU.out.2.1; omega
        have hua : ua < w1.heap.size := by
          obtain ⟨-, -, a, cp, e, -, -, h4⟩ := HU.out.1
          cases e
          obtain ⟨b', o', e, hl', -⟩ := h4 (by have := Hn.out; have := HO.out.2.2.2.2.1.1; omega)
          cases e
          exact hl'
        refine ⟨⟨hCo7.c3, by rw [cell_of_row _ _ 2 _ _ _ p7]; rfl, by rw [cell_of_row _ _ 1 _ _ _ p7]; rfl⟩, hCo7, ?_, fun i hi => ?_, ?_, fun a ha => ?_, ?_, hr7, ?_⟩
        · obtain ⟨F, hF, hV⟩ := (hS2.below b26).row
          exact ⟨F, hF.of_block (k67.2 g (by omega) (fun e => by have := hE3 _ e; omega)), hV⟩
        · have hre := hS2.rows i hi
          have h2 : Re (fun x => x = g ∨ w2.heap.size ≤ x) w2 (V i) (if P i then 0 else l) (S i) := by
            refine hre.mono (fun x hx e => ?_)
            rcases e with e | e
            · exact .inl e
            · omega
          refine ((h2.ke (ke_below b26 _)).ke (k67.mono (fun x _ e => .inr (by have := hE3 x e; omega)))).mono (fun x _ e => .inl e)
        · exact ((HU.out.1.ke17 k12 hnF).below b26).ke17 k67 (fun e => by have := hE3 _ e; omega)
        · have hl5 := HZ.out.list.cell ha
          rw [if_pos ha] at hl5
          have l5 := HZ.out.list.lt
          have c6 : w6.cell? ⟨w3.heap.size, a, none⟩ = w5.cell? ⟨w3.heap.size, a, none⟩ := (ke_below b56 (fun _ => False)).cell l5 (fun e => e)
          rw [k67.cell (by omega) (fun e => by have := hE3 _ e; omega), c6, hl5]
        · have := k67.size
          have := HZ.out.list.lt
          omega
        · have k02 : Ke Fp w w2 := (ke_below b01 _).trans k12
          have k06 : Ke Fp w w6 := k02.trans (ke_below b26 _)
          refine ⟨k06.1.trans k67.1, fun x hx hn => ?_⟩
          rw [k67.2 x (Nat.lt_of_lt_of_le hx k06.size) (fun e => by have := hE3 _ e; omega), k06.2 x hx hn]
      have HW2 : Hid (∀ x, Fp2 x → Fp x ∨ w1.heap.size ≤ x) := hF2
      have HFl : Hid (∀ x, Fp2 x → x < w2.heap.size) := hCo2.lt
      have HNL : Hid (R N2 L2 ∧ True ∧ True ∧ (∀ x, Fp2 x → Fp x ∨ w.heap.size ≤ x) ∧ g < w.heap.size) := ⟨hR2, trivial, trivial, fun x e => (hF2 x e).imp id (fun e => Nat.le_trans hsz1 e), hgw⟩
      clear hQ2 hndc hF2 hR2 hCo2 hS hkw b01 k12 b23 b35 z3 z5 b25 hS2 hS5 hCo5 p5 gpl hgw hsz1 hsz2 hbo hnm hsm hel
      refine region_planI (fun w' => w'.cell? ⟨c, 3, none⟩ = some (.pointer (some p2)) ∧ w'.cell? ⟨w2.heap.size, 2, none⟩ = some (.slice (some ⟨db, dof, none⟩) n dc) ∧ w'.cell? ⟨w2.heap.size, 1, none⟩ = some (.slice va k vc)) [0, 1, 2, 3, 4, 5, 6, 7, 8, 9, 10, 12, 13, 14, 11, 15] [14, 0, 0] 102 ⟨q0, q1, q2⟩ (by kernel_rfl) (by kernel_rfl) (fun _ a d v _ h => by cases d <;> exact h) ?_
      simp only [atI, List.getElem?_cons_zero, List.getElem?_cons_succ]
      refine planH_step ?Ab0 rfl (fun w' hS => ?sb0) rfl (fun K hK => ?nb0)
      case sb0 =>
        obtain ⟨y0, y1, y2⟩ := hS
        simp only [List.take_succ_cons, List.take_zero]
        repeat still_step
        exact rfl
      case nb0 =>
      go_simp
      go_wp2_with (go_at_call 45; (with_reducible refine c4.mono ?_); rintro e w6 ⟨sx, rfl, hG6, hb6⟩; clear c4; obtain ⟨⟨q0, q1, q2⟩, sxa, sxn, sxc, rfl, c5⟩ := HE.out w6 sx hG6 hb6)
      refine hK _ _ ⟨q0, q1, q2⟩ ?_
      clear hK K
      refine planH_step ?Ab1 rfl (fun w' hS => ?sb1) rfl (fun K hK => ?nb1)
      case sb1 =>
        obtain ⟨y0, y1, y2⟩ := hS
        simp only [List.take_zero]
        exact rfl
      case nb1 =>
      go_simp
      go_wp2_with (go_at_call 41; (with_reducible refine c5.mono ?_); rintro e w7 ⟨rfl, hA7⟩; clear c5; obtain ⟨⟨q0, q1, q2⟩, HH⟩ := HI.out w6 w7 hA7)
      refine hK _ _ ⟨q0, q1, q2⟩ ?_
      clear hK K
      refine planH_last ?Ab2 rfl (fun w' hS => ?sb2) rfl ?nb2
      case sb2 =>
        obtain ⟨y0, y1, y2⟩ := hS
        simp only [List.take_zero]
        exact rfl
      case nb2 =>
      clear q0 q1 q2 HE HI HPl s1 hG6 hb6 hA7
      have HF : Hid _ := HH
      clear HH
      go_wp2
      go_loopw [89] (fun i wr => ∃ a : Nat, a ≤ r ∧ i = .int .i64 a ∧ (∃ F, wr.rowIs g 27 cap F ∧ ∀ i, i < k + m → F i = lst17 P V (w3.heap.size + 1) l a i) ∧ Ke (fun x => x = g) w7 wr) (fun i _ => r - (intOf i).toNat)
      case atStart =>
        obtain ⟨F, hF, hV⟩ := HF.out.2.1
        exact ⟨0, Nat.zero_le _, rfl, ⟨F, hF, fun i hi => (hV i hi).trans (by unfold lst17; rw [if_neg (fun x => Nat.not_lt_zero _ x.2)])⟩, Ke.refl _ _⟩
      case round =>
        obtain ⟨a, ha, rfl, ⟨F, hF, hV⟩, hk7⟩ := hrel
        by_cases hlt : a < r
        · have hg3 : w3.heap.size ≠ g := by have := HNL.out.2.2.2.2; have := H3.out.2.2; have := HP.out.ke.size; have := HU.out.2.2.size; omega
          have q1 : wr.cell? ⟨w3.heap.size, a, none⟩ = some (.slice (some ⟨w3.heap.size + 1 + a, 0, none⟩) l l) := (hk7.cell HF.out.2.2.2.2.2.1 hg3).trans (HF.out.2.2.2.2.1 a hlt)
          have hn2 : a < n := by have := HWl.out; omega
          have hn3 : a < (ems P (k + m)).length := by rw [← Hn.out]; exact hn2
          have hug : ua ≠ g := by have := HNL.out.2.2.2.2; have := HU.out.2.1; omega
          have q2 : wr.cell? ⟨ua, a, none⟩ = some (.int .i64 ((eN P (k + m) a : Nat) : Int)) := by
            obtain ⟨-, -, x, cp, e, -, -, h4⟩ := HF.out.2.2.2.1.ke17 hk7 hug
            cases e
            obtain ⟨b', o', e, -, hc⟩ := h4 (by omega)
            cases e
            have := hc a hn2
            rw [Nat.zero_add] at this
            exact this
          have hq := (eN_mem hn3).1
          have hcap := HO.out.2.1.hc
          have q3 := hF.cell (i := eN P (k + m) a) (by omega)
          have q4 := hF.frozen (eN P (k + m) a)
          have HR : Hid (∃ F, (wr.setCell ⟨g, eN P (k + m) a, none⟩ (.slice (some ⟨w3.heap.size + 1 + a, 0, none⟩) l l)).rowIs g 27 cap F ∧ ∀ i, i < k + m → F i = lst17 P V (w3.heap.size + 1) l (a + 1) i) :=
            ⟨_, hF.set _ _, fun i hi => by
              have e := lst17_step (V := V) (B0 := w3.heap.size + 1) (l := l) hn3 hi
              show (if i = eN P (k + m) a then _ else F i) = _
              rw [hV i hi]
              exact e⟩
          have HK : Hid (Ke (fun x => x = g) w7 (wr.setCell ⟨g, eN P (k + m) a, none⟩ (.slice (some ⟨w3.heap.size + 1 + a, 0, none⟩) l l))) := hk7.trans ((Only.refl g wr).setCell _ _).kp.ke
          have ib : ((a : Nat) : Int) < (r : Int) := by omega
          have ib2 : ((a : Nat) : Int) < (n : Int) := by omega
          have ib3 : ((eN P (k + m) a : Nat) : Int) < ((k + m : Nat) : Int) := by omega
          have W1 := wrap_succ8 (j := a) (by have := HWl.out; unfold big; omega)
          have ib4 : eN P (k + m) a < k + m := hq
          obtain ⟨z, hz⟩ : ∃ z, z = F (eN P (k + m) a) := ⟨_, rfl⟩
          rw [← hz] at q3
          generalize eN P (k + m) a = qq at q2 q3 q4 HR HK ib3 ib4
          clear hF hV hk7 hq hcap hz hn3 hn2
          go_wp2
          go_roundw
          case rel => exact ⟨a + 1, hlt, by first | rfl | (rw [W1]; rfl), HR.out, HK.out⟩
          case measure => first | exact meas_lt8 hlt | (rw [W1]; exact meas_lt8 hlt)
        · have hkn : a = r := by omega
          subst hkn
          have htl : ¬ ((a : Nat) : Int) < (a : Int) := by omega
          have hcap := HO.out.2.1
          have hgiv := given17 (en := en) (T := fun a j => ks (dec17 f k m P a) (fun a => S (eN (fun i => !P i) (k + m) a)) k j) hcap.hc hcap.hb (by have := HWl.out; unfold big; omega) hF (by rw [← HWl.out.1]; exact hV) hk7 (fun x hx => ⟨HF.out.2.2.2.2.2.2.1 x (by rw [HWl.out.1]; exact hx), by have := HNL.out.2.2.2.2; have := H3.out.2.2; have := HP.out.ke.size; have := HU.out.2.2.size; omega⟩) HF.out.2.2.1
          have hgF : ¬ Fp2 g := fun e => by
            rcases HW2.out _ e with e1 | e1
            · exact HO.out.2.2.1 e1
            · have := HU.out.2.2.size; have := HNL.out.2.2.2.2; omega
          have HRs : Hid (Rj17 w wr c Fp (.slice (some ⟨g, 0, none⟩) (k + m) cap) g l en f k m b R P S) := by
            refine ⟨⟨Fp2, N2, L2, ⟨_, _, _, _, _, _, HF.out.1.ke hk7 (fun x e hx => ?_)⟩, HNL.out.2.2.2.1, HNL.out.1, ⟨hF.lt, hgF⟩, w3.heap.size + 1, F, cap, V, rfl, hF, by rw [← HWl.out.1]; exact hV, ?_, ?_, fun r' hr' => ⟨?_, fun e => ?_⟩⟩, hgiv, HF.out.2.2.2.2.2.2.2.both17 hk7⟩
            · have e' : x = g := e
              rw [e'] at hx
              exact hgF hx
            · intro i hi
              obtain ⟨F0, hF0, hV0⟩ := HO.out.2.1.row
              rw [hF0.cell (by have := HO.out.2.1.hc; omega), hV0 i hi]
            · have := HU.out.2.2.size
              have := HP.out.ke.size
              have := H3.out.2.2
              omega
            · have hb0 : w3.heap.size + 1 + r' ≠ g := by have := HNL.out.2.2.2.2; have := H3.out.2.2; have := HP.out.ke.size; have := HU.out.2.2.size; omega
              exact hk7.rw_ (HF.out.2.2.2.2.2.2.1 r' (by rw [HWl.out.1]; exact hr')) hb0
            · have h1 := HFl.out _ e
              have := H3.out.2.2
              omega
          clear hgiv hF hV hk7 hcap
          go_wp2
          go_ret
          exact ⟨rfl, HRs.out⟩
set_option maxHeartbeats 2000000 in
set_option maxRecDepth 100000 in
theorem Reconstruct17_any (R : Nat → List (Nat × Ent) → Prop) (h : Co w c Fp FT p lo hi rows t f k m b N L) {g cap : Nat} {P : Nat → Bool} {V : Nat → Value} {l : Nat} {v : Value} {S : Nat → Nat → Nat} (hS : Sh17 w v g (k + m) cap l P V S Fp) (hg : ¬ Fp g) (hl : 1 ≤ l) (hl2 : l ≤ 140737488351232)
    (h1 : 1 ≤ (ems P (k + m)).length) (h2 : (ems P (k + m)).length ≤ m) 
    (hplan : ∀ w1 u, Below w.heap.size w w1 → (∀ w', Ke Fp w1 w' → Qi w' u (ems P (k + m)).length (emz P (k + m))) → Calls Tryz.prog 43 #[.pointer (some ⟨c, 0, none⟩), u] w1 fun e w' => ∃ pl, e = .returned (.tuple #[pl, .int .i64 0]) ∧ Pz17 w1 w' c Fp pl f k m b R P) :
    Calls Tryz.prog 16 #[.pointer (some ⟨c, 0, none⟩), v] w fun e w' => e = .returned (.int .i64 0) ∧ Rj17 w w' c Fp v g l (k + m) f k m b R P S := by
  have c1 := restore17_any R h hS hg hl hl2 h1 h2 hplan (k + m) (Nat.le_refl _)
  have hv := hS.eq
  subst hv
  obtain ⟨km, hkm⟩ : ∃ km, km = k + m := ⟨_, rfl⟩
  have e1 : ((k + m : Nat) : Int) = (km : Int) := by rw [hkm]
  rw [e1] at c1
  have HK : Hid (km = k + m) := hkm
  have e2 : (Value.slice (some ⟨g, 0, none⟩) (k + m) cap) = .slice (some ⟨g, 0, none⟩) km cap := by rw [hkm]
  rw [e2] at c1 ⊢
  clear h hS hg hl hl2 h1 h2 hplan hkm e1 e2
  go_enter Tryz.func16, Tryz.ntmps16
  go_wp2_with (go_at_call 27; (with_reducible refine c1.mono ?_); rintro e w1 ⟨rfl, hR⟩; clear c1; have HB : Hid _ := hR; clear hR)
  go_ret
  exact ⟨rfl, HB.out⟩
set_option maxHeartbeats 2000000 in
set_option maxRecDepth 100000 in
theorem ReconData17_any (R : Nat → List (Nat × Ent) → Prop) (h : Co w c Fp FT p lo hi rows t f k m b N L) {g cap : Nat} {P : Nat → Bool} {V : Nat → Value} {l : Nat} {v : Value} {S : Nat → Nat → Nat} (hS : Sh17 w v g (k + m) cap l P V S Fp) (hg : ¬ Fp g) (hl : 1 ≤ l) (hl2 : l ≤ 140737488351232)
    (h1 : 1 ≤ (ems P (k + m)).length) (h2 : (ems P (k + m)).length ≤ m) 
    (hplan : ∀ w1 u, Below w.heap.size w w1 → (∀ w', Ke Fp w1 w' → Qi w' u (ems P (k + m)).length (emz P (k + m))) → Calls Tryz.prog 43 #[.pointer (some ⟨c, 0, none⟩), u] w1 fun e w' => ∃ pl, e = .returned (.tuple #[pl, .int .i64 0]) ∧ Pz17 w1 w' c Fp pl f k m b R P) :
    Calls Tryz.prog 17 #[.pointer (some ⟨c, 0, none⟩), v] w fun e w' => e = .returned (.int .i64 0) ∧ Rj17 w w' c Fp v g l k f k m b R P S := by
  have c1 := restore17_any R h hS hg hl hl2 h1 h2 hplan k (Nat.le_add_right _ _)
  have hv := hS.eq
  subst hv
  have q1 := h.c1
  clear h hS hg hl hl2 h1 h2 hplan
  go_enter Tryz.func17, Tryz.ntmps17
  go_wp2_with (go_at_call 27; (with_reducible refine c1.mono ?_); rintro e w1 ⟨rfl, hR⟩; clear c1; have HB : Hid _ := hR; clear hR)
  go_ret
  exact ⟨rfl, HB.out⟩
end
end Go.Proofs.YtefolifecbhgoaaGreat
namespace Go.Proofs.YtefolifecbhgoaaGreat
open Go.RowKit Gf2
set_option linter.unusedVariables false


theorem few17 {f : Int} {k m l : Nat} {n : Nat → Nat} {P : Nat → Bool} (hf : f = 0 ∨ f = 1) (hk : 1 ≤ k) (hm : 1 ≤ m) (hs : k + m ≤ 256) (hl : 1 ≤ l) (hn : ∀ i, i < k + m → n i = if P i then 0 else l) (h2 : m < (ems P (k + m)).length) (h3 : (ems P (k + m)).length < k + m) :
    ple f (k : Int) (m : Int) (k + m) n = 9 ∧ plv16 f (k : Int) (m : Int) (k + m) n = 0 ∧ pll f (k : Int) (m : Int) (k + m) n = 0 := by
  have e : ems (emp n) (k + m) = ems P (k + m) := ems_congr (fun i hi => by
    show (n i == 0) = P i
    rw [hn i hi]
    cases P i
    · rw [if_neg (by decide)]
      exact beq_eq_false_iff_ne.2 (by omega)
    · rfl)
  have hbo := ems_both P (k + m)
  have hc : scf (some 0) n (k + m) = some l := by
    obtain ⟨a1, a2⟩ := eN_mem (P := fun i => !P i) (n := k + m) (i := 0) (by omega)
    refine scf_has17 (by omega) (fun i hi => ?_) ⟨_, a1, ?_⟩
    · rw [hn i hi]
      split
      · exact .inl rfl
      · exact .inr rfl
    · rw [hn _ a1]
      have : P (eN (fun i => !P i) (k + m) 0) = false := by simpa using a2
      rw [this, if_neg (by decide)]
  have hp : ple f (k : Int) (m : Int) (k + m) n = 9 := by
    unfold ple
    rw [prm17 hf hk hm hs, if_pos rfl, if_pos (show ((k + m : Nat) : Int) = (k : Int) + (m : Int) by omega), e, if_neg (by omega), hc, (ole17 hf).1, if_pos rfl, if_pos (by omega)]
  refine ⟨hp, ?_, ?_⟩
  · unfold plv16
    rw [hp, if_neg (by decide)]
  · unfold pll
    rw [hp, if_neg (by decide)]
section
variable {w : World} {c : Nat} {Fp FT : Nat → Prop} {p : Addr} {lo hi : Nat} {rows : Value} {t : Nat} {f : Int} {k m b N : Nat} {L : List (Nat × Ent)}
set_option maxHeartbeats 4000000 in
set_option maxRecDepth 100000 in
theorem restore17_few (h : Co w c Fp FT p lo hi rows t f k m b N L) {v : Value} {l : Nat} {P : Nat → Bool} {S : Nat → Nat → Nat} (hS : Lb w v (k + m) (fun i => if P i then 0 else l) S) (hl : 1 ≤ l)
    (h2 : m < (ems P (k + m)).length) (h3 : (ems P (k + m)).length < k + m) (en : Int) :
    Calls Tryz.prog 27 #[.pointer (some ⟨c, 0, none⟩), v, .int .i64 en] w fun e w' => e = .returned (.int .i64 9) ∧ Below w.heap.size w w' := by
  have hs := h.hs
  obtain ⟨r2, r3, r4⟩ := few17 h.hf h.hk h.hm h.hs hl (n := fun i => if P i then 0 else l) (fun i _ => rfl) h2 h3
  have c1 := partial16 f k m v (k + m) (fun i => if P i then 0 else l) w.drew ⟨by omega, by omega⟩ (hS.ln (by omega))
  rw [r2, r3, r4] at c1
  clear r2 r3 r4
  have HA : Hid (∀ w1, Below w.heap.size w w1 → w1.cell? ⟨c, 0, none⟩ = some (.int .i64 f) ∧ w1.cell? ⟨c, 1, none⟩ = some (.int .i64 (k : Int)) ∧ w1.cell? ⟨c, 2, none⟩ = some (.int .i64 (m : Int))) := fun w1 hb => ⟨(h.below hb).c0, (h.below hb).c1, (h.below hb).c2⟩
  have q0 : w.drew.cell? ⟨c, 0, none⟩ = _ := h.c0
  have q1 : w.drew.cell? ⟨c, 1, none⟩ = _ := h.c1
  have q2 : w.drew.cell? ⟨c, 2, none⟩ = _ := h.c2
  obtain ⟨-, ⟨-, va, vc, rfl, -⟩, -⟩ := hS
  clear h hl h2 h3 hs
  go_enter Tryz.func27, Tryz.ntmps27
  go_wp2
  refine region_planI (fun w' => w'.cell? ⟨c, 0, none⟩ = some (.int .i64 f) ∧ w'.cell? ⟨c, 1, none⟩ = some (.int .i64 (k : Int)) ∧ w'.cell? ⟨c, 2, none⟩ = some (.int .i64 (m : Int))) [0, 1, 2, 3, 4, 5, 6, 7, 8, 9, 10, 11, 12, 13, 14, 15, 16, 17, 18, 19, 20] [13, 7] 102 ⟨q0, q1, q2⟩ (by kernel_rfl) (by kernel_rfl) (fun _ a d v _ h => by cases d <;> exact h) ?_
  simp only [atI, List.getElem?_cons_zero, List.getElem?_cons_succ]
  refine planH_step ?Aa0 rfl (fun w' hS => ?sa0) rfl (fun K hK => ?na0)
  case sa0 =>
    obtain ⟨y0, y1, y2⟩ := hS
    simp only [List.take_succ_cons, List.take_zero]
    repeat still_step
    exact rfl
  case na0 =>
  go_simp
  go_wp2_with (go_at_call 42; (with_reducible refine c1.mono ?_); rintro e w1 ⟨u, rfl, hA⟩; clear c1; have hb : Below w.heap.size w w1 := undraw17 hA.bel; obtain ⟨q0, q1, q2⟩ := HA.out w1 hb; obtain ⟨ua, uc, rfl⟩ : ∃ ua uc, u = .slice ua 0 uc := by (rcases hA.gi.2 with ⟨-, e⟩ | ⟨g, C, F, e, -⟩ <;> exact ⟨_, _, e⟩))
  refine hK _ _ ⟨q0, q1, q2⟩ ?_
  clear hK K
  refine planH_last ?Aa1 rfl (fun w' hS => ?sa1) rfl ?na1
  case sa1 =>
    obtain ⟨y0, y1, y2⟩ := hS
    simp only [List.take_succ_cons, List.take_zero]
    repeat still_step
    exact rfl
  case na1 =>
  clear q0 q1 q2 HA hA
  have HB : Hid _ := hb
  clear hb
  go_wp2
  go_ret
  exact ⟨rfl, HB.out⟩
set_option maxHeartbeats 2000000 in
set_option maxRecDepth 100000 in
theorem Reconstruct17_few (h : Co w c Fp FT p lo hi rows t f k m b N L) {v : Value} {l : Nat} {P : Nat → Bool} {S : Nat → Nat → Nat} (hS : Lb w v (k + m) (fun i => if P i then 0 else l) S) (hl : 1 ≤ l)
    (h2 : m < (ems P (k + m)).length) (h3 : (ems P (k + m)).length < k + m) :
    Calls Tryz.prog 16 #[.pointer (some ⟨c, 0, none⟩), v] w fun e w' => e = .returned (.int .i64 9) ∧ Below w.heap.size w w' := by
  have c1 := restore17_few h hS hl h2 h3
  obtain ⟨-, ⟨-, va, vc, rfl, -⟩, -⟩ := hS
  obtain ⟨km, hkm⟩ : ∃ km, km = k + m := ⟨_, rfl⟩
  rw [← hkm] at c1 ⊢
  clear h hl h2 h3 hkm
  go_enter Tryz.func16, Tryz.ntmps16
  go_wp2_with (go_at_call 27; (with_reducible refine (c1 _).mono ?_); rintro e w1 ⟨rfl, hR⟩; clear c1; have HB : Hid _ := hR; clear hR)
  go_ret
  exact ⟨rfl, HB.out⟩
set_option maxHeartbeats 2000000 in
set_option maxRecDepth 100000 in
theorem ReconData17_few (h : Co w c Fp FT p lo hi rows t f k m b N L) {v : Value} {l : Nat} {P : Nat → Bool} {S : Nat → Nat → Nat} (hS : Lb w v (k + m) (fun i => if P i then 0 else l) S) (hl : 1 ≤ l)
    (h2 : m < (ems P (k + m)).length) (h3 : (ems P (k + m)).length < k + m) :
    Calls Tryz.prog 17 #[.pointer (some ⟨c, 0, none⟩), v] w fun e w' => e = .returned (.int .i64 9) ∧ Below w.heap.size w w' := by
  have c1 := restore17_few h hS hl h2 h3
  have q1 := h.c1
  obtain ⟨-, ⟨-, va, vc, rfl, -⟩, -⟩ := hS
  obtain ⟨km, hkm⟩ : ∃ km, km = k + m := ⟨_, rfl⟩
  rw [← hkm] at c1 ⊢
  clear h hl h2 h3 hkm
  go_enter Tryz.func17, Tryz.ntmps17
  go_wp2_with (go_at_call 27; (with_reducible refine (c1 _).mono ?_); rintro e w1 ⟨rfl, hR⟩; clear c1; have HB : Hid _ := hR; clear hR)
  go_ret
  exact ⟨rfl, HB.out⟩
end
end Go.Proofs.YtefolifecbhgoaaGreat
