import Derived.Test.YtlblkckglelbdaaGreatMwba
import Derived.Deep.Cut
import Derived.Lib.SliceRun
namespace Go.Proofs.YtlblkckglelbdaaGreat
open Go.RowKit Gf2
set_option linter.unusedVariables false

-- layer 19: turn
/-- what turn reads of a survey. -/
structure Sf19 (W : World) (S g r t gbk gt n L lo : Nat) (K : Nat → Nat) : Prop where
  s0 : W.cell? ⟨S, 0, none⟩ = some (.pointer (some ⟨g, 0, none⟩))
  s4 : W.cell? ⟨S, 4, none⟩ = some (.slice (some ⟨gbk, 0, none⟩) n n)
  s5 : W.cell? ⟨S, 5, none⟩ = some (.int .i64 (L : Int))
  s6 : W.cell? ⟨S, 6, none⟩ = some (.slice (some ⟨gt, 0, none⟩) n n)
  g0 : W.cell? ⟨g, 0, none⟩ = some (.pointer (some ⟨r, 0, none⟩))
  rg : Rg8 W r t
  bk : Rw W gbk n K
  lS : S < lo ∧ S ≠ gt
  lg : g < lo ∧ g ≠ gt
  lr : r < lo ∧ r ≠ gt
  lt : t < lo ∧ t ≠ gt
  lb : gbk < lo ∧ gbk ≠ gt
  sz : lo ≤ W.heap.size
theorem Rg8.ke {E : Nat → Prop} {w w' : World} {r t : Nat} (h : Rg8 w r t) (k : Ke E w w') (h1 : ¬ E r) (h2 : ¬ E t) : Rg8 w' r t :=
  ⟨h.tab.of_heap (k.2 t h.tab.lt h2), Nat.lt_of_lt_of_le h.lt k.size, (k.cell h.lt h1).trans h.mul, (k.cell h.lt h1).trans h.inv⟩
theorem Sf19.ke {W W' : World} {S g r t gbk gt n L lo : Nat} {K : Nat → Nat} (h : Sf19 W S g r t gbk gt n L lo K) (k : Ke (fun x => x = gt ∨ lo ≤ x) W W') : Sf19 W' S g r t gbk gt n L lo K := by
  have hz := h.sz
  have ne : ∀ x, x < lo ∧ x ≠ gt → ¬ (x = gt ∨ lo ≤ x) := fun x hx e => by
    rcases e with e | e
    · exact hx.2 e
    · omega
  have a1 := h.lS
  have a2 := h.lg
  exact ⟨(k.cell (by omega) (ne _ a1)).trans h.s0, (k.cell (by omega) (ne _ a1)).trans h.s4, (k.cell (by omega) (ne _ a1)).trans h.s5, (k.cell (by omega) (ne _ a1)).trans h.s6, (k.cell (by omega) (ne _ a2)).trans h.g0, h.rg.ke k (ne _ h.lr) (ne _ h.lt), k.rw_ h.bk (ne _ h.lb), h.lS, h.lg, h.lr, h.lt, h.lb, Nat.le_trans hz k.size⟩
theorem ke_lo19 {W W' : World} {gt lo : Nat} (hb : Below lo W W') : Ke (fun x => x = gt ∨ lo ≤ x) W W' := ⟨hb.mono (Nat.zero_le _), fun x hx hn => hb.block x (by
  apply Nat.lt_of_not_le
  intro h
  exact hn (.inr h))⟩
/-- what turn leaves. -/
structure Tu19 (w w' : World) (gt n L lo i y x : Nat) (tb : Nat → Bool) (B : Nat → Nat) (T : Nat → Nat → Nat) : Prop where
  ex : ∃ B' T', Tn19 w' gt n L lo (fun j => if j = i then true else tb j) B' T' ∧ (∀ j, j ≠ i → T' j = T j) ∧ (∀ z, T' i z = if z = y then x else if tb i then T i z else 0) ∧ (∀ j, j ≠ i → B' j = B j) ∧ ((tb i = true ∧ B' i = B i) ∨ w.heap.size ≤ B' i)
  ke : Ke (fun z => z = gt ∨ (tb i = true ∧ z = B i)) w w'
/-- the second half: the row is there. -/
theorem turn_b19 {w0 w : World} {S g r t gbk gt n L lo i y d : Nat} {K : Nat → Nat} {tb : Nat → Bool} {B : Nat → Nat} {T : Nat → Nat → Nat} (hS : Sf19 w S g r t gbk gt n L lo K) (hT : Tn19 w gt n L lo tb B T) (hi : i < n) (h1 : tb i = true) (hy : y < L) (hd : d < 256) :
    Calls Tryz.prog 55 #[.pointer (some ⟨S, 0, none⟩), .int .u8 ((K i : Nat) : Int), .int .u8 ((d : Nat) : Int)] w.drew fun e w2 => ∃ x, x = fm 285 (K i) d ∧ e = .returned (.int .u8 ((x : Nat) : Int)) ∧ w2.cell? ⟨S, 6, none⟩ = some (.slice (some ⟨gt, 0, none⟩) n n) ∧ w2.cell? ⟨S, 4, none⟩ = some (.slice (some ⟨gbk, 0, none⟩) n n) ∧ w2.cell? ⟨gbk, i, none⟩ = some (.int .u8 ((K i : Nat) : Int)) ∧ w2.cell? ⟨gt, i, none⟩ = some (.slice (some ⟨B i, 0, none⟩) L L) ∧ (∃ z : Nat, w2.cell? ⟨B i, y, none⟩ = some (.int .u8 ((z : Nat) : Int))) ∧ (∃ F, Rw w2 (B i) L F) ∧ Tn19 (w2.setCell ⟨B i, y, none⟩ (.int .u8 ((x : Nat) : Int))) gt n L lo tb B (fun j => if j = i then (fun z => if z = y then x else T i z) else T j) ∧ Ke (fun z => z = gt ∨ z = B i) w (w2.setCell ⟨B i, y, none⟩ (.int .u8 ((x : Nat) : Int))) := by
  have kd : Ke (fun x => x = gt ∨ lo ≤ x) w w.drew := (Ke.refl _ _).drewN 1
  have hS1 := hS.ke kd
  refine (times19 S g r t (K i) d w.drew hS1.s0 hS1.g0 hS1.rg (hS.bk.2.1 i hi) hd).mono ?_
  rintro e w2 ⟨rfl, hb⟩
  have hT1 : Tn19 w.drew gt n L lo tb B T := hT.below (below_drewN (Below.refl _ _) 1)
  have hT2 := hT1.below hb
  have k2 : Ke (fun x => x = gt ∨ lo ≤ x) w w2 := kd.trans (ke_lo19 (hb.mono hS1.sz))
  have hS2 := hS.ke k2
  have hB := hT2.rows i hi h1
  have q := hT2.row.cell hi
  simp only [h1, if_true] at q
  have kB : Ke (fun x => x = gt ∨ x = B i) w2 (w2.setCell ⟨B i, y, none⟩ (.int .u8 ((fm 285 (K i) d : Nat) : Int))) := (((Kp.refl _ _).setCell _ _).ke).mono (fun x _ e => .inr e)
  have k2' : Ke (fun x => x = gt ∨ x = B i) w w2 := ((Ke.refl _ _).drewN 1).trans (ke_below hb _)
  exact ⟨_, rfl, rfl, hS2.s6, hS2.s4, hS2.bk.2.2.cell hi, q, ⟨_, hB.2.2.2.cell hy⟩, ⟨_, hB.2⟩, hT2.put hi h1 (fm8_lt _ _), k2'.trans kB⟩
set_option maxHeartbeats 8000000 in
set_option maxRecDepth 100000 in
theorem turn19 (S g r t gbk gt n L lo i y d : Nat) (K : Nat → Nat) (tb : Nat → Bool) (B : Nat → Nat) (T : Nat → Nat → Nat) (w : World) (hS : Sf19 w S g r t gbk gt n L lo K) (hT : Tn19 w gt n L lo tb B T) (hi : i < n) (hn : n ≤ 256) (hy : y < L) (hL : L ≤ 140737488351232) (hd : d < 256) :
    Calls Tryz.prog 56 #[.pointer (some ⟨S, 0, none⟩), .int .i64 ((i : Nat) : Int), .int .i64 ((y : Nat) : Int), .int .u8 ((d : Nat) : Int)] w fun e w' => e = .returned (.tuple #[]) ∧ Tu19 w w' gt n L lo i y (fm 285 (K i) d) tb B T := by
  have ib : ((i : Nat) : Int) < (n : Int) := by omega
  have yb : ((y : Nat) : Int) < (L : Int) := by omega
  have z6 := hS.s6
  have q0 := hT.row.cell hi
  by_cases hb : tb i = true
  · simp only [hb, if_true] at q0
    have c1 := turn_b19 (w0 := w) hS hT hi hb hy hd
    have z4 := hS.s4
    have qk := hS.bk.2.2.cell hi
    have e1 : ∀ W : World, (binOp .eql 27 (.slice (some ⟨B i, 0, none⟩) L L) (.slice none 0 0)).run Tryz.prog W = .ok (.bool false) W := fun W => Lib.run_eql_slice_nil W _ _ _ _ _ _ _ Tryz.underlying27
    have HF : Hid (tb i = true) := hb
    clear hS hT hi hn hy hL hd hb
    go_enter Tryz.func56, Tryz.ntmps56
    go_wp2
    refine region_planJ (fun w' => w'.cell? ⟨S, 6, none⟩ = some (.slice (some ⟨gt, 0, none⟩) n n) ∧ w'.cell? ⟨S, 4, none⟩ = some (.slice (some ⟨gbk, 0, none⟩) n n) ∧ w'.cell? ⟨gbk, i, none⟩ = some (.int .u8 ((K i : Nat) : Int)) ∧ w'.cell? ⟨gt, i, none⟩ = some (.slice (some ⟨B i, 0, none⟩) L L)) 19 [17, 1] 46 ⟨z6, z4, qk, q0⟩ (by kernel_rfl) (by kernel_rfl) (fun _ a d v _ h => by cases d <;> exact h) ?_
    refine planT_step ?XA1 rfl (fun w' hS => ?Xs1) rfl (fun Kc hK => ?Xn1)
    case Xs1 =>
      obtain ⟨u0, u1, u2, u3⟩ := hS
      simp only [List.take_succ_cons, List.take_zero]
      repeat still_step
      exact rfl
    case Xn1 =>
    go_simp
    go_wp2_with (go_at_call 55; (with_reducible refine c1.mono ?_); rintro e w2 ⟨x, rfl, rfl, k1, k2, k3, k4, ⟨z, k5⟩, ⟨F, k6⟩, hT2, hke⟩; clear c1)
    refine hK _ _ ⟨k1, k2, k3, k4⟩ ?_
    have k7 := k6.2.2.frozen y
    have HG : Hid _ := And.intro hT2 hke
    clear hK hT2 hke z6 z4 qk q0 k1 k2 k3 k4 k6
    refine planT_last ?XA2 rfl (fun w' hS => ?Xs2) rfl ?Xn2
    case Xs2 =>
      simp only [List.take_succ_cons, List.take_zero]
      repeat still_step
      exact rfl
    case Xn2 =>
    simp only [List.drop_succ_cons, List.drop_zero]
    go_wp2
    ((try simp only [Exit.inBlock, Exit.then]); first | (refine bodyPost_ret (results_none rfl _ _ _) rfl ?_) | (refine bodyPost_end (results_none rfl _ _ _) rfl ?_))
    refine ⟨rfl, ⟨B, _, (by
      have e : (fun j => if j = i then true else tb j) = tb := by
        funext j
        by_cases e2 : j = i
        · rw [if_pos e2, e2, HF.out]
        · rw [if_neg e2]
      rw [e]
      exact HG.out.1), fun j hj => if_neg hj, fun z => ?_, fun j _ => rfl, .inl ⟨HF.out, rfl⟩⟩, HG.out.2.mono (fun x _ e => e.elim .inl (fun e => .inr ⟨HF.out, e⟩))⟩
    simp only [if_true, HF.out]
  · have hbf : tb i = false := by
      cases h9 : tb i with
      | true => exact absurd h9 hb
      | false => rfl
    simp only [hbf, Bool.false_eq_true, if_false] at q0
    have e1 : ∀ W : World, (binOp .eql 27 (.slice none 0 0) (.slice none 0 0)).run Tryz.prog W = .ok (.bool true) W := fun W => Lib.run_eql_slice_nil W _ _ _ _ _ _ _ Tryz.underlying27
    have z5 := hS.s5
    have hmk := make_u8 L (by omega)
    have bA : Below w.drew.heap.size w.drew (w.drew.alloc (.cells (madeCells #[.int .u8 0] L) 5)) := (Below.refl _ _).alloc (Nat.le_refl _) _
    have kA : Ke (fun x => x = gt ∨ lo ≤ x) w (w.drew.alloc (.cells (madeCells #[.int .u8 0] L) 5)) := ((Ke.refl _ _).drewN 1).trans (ke_lo19 (bA.mono (by show lo ≤ w.heap.size; exact hS.sz)))
    have hSA := hS.ke kA
    have f6 := hSA.s6
    have f5 := hSA.s5
    have hTd : Tn19 w.drew gt n L lo tb B T := hT.below (below_drewN (Below.refl _ _) 1)
    have hTA := hTd.below bA
    have qA := hTA.row.cell hi
    simp only [hbf, Bool.false_eq_true, if_false] at qA
    have qF := hTA.row.frozen i
    have qA2 : (w.alloc (.cells (madeCells #[.int .u8 0] L) 5)).cell? ⟨gt, i, none⟩ = some (.slice none 0 0) := qA
    have qF2 : (w.alloc (.cells (madeCells #[.int .u8 0] L) 5)).frozen? ⟨gt, i, none⟩ = false := qF
    have hTB := hTd.make hi hbf hL
    have kB : Ke (fun x => x = gt ∨ lo ≤ x) w ((w.drew.alloc (.cells (madeCells #[.int .u8 0] L) 5)).setCell ⟨gt, i, none⟩ (.slice (some ⟨w.drew.heap.size, 0, none⟩) L L)) := kA.trans ((((Kp.refl _ _).setCell _ _).ke).mono (fun x _ e => .inl e))
    have hSB := hS.ke kB
    have kC : Ke (fun x => x = gt) w ((w.drew.alloc (.cells (madeCells #[.int .u8 0] L) 5)).setCell ⟨gt, i, none⟩ (.slice (some ⟨w.heap.size, 0, none⟩) L L)) := (((Ke.refl _ _).drewN 1).trans (ke_below bA _)).trans (((Kp.refl _ _).setCell _ _).ke)
    have HB : Hid (Tn19 ((w.drew.alloc (.cells (madeCells #[.int .u8 0] L) 5)).setCell ⟨gt, i, none⟩ (.slice (some ⟨w.heap.size, 0, none⟩) L L)) gt n L lo (fun j => if j = i then true else tb j) (fun j => if j = i then w.heap.size else B j) (fun j => if j = i then (fun _ => 0) else T j) ∧ Sf19 ((w.drew.alloc (.cells (madeCells #[.int .u8 0] L) 5)).setCell ⟨gt, i, none⟩ (.slice (some ⟨w.heap.size, 0, none⟩) L L)) S g r t gbk gt n L lo K ∧ Ke (fun x => x = gt) w ((w.drew.alloc (.cells (madeCells #[.int .u8 0] L) 5)).setCell ⟨gt, i, none⟩ (.slice (some ⟨w.heap.size, 0, none⟩) L L))) := ⟨hTB, hSB, kC⟩
    have HI : Hid (i < n ∧ y < L ∧ d < 256 ∧ tb i = false) := ⟨hi, hy, hd, hbf⟩
    clear hS hT hi hn hy hL hd hb hbf bA kA hSA hTd hTA hTB kB hSB kC
    go_enter Tryz.func56, Tryz.ntmps56
    go_wp2
    refine region_planJ (fun w' => w'.cell? ⟨S, 6, none⟩ = some (.slice (some ⟨gt, 0, none⟩) n n) ∧ w'.cell? ⟨S, 5, none⟩ = some (.int .i64 (L : Int))) 11 [9, 1] 46 ⟨z6, z5⟩ (by kernel_rfl) (by kernel_rfl) (fun _ a d v _ h => by cases d <;> exact h) ?_
    refine planT_step ?M1 rfl (fun w' hS => ?ms1) rfl (fun Kc hK => ?mn1)
    case ms1 =>
      obtain ⟨u0, u1⟩ := hS
      simp only [List.take_succ_cons, List.take_zero]
      repeat still_step
      exact rfl
    case mn1 =>
    go_simp
    go_wp2
    refine hK _ _ ⟨f6, f5⟩ ?_
    clear hK
    refine planT_last ?M2 rfl (fun w' hS => ?ms2) rfl ?mn2
    case ms2 =>
      simp only [List.take_succ_cons, List.take_zero]
      repeat still_step
      exact rfl
    case mn2 =>
    simp only [List.drop_succ_cons, List.drop_zero]
    go_upto_region 2 with (fail)
    obtain ⟨wb, hwb⟩ : ∃ wb, wb = ((w.alloc (.cells (madeCells #[.int .u8 0] L) 5)).setCell ⟨gt, i, none⟩ (.slice (some ⟨w.heap.size, 0, none⟩) L L)).drew := ⟨_, rfl⟩
    rw [← hwb]
    obtain ⟨tb2, htb2⟩ : ∃ tb2 : Nat → Bool, tb2 = fun j => if j = i then true else tb j := ⟨_, rfl⟩
    obtain ⟨B2, hB2⟩ : ∃ B2 : Nat → Nat, B2 = fun j => if j = i then w.heap.size else B j := ⟨_, rfl⟩
    obtain ⟨T2, hT2d⟩ : ∃ T2 : Nat → Nat → Nat, T2 = fun j => if j = i then (fun _ => 0) else T j := ⟨_, rfl⟩
    have hTb : Tn19 wb gt n L lo tb2 B2 T2 := by rw [hwb, htb2, hB2, hT2d]; exact HB.out.1
    have hSb : Sf19 wb S g r t gbk gt n L lo K := by rw [hwb]; exact HB.out.2.1
    have kb : Ke (fun x => x = gt) w wb := by rw [hwb]; exact HB.out.2.2
    have ebi : B2 i = w.heap.size := by rw [hB2]; exact if_pos rfl
    have eti : tb2 i = true := by rw [htb2]; exact if_pos rfl
    have c1 := turn_b19 (w0 := w) hSb hTb HI.out.1 eti HI.out.2.1 HI.out.2.2.1
    rw [ebi] at c1
    clear z6 q0 z5 hmk qA qF qA2 qF2 f6 f5 e1
    have z6 := hSb.s6
    have z4 := hSb.s4
    have qk := hSb.bk.2.2.cell HI.out.1
    have q0 := hTb.row.cell HI.out.1
    simp only [eti, if_true, ebi] at q0
    have HT2 : Hid (tb2 = (fun j => if j = i then true else tb j) ∧ T2 = (fun j => if j = i then (fun _ => 0) else T j) ∧ Ke (fun x => x = gt) w wb ∧ B2 = (fun j => if j = i then w.heap.size else B j)) := ⟨htb2, hT2d, kb, hB2⟩
    clear hTb hSb kb hwb HB htb2 hT2d hB2 ebi eti
    refine region_planJ (fun w' => w'.cell? ⟨S, 6, none⟩ = some (.slice (some ⟨gt, 0, none⟩) n n) ∧ w'.cell? ⟨S, 4, none⟩ = some (.slice (some ⟨gbk, 0, none⟩) n n) ∧ w'.cell? ⟨gbk, i, none⟩ = some (.int .u8 ((K i : Nat) : Int)) ∧ w'.cell? ⟨gt, i, none⟩ = some (.slice (some ⟨w.heap.size, 0, none⟩) L L)) 19 [17, 1] 46 ⟨z6, z4, qk, q0⟩ (by kernel_rfl) (by kernel_rfl) (fun _ a d v _ h => by cases d <;> exact h) ?_
    refine planT_step ?YA1 rfl (fun w' hS => ?Ys1) rfl (fun Kc hK => ?Yn1)
    case Ys1 =>
      obtain ⟨u0, u1, u2, u3⟩ := hS
      simp only [List.take_succ_cons, List.take_zero]
      repeat still_step
      exact rfl
    case Yn1 =>
    go_simp
    go_wp2_with (go_at_call 55; (with_reducible refine c1.mono ?_); rintro e w2 ⟨x, rfl, rfl, k1, k2, k3, k4, ⟨z, k5⟩, ⟨F, k6⟩, hT2, hke⟩; clear c1)
    refine hK _ _ ⟨k1, k2, k3, k4⟩ ?_
    have k7 := k6.2.2.frozen y
    have HG : Hid _ := And.intro hT2 hke
    clear hK hT2 hke z6 z4 qk q0 k1 k2 k3 k4 k6
    refine planT_last ?YA2 rfl (fun w' hS => ?Ys2) rfl ?Yn2
    case Ys2 =>
      simp only [List.take_succ_cons, List.take_zero]
      repeat still_step
      exact rfl
    case Yn2 =>
    simp only [List.drop_succ_cons, List.drop_zero]
    go_wp2
    ((try simp only [Exit.inBlock, Exit.then]); first | (refine bodyPost_ret (results_none rfl _ _ _) rfl ?_) | (refine bodyPost_end (results_none rfl _ _ _) rfl ?_))
    refine ⟨rfl, ⟨B2, _, (by rw [← HT2.out.1]; exact HG.out.1), fun j hj => ?_, fun z => ?_, fun j hj => by rw [HT2.out.2.2.2]; exact if_neg hj, .inr (by rw [HT2.out.2.2.2]; exact Nat.le_of_eq (if_pos rfl).symm)⟩, ?_⟩
    · show (if j = i then _ else T2 j) = T j
      rw [if_neg hj, HT2.out.2.1]
      exact if_neg hj
    · simp only [if_true, HI.out.2.2.2, HT2.out.2.1]
      rfl
    · have k9 : Ke (fun z => z = gt) w _ := HT2.out.2.2.1
      refine ⟨k9.1.trans HG.out.2.1, fun x hx hn => ?_⟩
      have n1 : ¬ x = gt := fun e => hn (.inl e)
      refine (HG.out.2.2 x (Nat.lt_of_lt_of_le hx k9.size) (fun e => ?_)).trans (k9.2 x hx n1)
      rcases e with e | e
      · exact n1 e
      · have e9 : B2 i = w.heap.size := by rw [HT2.out.2.2.2]; exact if_pos rfl
        first | omega | (rw [e9] at e; omega)
end Go.Proofs.YtlblkckglelbdaaGreat
namespace Go.Proofs.YtlblkckglelbdaaGreat
open Go.RowKit Gf2
set_option linter.unusedVariables false

-- layer 19: what the columns leave
/-- a shard's turn behind y columns: D z is what column z asks; pr: the shard is present. -/
structure Xs19 (pr : Prop) (D : Nat → Nat) (L y : Nat) (tb : Bool) (T : Nat → Nat) : Prop where
  iff_ : tb = true ↔ ((¬ pr ∧ 0 < y) ∨ ∃ z, z < y ∧ D z ≠ 0)
  val : tb = true → ∀ z, z < L → T z = if z < y then D z else 0
theorem Xs19.start (pr : Prop) (D : Nat → Nat) (L : Nat) (T : Nat → Nat) : Xs19 pr D L 0 false T :=
  ⟨⟨fun h => (by cases h), fun h => by
    rcases h with ⟨-, h⟩ | ⟨z, h, -⟩
    · exact absurd h (Nat.lt_irrefl _)
    · exact absurd h (Nat.not_lt_zero _)⟩, fun h => by cases h⟩
theorem Xs19.pass {pr : Prop} {D : Nat → Nat} {L y : Nat} {tb : Bool} {T : Nat → Nat} (h : Xs19 pr D L y tb T) (hp : pr) (h0 : D y = 0) : Xs19 pr D L (y + 1) tb T := by
  refine ⟨⟨fun e => ?_, fun e => ?_⟩, fun e z hz => ?_⟩
  · rcases h.iff_.1 e with ⟨h1, -⟩ | ⟨z, h1, h2⟩
    · exact absurd hp h1
    · exact .inr ⟨z, by omega, h2⟩
  · rcases e with ⟨h1, -⟩ | ⟨z, h1, h2⟩
    · exact absurd hp h1
    · refine h.iff_.2 (.inr ⟨z, ?_, h2⟩)
      have : z ≠ y := fun e => h2 (by rw [e]; exact h0)
      omega
  · rw [h.val e z hz]
    by_cases e1 : z < y
    · rw [if_pos e1, if_pos (by omega)]
    · rw [if_neg e1]
      by_cases e2 : z = y
      · rw [if_pos (by omega), e2, h0]
      · rw [if_neg (by omega)]
theorem Xs19.hit {pr : Prop} {D : Nat → Nat} {L y : Nat} {tb : Bool} {T T' : Nat → Nat} (h : Xs19 pr D L y tb T) (hd : ¬ pr ∨ D y ≠ 0) (hT : ∀ z, T' z = if z = y then D y else if tb then T z else 0) : Xs19 pr D L (y + 1) true T' := by
  refine ⟨⟨fun _ => ?_, fun _ => rfl⟩, fun _ z hz => ?_⟩
  · rcases hd with h1 | h1
    · exact .inl ⟨h1, by omega⟩
    · exact .inr ⟨y, by omega, h1⟩
  · rw [hT z]
    by_cases e : z = y
    · rw [if_pos e, if_pos (by omega), e]
    · rw [if_neg e]
      cases hb : tb with
      | true =>
        rw [if_pos rfl, h.val hb z hz]
        by_cases e1 : z < y
        · rw [if_pos e1, if_pos (by omega)]
        · rw [if_neg e1, if_neg (by omega)]
      | false =>
        simp only [Bool.false_eq_true, if_false]
        by_cases e1 : z < y + 1
        · rw [if_pos e1]
          have hn : ¬ ((¬ pr ∧ 0 < y) ∨ ∃ z, z < y ∧ D z ≠ 0) := fun h9 => by
            have := h.iff_.2 h9
            rw [hb] at this
            cases this
          exact (Classical.byContradiction fun h9 => hn (.inr ⟨z, by omega, fun e9 => h9 e9.symm⟩))
        · rw [if_neg e1]
/-- the turns behind y columns, of those shards that dn names y + 1; no row lies in Av. -/
structure Ys19 (W : World) (gt n L lo y : Nat) (pr : Nat → Prop) (D : Nat → Nat → Nat) (dn : Nat → Bool) (Av : Nat → Prop) : Prop where
  ex : ∃ tb B T, Tn19 W gt n L lo tb B T ∧ (∀ x, x < n → tb x = true → ¬ Av (B x)) ∧ ∀ x, x < n → Xs19 (pr x) (fun z => D z x) L (if dn x then y + 1 else y) (tb x) (T x)
theorem Ys19.below {W W' : World} {gt n L lo y : Nat} {pr : Nat → Prop} {D : Nat → Nat → Nat} {dn : Nat → Bool} {Av : Nat → Prop} (h : Ys19 W gt n L lo y pr D dn Av) (hb : Below W.heap.size W W') : Ys19 W' gt n L lo y pr D dn Av := by
  obtain ⟨tb, B, T, h1, h0, h2⟩ := h.ex
  exact ⟨tb, B, T, h1.below hb, h0, h2⟩
/-- other blocks to be left alone: above all rows. -/
theorem Ys19.avoid {W W' : World} {gt n L lo y : Nat} {pr : Nat → Prop} {D : Nat → Nat → Nat} {dn : Nat → Bool} {Av : Nat → Prop} (h : Ys19 W gt n L lo y pr D dn Av) (hb : Below W.heap.size W W') : Ys19 W' gt n L lo y pr D dn (fun x => W.heap.size ≤ x ∧ x < W'.heap.size) := by
  obtain ⟨tb, B, T, h1, h0, h2⟩ := h.ex
  exact ⟨tb, B, T, h1.below hb, fun x hx hb e => by have := (h1.rows x hx hb).2.lt; omega, h2⟩
theorem Ys19.free {W : World} {gt n L lo y : Nat} {pr : Nat → Prop} {D : Nat → Nat → Nat} {dn : Nat → Bool} {Av : Nat → Prop} (h : Ys19 W gt n L lo y pr D dn Av) : Ys19 W gt n L lo y pr D dn (fun _ => False) := by
  obtain ⟨tb, B, T, h1, h0, h2⟩ := h.ex
  exact ⟨tb, B, T, h1, fun _ _ _ e => e, h2⟩
theorem Ys19.pass {W : World} {gt n L lo y i : Nat} {pr : Nat → Prop} {D : Nat → Nat → Nat} {dn : Nat → Bool} {Av : Nat → Prop} (h : Ys19 W gt n L lo y pr D dn Av) (hi : dn i = false) (hp : pr i) (h0 : D y i = 0) : Ys19 W gt n L lo y pr D (fun x => if x = i then true else dn x) Av := by
  obtain ⟨tb, B, T, h1, h9, h2⟩ := h.ex
  refine ⟨tb, B, T, h1, h9, fun x hx => ?_⟩
  by_cases e : x = i
  · subst e
    have := h2 x hx
    rw [hi] at this
    simp only [if_true]
    exact this.pass hp h0
  · simp only [if_neg e]
    exact h2 x hx
/-- turn, of a shard that isn't done. -/
theorem Ys19.turn {w : World} {S g r t gbk gt n L lo i y d : Nat} {K : Nat → Nat} {pr : Nat → Prop} {D : Nat → Nat → Nat} {dn : Nat → Bool} {Av : Nat → Prop} (hS : Sf19 w S g r t gbk gt n L lo K) (h : Ys19 w gt n L lo y pr D dn Av) (hA : ∀ x, Av x → x < w.heap.size ∧ x ≠ gt) (hi : i < n) (hn : n ≤ 256) (hy : y < L) (hL : L ≤ 140737488351232) (hd : d < 256) (h0 : dn i = false) (hp : ¬ pr i ∨ D y i ≠ 0) (hD : D y i = fm 285 (K i) d) :
    Calls Tryz.prog 56 #[.pointer (some ⟨S, 0, none⟩), .int .i64 ((i : Nat) : Int), .int .i64 ((y : Nat) : Int), .int .u8 ((d : Nat) : Int)] w fun e w' => e = .returned (.tuple #[]) ∧ Ys19 w' gt n L lo y pr D (fun x => if x = i then true else dn x) Av ∧ Ke (fun z => z = gt ∨ lo ≤ z) w w' ∧ ∀ x, Av x → w'.heap[x]? = w.heap[x]? := by
  obtain ⟨tb, B, T, h1, h9, h2⟩ := h.ex
  refine (turn19 S g r t gbk gt n L lo i y d K tb B T w hS h1 hi hn hy hL hd).mono ?_
  rintro e w' ⟨rfl, hT⟩
  obtain ⟨B', T', k1, k2, k3, k4, k5⟩ := hT.ex
  refine ⟨rfl, ⟨_, B', T', k1, fun x hx hb e => ?_, fun x hx => ?_⟩, hT.ke.mono (fun x _ e => e.elim .inl (fun e => .inr (by rw [e.2]; exact (h1.rows i hi e.1).1))), fun x hx => hT.ke.2 x (hA x hx).1 (fun e => ?_)⟩
  · by_cases e2 : x = i
    · subst e2
      rcases k5 with ⟨hb2, k5⟩ | k5
      · rw [k5] at e
        exact h9 x hx hb2 e
      · have := (hA _ e).1
        omega
    · rw [k4 x e2] at e
      simp only [if_neg e2] at hb
      exact h9 x hx hb e
  · by_cases e : x = i
    · subst e
      have := h2 x hx
      rw [h0] at this
      simp only [Bool.false_eq_true, if_false] at this
      simp only [if_true]
      exact this.hit hp (fun z => by rw [k3 z, hD])
    · simp only [if_neg e]
      rw [k2 x e]
      exact h2 x hx
  · rcases e with e | e
    · exact (hA x hx).2 e
    · exact h9 i hi e.1 (by rw [← e.2]; exact hx)
end Go.Proofs.YtlblkckglelbdaaGreat
namespace Go.Proofs.YtlblkckglelbdaaGreat
open Go.RowKit Gf2
set_option linter.unusedVariables false

-- layer 19: a survey stays while turns are noted
theorem rb_keep19 {W W' : World} {b o n c : Nat} {F : Nat → Nat} (h : Rb W (.slice (some ⟨b, o, none⟩) n c) n F) (hk : b < W.heap.size → W'.heap[b]? = W.heap[b]?) (hs : W.heap.size ≤ W'.heap.size) : Rb W' (.slice (some ⟨b, o, none⟩) n c) n F := by
  obtain ⟨h1, h2, a, cap, h3, h5, h6, h4⟩ := h
  cases h3
  refine ⟨h1, h2, _, _, rfl, h5, h6, fun h0 => ?_⟩
  obtain ⟨b', o', e, hl, hc⟩ := h4 h0
  cases e
  exact ⟨b, o, rfl, Nat.lt_of_lt_of_le hl hs, fun i hi => by
    rw [← hc i hi]
    unfold World.cell?
    rw [hk hl]⟩
theorem qi_keep19 {W W' : World} {b o n c : Nat} {F : Nat → Int} (h : Qi W (.slice (some ⟨b, o, none⟩) n c) n F) (hk : b < W.heap.size → W'.heap[b]? = W.heap[b]?) (hs : W.heap.size ≤ W'.heap.size) : Qi W' (.slice (some ⟨b, o, none⟩) n c) n F := by
  obtain ⟨h1, h2, a, cap, h3, h5, h6, h4⟩ := h
  cases h3
  refine ⟨h1, h2, _, _, rfl, h5, h6, fun h0 => ?_⟩
  obtain ⟨b', o', e, hl, hc⟩ := h4 h0
  cases e
  exact ⟨b, o, rfl, Nat.lt_of_lt_of_le hl hs, fun i hi => by
    rw [← hc i hi]
    unfold World.cell?
    rw [hk hl]⟩
/-- a block that turns leave alone. -/
def Nb19 (lo gt x : Nat) : Prop := x < lo ∧ x ≠ gt
theorem Nb19.out {lo gt x : Nat} (h : Nb19 lo gt x) : ¬ (x = gt ∨ lo ≤ x) := fun e => by
  rcases e with e | e
  · exact h.2 e
  · have := h.1; omega
/-- the survey, its shards' list besides: w0 is the world ahead of all. -/
structure Sz19 (w0 W : World) (S g r t gp gv gsc gbk gt f k n np nm L lo pb cp : Nat) (vM : Value) (p q : Nat → Nat) : Prop where
  bel : Below w0.heap.size w0 W
  sv : Sv19 W S g r t gp gv gsc gbk gt f k n np nm L (.slice (some ⟨pb, 0, none⟩) np cp) vM p q
  nb : Nb19 lo gt S ∧ Nb19 lo gt g ∧ Nb19 lo gt r ∧ Nb19 lo gt t ∧ Nb19 lo gt gp ∧ Nb19 lo gt gv ∧ Nb19 lo gt gsc ∧ Nb19 lo gt gbk ∧ Nb19 lo gt pb
  ms : ∃ a c, vM = .slice a nm c ∧ (nm = 0 ∨ ∃ b o, a = some ⟨b, o, none⟩ ∧ Nb19 lo gt b)
  sz : lo ≤ W.heap.size
  g0 : w0.heap.size ≤ gt ∧ gt < lo
theorem Sz19.ke {w0 W W' : World} {S g r t gp gv gsc gbk gt f k n np nm L lo pb cp : Nat} {vM : Value} {p q : Nat → Nat} (h : Sz19 w0 W S g r t gp gv gsc gbk gt f k n np nm L lo pb cp vM p q) (hk : Ke (fun x => x = gt ∨ lo ≤ x) W W') : Sz19 w0 W' S g r t gp gv gsc gbk gt f k n np nm L lo pb cp vM p q := by
  obtain ⟨n1, n2, n3, n4, n5, n6, n7, n8, n9⟩ := h.nb
  have hz := h.sz
  have kb : ∀ x, Nb19 lo gt x → x < W.heap.size → W'.heap[x]? = W.heap[x]? := fun x hx hl => hk.2 x hl hx.out
  have hs := hk.size
  refine ⟨h.bel.trans (hk.below (fun x e => ?_) h.bel.size), ⟨?_, ⟨?_, h.sv.de.rg.ke hk n3.out n4.out, rb_keep19 h.sv.de.pts (kb _ n5) hs, ⟨rb_keep19 h.sv.de.van.rb (kb _ n6) hs, h.sv.de.van.dg, h.sv.de.van.el, h.sv.de.van.top⟩⟩, qi_keep19 h.sv.pres (kb _ n9) hs, ?_, hk.rw_ h.sv.sc n7.out, hk.rw_ h.sv.bk n8.out⟩, h.nb, h.ms, Nat.le_trans hz hs, h.g0⟩
  · have := h.g0
    rcases e with e | e
    · omega
    · omega
  · exact (kb _ n1 (Array.getElem?_eq_some_iff.1 h.sv.blk).1).trans h.sv.blk
  · exact (kb _ n2 (Array.getElem?_eq_some_iff.1 h.sv.de.blk).1).trans h.sv.de.blk
  · obtain ⟨a, c, rfl, ha | ⟨b, o, rfl, hb⟩⟩ := h.ms
    · subst ha
      obtain ⟨h1, h2, a', cap, h3, h5, h6, h4⟩ := h.sv.miss
      cases h3
      exact ⟨h1, h2, _, _, rfl, h5, h6, fun h0 => absurd h0 (Nat.lt_irrefl _)⟩
    · exact qi_keep19 h.sv.miss (kb _ hb) hs
theorem Sz19.below {w0 W W' : World} {S g r t gp gv gsc gbk gt f k n np nm L lo pb cp : Nat} {vM : Value} {p q : Nat → Nat} (h : Sz19 w0 W S g r t gp gv gsc gbk gt f k n np nm L lo pb cp vM p q) (hb : Below W.heap.size W W') : Sz19 w0 W' S g r t gp gv gsc gbk gt f k n np nm L lo pb cp vM p q :=
  h.ke (ke_lo19 (hb.mono h.sz))
theorem Sz19.sf {w0 W : World} {S g r t gp gv gsc gbk gt f k n np nm L lo pb cp : Nat} {vM : Value} {p q : Nat → Nat} (h : Sz19 w0 W S g r t gp gv gsc gbk gt f k n np nm L lo pb cp vM p q) : Sf19 W S g r t gbk gt n L lo (fun i => fi 285 (sc19 f k i)) := by
  obtain ⟨n1, n2, n3, n4, n5, n6, n7, n8, n9⟩ := h.nb
  exact ⟨h.sv.c0, h.sv.c4, h.sv.c5, h.sv.c6, h.sv.de.c0, h.sv.de.rg, h.sv.bk, n1, n2, n3, n4, n8, h.sz⟩
theorem Ys19.congr {W : World} {gt n L lo y : Nat} {pr : Nat → Prop} {D D' : Nat → Nat → Nat} {Av : Nat → Prop} (h : Ys19 W gt n L lo y pr D (fun _ => false) Av) (e : ∀ z, z < y → D z = D' z) : Ys19 W gt n L lo y pr D' (fun _ => false) Av := by
  obtain ⟨tb, B, T, h1, h0, h2⟩ := h.ex
  refine ⟨tb, B, T, h1, h0, fun x hx => ?_⟩
  have h3 := h2 x hx
  simp only [Bool.false_eq_true, if_false] at h3 ⊢
  refine ⟨⟨fun hb => ?_, fun hb => h3.iff_.2 ?_⟩, fun hb z hz => ?_⟩
  · rcases h3.iff_.1 hb with h9 | ⟨z, hz, h9⟩
    · exact .inl h9
    · exact .inr ⟨z, hz, by rw [← e z hz]; exact h9⟩
  · rcases hb with h9 | ⟨z, hz, h9⟩
    · exact .inl h9
    · exact .inr ⟨z, hz, by rw [e z hz]; exact h9⟩
  · rw [h3.val hb z hz]
    by_cases e1 : z < y
    · rw [if_pos e1, if_pos e1, e z e1]
    · rw [if_neg e1, if_neg e1]
/-- all shards are done: the next column. -/
theorem Ys19.next {W : World} {gt n L lo y : Nat} {pr : Nat → Prop} {D : Nat → Nat → Nat} {dn : Nat → Bool} {Av : Nat → Prop} (h : Ys19 W gt n L lo y pr D dn Av) (hd : ∀ x, x < n → dn x = true) : Ys19 W gt n L lo (y + 1) pr D (fun _ => false) Av := by
  obtain ⟨tb, B, T, h1, h0, h2⟩ := h.ex
  refine ⟨tb, B, T, h1, h0, fun x hx => ?_⟩
  have h3 := h2 x hx
  rw [hd x hx] at h3
  exact h3
end Go.Proofs.YtlblkckglelbdaaGreat
namespace Go.Proofs.YtlblkckglelbdaaGreat
open Go.RowKit Gf2
set_option linter.unusedVariables false

-- layer 19: column
/-- what stands fast while columns are looked at: n shards, np of them present (p), nm missing (q), L bytes each, in the list at sb, so. -/
structure Ci19 (w0 : World) (sb so n np nm k f L : Nat) (p q : Nat → Nat) (prb : Nat → Bool) (Sh : Nat → Nat → Nat) : Prop where
  hp : ∀ i, i < np → p i < n
  up : Up8 np p
  hq : ∀ j, j < nm → q j < n
  uq : Up8 nm q
  pr : ∀ x, prb x = true ↔ ∃ i, i < np ∧ p i = x
  cov : ∀ x, x < n → (∃ i, i < np ∧ p i = x) ∨ ∃ j, j < nm ∧ q j = x
  dis : ∀ i j, i < np → j < nm → p i ≠ q j
  n2 : n ≤ 256
  k1 : 1 ≤ k
  kn : k ≤ np
  npn : np ≤ n
  nmn : nm ≤ n
  hL : L ≤ 140737488351232
  sc : ∀ x, x < n → sc19 f k x ≠ 0
  lb : ∀ i, i < np → ∀ z, Sh (p i) z < 256
  sh : ∀ i, i < np → ∃ b o c, ∀ W, Below w0.heap.size w0 W → W.cell? ⟨sb, so + p i, none⟩ = some (.slice (some ⟨b, o, none⟩) L c) ∧ ∀ z, z < L → W.cell? ⟨b, o + z, none⟩ = some (.int .u8 ((Sh (p i) z : Nat) : Int))
/-- the values of a column. -/
def yv19 (f k y : Nat) (p : Nat → Nat) (Sh : Nat → Nat → Nat) (i : Nat) : Nat := fm 285 (sc19 f k (p i)) (Sh (p i) y)
/-- what a column's polynomial asks of a shard. -/
def dw19 (f k np y : Nat) (prb : Nat → Bool) (Sh : Nat → Nat → Nat) (F : Nat → Nat) (x : Nat) : Nat := fm 285 (fi 285 (sc19 f k x)) (pe 285 x np F) ^^^ (if prb x then Sh x y else 0)
theorem dw_pres19 {w0 : World} {sb so n np nm k f L y i : Nat} {p q : Nat → Nat} {prb : Nat → Bool} {Sh : Nat → Nat → Nat} (h : Ci19 w0 sb so n np nm k f L p q prb Sh) (F : Nat → Nat) (hi : i < np) : dw19 f k np y prb Sh F (p i) = fm 285 (fi 285 (sc19 f k (p i))) (pe 285 (p i) np F ^^^ yv19 f k y p Sh i) := by
  have hpr : prb (p i) = true := (h.pr _).2 ⟨i, hi, rfl⟩
  have hs := h.sc (p i) (h.hp i hi)
  have hsl := sc19_lt f k (p i)
  have hl := h.lb i hi y
  unfold dw19 yv19
  rw [if_pos hpr, fld8.fm_xor, ← fld8.fm_assoc, fm_comm 285 (fi 285 _) (sc19 f k (p i)), fld8.fi_mul hsl hs, fld8.one_fm hl]
theorem dw_miss19 {w0 : World} {sb so n np nm k f L y j : Nat} {p q : Nat → Nat} {prb : Nat → Bool} {Sh : Nat → Nat → Nat} (h : Ci19 w0 sb so n np nm k f L p q prb Sh) (F : Nat → Nat) (hj : j < nm) : ¬ prb (q j) = true ∧ dw19 f k np y prb Sh F (q j) = fm 285 (fi 285 (sc19 f k (q j))) (pe 285 (q j) np F) := by
  have hpr : ¬ prb (q j) = true := fun e => by
    obtain ⟨i, hi, e⟩ := (h.pr _).1 e
    exact h.dis i j hi hj e
  refine ⟨hpr, ?_⟩
  unfold dw19
  rw [if_neg hpr, Nat.xor_zero]
theorem dw_zero19 {w0 : World} {sb so n np nm k f L y i : Nat} {p q : Nat → Nat} {prb : Nat → Bool} {Sh : Nat → Nat → Nat} (h : Ci19 w0 sb so n np nm k f L p q prb Sh) (F : Nat → Nat) (hi : i < np) : dw19 f k np y prb Sh F (p i) = 0 ↔ pe 285 (p i) np F = yv19 f k y p Sh i := by
  rw [dw_pres19 h F hi]
  have hs := h.sc (p i) (h.hp i hi)
  have hsl := sc19_lt f k (p i)
  have hfl := fld8.fi_lt hsl hs
  have hfn := fld8.fi_ne hsl hs
  constructor
  · intro e
    apply Classical.byContradiction
    intro hne
    have h9 : pe 285 (p i) np F ^^^ yv19 f k y p Sh i ≠ 0 := fun e9 => hne (xor_zero19 e9)
    exact fld8.fm_ne hfl (Nat.xor_lt_two_pow (n := 8) (fld8.pe_lt _ _ _) (fm8_lt _ _)) hfn h9 e
  · intro e
    rw [e, Nat.xor_self, fld8.fm_zero]
end Go.Proofs.YtlblkckglelbdaaGreat
