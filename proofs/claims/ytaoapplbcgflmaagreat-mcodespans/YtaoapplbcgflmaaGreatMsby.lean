import Derived.Test.YtaoapplbcgflmaaGreatMsbv
import Derived.Test.YtaoapplbcgflmaaGreatMsbt
namespace Go.Proofs.YtaoapplbcgflmaaGreat
open Go.RowKit Gf2
set_option linter.unusedVariables false

-- layer 17: Fill by a plan
/-- the missing shards' span written. -/
def fil17 (f : Int) (k m : Nat) (P : Nat → Bool) (fr tq : Nat) (S : Nat → Nat → Nat) (i j : Nat) : Nat := if P i = true ∧ fr ≤ j ∧ j < tq then ks (dec17 f k m P (ems P i).length) (fun a => S (eN (fun i => !P i) (k + m) a)) k j else S i j
/-- the missing shards' blocks. -/
abbrev Mb17 (k m : Nat) (P : Nat → Bool) (B : Nat → Nat) : Nat → Prop := Eb (ems P (k + m)).length (fun r => B (eN P (k + m) r))
section
variable {w w' : World} {slo shi n0 l lo N : Nat} {v dx : Value} {C B E : Nat → Nat} {S : Nat → Nat → Nat}
theorem Cs.lv17 (h : Cs slo shi w v n0 (fun _ => l) C B S) (h0 : 0 < n0) : Lv (fun _ => False) w v n0 (fun i => .slice (some ⟨B i, 0, none⟩) l (C i)) := by
  obtain ⟨g, cap, rfl, hc1, hc2, g1, g2, g3, g4⟩ := h.at17 h0
  have := h.hw
  exact ⟨h.mb, _, _, rfl, hc1, hc2, fun _ => ⟨g, 0, rfl, ⟨by omega, fun e => e⟩, fun i hi => by rw [Nat.zero_add]; exact g4 i hi⟩⟩
theorem Cs.dst17 (h : Cs slo shi w v n0 (fun _ => l) C B S) (hE : ∀ r, r < N → E r < n0) (hI : ∀ r s, r < N → s < N → E r = E s → r = s) (hG : Gp lo w dx N (fun r => .slice (some ⟨B (E r), 0, none⟩) l (C (E r)))) (hlo : shi ≤ lo) :
    Dl w dx N l (fun r => B (E r)) (fun _ => 0) (fun b => C (E (inv9 N (fun r => B (E r)) b))) (fun b => S (E (inv9 N (fun r => B (E r)) b))) := by
  have inj : ∀ i j, i < N → j < N → B (E i) = B (E j) → i = j := fun i j hi hj e => hI i j hi hj (h.inj _ _ (hE i hi) (hE j hj) e)
  refine ⟨⟨fun r => some ⟨B (E r), 0, none⟩, fun r => C (E r), hG.lv (fun x ⟨r, hr, e⟩ => ?_), fun r hr => ?_⟩, fun r hr => ?_, fun r s hr hs hrs => .inl (fun e => hrs (inj r s hr hs e))⟩
  · have := (h.row (E r) (hE r hr)).2.1
    have e' : x = B (E r) := e
    omega
  · obtain ⟨r1, r2, r3, r4⟩ := h.row (E r) (hE r hr)
    exact ⟨r3, r4.1, fun _ => rfl⟩
  · obtain ⟨r1, r2, r3, r4⟩ := h.row (E r) (hE r hr)
    show Rw w (B (E r)) (C (E (inv9 N (fun r => B (E r)) (B (E r))))) (S (E (inv9 N (fun r => B (E r)) (B (E r))))) ∧ 0 + l ≤ C (E (inv9 N (fun r => B (E r)) (B (E r))))
    rw [inv9_at (B := fun r => B (E r)) inj hr]
    exact ⟨r4, by omega⟩
theorem Cs.src17 {X : Nat → Prop} (h : Cs slo shi w v n0 (fun _ => l) C B S) (hE : ∀ r, r < N → E r < n0) (hG : Gp lo w dx N (fun r => .slice (some ⟨B (E r), 0, none⟩) l (C (E r)))) (hX : ∀ x, X x → x < lo) (hX2 : ∀ r, r < N → ¬ X (B (E r))) :
    Ll X w dx N (fun _ => l) (fun r => S (E r)) := by
  refine ⟨_, hG.lv hX, fun r hr => ?_⟩
  obtain ⟨r1, r2, r3, r4⟩ := h.row (E r) (hE r hr)
  exact r4.re r3 r3 r4.1 (hX2 r hr)
end
section
variable {w x w4 : World} {c : Nat} {Fp FT : Nat → Prop} {p : Addr} {lo hi : Nat} {rows : Value} {t : Nat} {f : Int} {k m b N : Nat} {L : List (Nat × Ent)} {pl d : Value} {gm Cm gu Cu dlo dhi : Nat} {DC DB : Nat → Nat} {P : Nat → Bool} {slo shi l fr tq : Nat} {C B : Nat → Nat} {S : Nat → Nat → Nat} {v : Value}
theorem fill_chain17 (h : Co x c Fp FT p lo hi rows t f k m b N L) (hp : Pm17 x pl gm Cm gu Cu dlo dhi d DC DB f k m P) (hv : Cs slo shi x v (k + m) (fun _ => l) C B S) (hd : ∀ y, Mb17 k m P B y → ¬ Fp y ∧ ¬ Pk17 gm gu dlo dhi y) (hl : l ≤ 140737488351232) (n1 : 1 ≤ (ems P (k + m)).length) (n2 : (ems P (k + m)).length ≤ m) (h1 : fr ≤ tq) (h2 : tq ≤ l) (b4 : Below x.heap.size x w4) :
    Calls Tryz.prog 48 #[v, .slice (some ⟨gu, 0, none⟩) k Cu] w4 fun e w5 => ∃ sa sn sc, e = .returned (.slice sa sn sc) ∧ Below x.heap.size x w5 ∧
    Calls Tryz.prog 48 #[v, .slice (some ⟨gm, 0, none⟩) (ems P (k + m)).length Cm] w5 fun e w6 => ∃ da dn dc, e = .returned (.slice da dn dc) ∧ Below x.heap.size x w6 ∧
    Calls Tryz.prog 47 #[.pointer (some p), d, .slice sa sn sc, .slice da dn dc, .agg #[.int .i64 (fr : Int), .int .i64 (tq : Int)]] w6 fun e w7 => e = .returned (.int .i64 0) ∧ Ke (Mb17 k m P B) x w7 ∧ Cs slo shi w7 v (k + m) (fun _ => l) C B (fil17 f k m P fr tq S) := by
  have hs := h.hs
  have hk := h.hk
  have hbo := ems_both P (k + m)
  have h0 : 0 < k + m := by omega
  have hf : ∀ i, i < k + m → ∃ a l' c', (fun i => Value.slice (some ⟨B i, 0, none⟩) l (C i)) i = .slice a l' c' := fun i _ => ⟨_, _, _, rfl⟩
  have hp4 := hp.below b4
  have hv4 := hv.below b4
  have hw := hv.hw
  refine (picked17 v _ (k + m) k _ (eN (fun i => !P i) (k + m)) w4 (hv4.lv17 h0) hf hp4.qu (fun i hi => (eN_mem (by omega)).1) (by omega)).mono ?_
  rintro e w5 ⟨sx, rfl, hG5, b45⟩
  obtain ⟨sa, sc, rfl⟩ := hG5.form
  have b5 := b4.trans (b45.mono b4.size)
  have hz4 := b4.size
  have hz5 := b45.size
  refine ⟨sa, _, sc, rfl, b5, ?_⟩
  refine (picked17 v _ (k + m) (ems P (k + m)).length _ (eN P (k + m)) w5 ((hv.below b5).lv17 h0) hf (hp.below b5).qm (fun i hi => (eN_mem hi).1) (by omega)).mono ?_
  rintro e w6 ⟨dx, rfl, hG6, b56⟩
  obtain ⟨da, dc, rfl⟩ := hG6.form
  have b6 := b5.trans (b56.mono b5.size)
  refine ⟨da, _, dc, rfl, b6, ?_⟩
  have hv6 := hv.below b6
  have h6 := h.below b6
  have hp6 := hp.below b6
  have inj : ∀ i j, i < (ems P (k + m)).length → j < (ems P (k + m)).length → B (eN P (k + m) i) = B (eN P (k + m) j) → i = j := fun i j hi hj e => eN_inj hi hj (hv.inj _ _ (eN_mem hi).1 (eN_mem hj).1 e)
  have hM : ∀ y, Mb17 k m P B y → slo ≤ y ∧ y < shi := fun y ⟨r, hr, e⟩ => by
    obtain ⟨r1, r2, -⟩ := hv.row (eN P (k + m) r) (eN_mem hr).1
    have e' : y = B (eN P (k + m) r) := e
    rw [e']
    exact ⟨r1, r2⟩
  have hG56 : Gp w4.heap.size w6 (.slice sa k sc) k (fun r => .slice (some ⟨B (eN (fun i => !P i) (k + m) r), 0, none⟩) l (C (eN (fun i => !P i) (k + m) r))) := by
    obtain ⟨g, Cc, F, e, a1, a2, a3, a4, a5⟩ := hG5
    exact ⟨g, Cc, F, e, a1, a2, a3, a4.of_block (b56.block _ a4.lt), a5⟩
  have hsrc := hv6.src17 (X := Mb17 k m P B) (E := eN (fun i => !P i) (k + m)) (fun r hr => (eN_mem (by omega)).1) hG56 (fun y e => by have := hM y e; omega) (fun r hr ⟨s, hs', e⟩ => by
    have a1 := eN_mem (P := fun i => !P i) (n := k + m) (i := r) (by omega)
    have a2 := eN_mem hs'
    have e' : B (eN (fun i => !P i) (k + m) r) = B (eN P (k + m) s) := e
    have e2 := hv.inj _ _ a1.1 a2.1 e'
    have a3 := a1.2
    rw [e2, a2.2] at a3
    cases a3)
  have hdst := hv6.dst17 (E := eN P (k + m)) (N := (ems P (k + m)).length) (fun r hr => (eN_mem hr).1) (fun r s hr hs' e => eN_inj hr hs' e) hG6 (by omega)
  have hrows := hp6.dr.ll (E := Mb17 k m P B) (fun y a1 a2 e => (hd y e).2 (.inr (.inr ⟨a1, a2⟩)))
  refine (kapply_ok p b lo hi (ems P (k + m)).length k l fr tq (fun r => B (eN P (k + m) r)) (fun _ => 0) _ (dec17 f k m P) (fun r => S (eN (fun i => !P i) (k + m) r)) _ d _ _ w6 h6.ks (by omega) (by omega) (fun r hr => ?_) hrows hsrc hdst h1 ?_).mono ?_
  · have q2 := (hd _ ⟨r, hr, rfl⟩).1
    rcases Nat.lt_or_ge (B (eN P (k + m) r)) lo with e | e
    · exact .inl e
    · refine .inr (Nat.le_of_not_lt (fun e2 => q2 (h.kf _ e e2).1))
  · unfold len9
    rw [if_pos (by omega)]
    exact h2
  · rintro e w7 ⟨rfl, hke, hr⟩
    refine ⟨rfl, (ke_below b6 _).trans hke, hv6.turn (hke.mono (fun y _ ⟨r, hr', e⟩ => ⟨_, (eN_mem hr').1, e⟩)) (fun i hi => ?_)⟩
    obtain ⟨r1, r2, r3, r4⟩ := hv6.row i hi
    by_cases hpi : P i = true
    · obtain ⟨e1, e2⟩ := eN_at hi hpi
      have q := hr _ e1
      simp only [inv9_at (B := fun r => B (eN P (k + m) r)) inj e1] at q
      rw [e2] at q
      refine q.congr (fun j hj => ?_)
      have q2 := cs_apb (B := fun r => B (eN P (k + m) r)) (S := fun r => S (eN P (k + m) r)) inj fr tq (fun r j => ks (dec17 f k m P r) (fun a => S (eN (fun i => !P i) (k + m) a)) k j) (p := j) e1
      simp only [e2] at q2
      rw [q2]
      unfold fil17
      by_cases e : fr ≤ j ∧ j < tq
      · rw [if_pos e, if_pos ⟨hpi, e⟩]
      · rw [if_neg e, if_neg (fun y => e y.2)]
    · refine (hke.rw_ r4 (fun ⟨r, hr', e⟩ => ?_)).congr (fun j hj => (if_neg (fun y => hpi y.1)).symm)
      have e' : B i = B (eN P (k + m) r) := e
      have := hv.inj _ _ hi (eN_mem hr').1 e'
      rw [this] at hpi
      exact hpi (eN_mem hr').2
/-- what Fill leaves. -/
structure Fl17 (w w' : World) (slo shi : Nat) (v : Value) (f : Int) (k m l fr tq : Nat) (P : Nat → Bool) (C B : Nat → Nat) (S : Nat → Nat → Nat) : Prop where
  ke : Ke (Mb17 k m P B) w w'
  cs : Cs slo shi w' v (k + m) (fun _ => l) C B (fil17 f k m P fr tq S)
set_option maxHeartbeats 4000000 in
set_option maxRecDepth 100000 in
theorem Fill17 (h : Co w c Fp FT p lo hi rows t f k m b N L) (hp : Pm17 w pl gm Cm gu Cu dlo dhi d DC DB f k m P) (hv : Cs slo shi w v (k + m) (fun _ => l) C B S) (hd : ∀ y, Mb17 k m P B y → ¬ Fp y ∧ ¬ Pk17 gm gu dlo dhi y) (hl0 : 1 ≤ l) (hl : l ≤ 140737488351232) (n1 : 1 ≤ (ems P (k + m)).length) (n2 : (ems P (k + m)).length ≤ m) (h1 : fr ≤ tq) (h2 : tq ≤ l) :
    Calls Tryz.prog 25 #[.pointer (some ⟨c, 0, none⟩), pl, v, .agg #[.int .i64 (fr : Int), .int .i64 (tq : Int)]] w fun e w' => e = .returned (.int .i64 0) ∧ Fl17 w w' slo shi v f k m l fr tq P C B S := by
  have hpl := hp.eq
  obtain ⟨gd, cd, hde, -⟩ := hp.dr.at17 n1
  subst hde
  obtain ⟨x1, hx1⟩ : ∃ x1, x1 = w.alloc (.cells #[.slice (some ⟨gm, 0, none⟩) (ems P (k + m)).length Cm, .slice (some ⟨gu, 0, none⟩) k Cu, .slice (some ⟨gd, 0, none⟩) (ems P (k + m)).length cd, .slice none 0 0] 54) := ⟨_, rfl⟩
  obtain ⟨b1, pb1, hz1⟩ := plan_new17 hx1
  obtain ⟨hsp, b2⟩ := sp17_new x1 fr tq
  generalize hx : x1.alloc (.cells #[.int .i64 (fr : Int), .int .i64 (tq : Int)] 48) = x at hsp b2
  have HX1 : Hid (w.alloc (.cells #[.slice (some ⟨gm, 0, none⟩) (ems P (k + m)).length Cm, .slice (some ⟨gu, 0, none⟩) k Cu, .slice (some ⟨gd, 0, none⟩) (ems P (k + m)).length cd, .slice none 0 0] 54) = x1) := hx1.symm
  have HX : Hid (x1.alloc (.cells #[.int .i64 (fr : Int), .int .i64 (tq : Int)] 48) = x) := hx
  clear hx hx1
  have b0 : Below w.heap.size w x := b1.trans (b2.mono b1.size)
  have pb := (b2.block _ (by omega)).trans pb1
  have hxz := b2.size
  have c1 := wholeSpan17 (h.below b0) v l fr tq (fun _ => l) S (hv.lb.below b0) hl0 (fun _ _ => rfl) h1 h2
  have c2 := fun y (hb : Below x.heap.size x y) => fits17 ((h.below b0).below hb) ((hp.below b0).below hb) n1 n2
  have c3 := fun y (hb : Below x.heap.size x y) => fill_chain17 (w4 := y) (h.below b0) (hp.below b0) (hv.below b0) hd hl n1 n2 h1 h2 hb
  have HO : Hid (∀ y, Below x.heap.size x y → y.cell? ⟨c, 3, none⟩ = some (.pointer (some p)) ∧ y.cell? ⟨w.heap.size, 2, none⟩ = some (.slice (some ⟨gd, 0, none⟩) (ems P (k + m)).length cd) ∧ y.cell? ⟨w.heap.size, 1, none⟩ = some (.slice (some ⟨gu, 0, none⟩) k Cu) ∧ y.cell? ⟨w.heap.size, 0, none⟩ = some (.slice (some ⟨gm, 0, none⟩) (ems P (k + m)).length Cm) ∧ y.cell? ⟨x1.heap.size, 0, none⟩ = some (.int .i64 (fr : Int)) ∧ y.cell? ⟨x1.heap.size, 1, none⟩ = some (.int .i64 (tq : Int)) ∧ y.cell? ⟨w.heap.size, 3, none⟩ = some (.slice none 0 0)) := fun y hb => by
    have pby := (hb.block _ (by omega)).trans pb
    refine ⟨((h.below b0).below hb).c3, ?_, ?_, ?_, (hsp.below hb).c0, (hsp.below hb).c1, ?_⟩
    · rw [cell_of_row _ _ 2 _ _ _ pby]; rfl
    · rw [cell_of_row _ _ 1 _ _ _ pby]; rfl
    · rw [cell_of_row _ _ 0 _ _ _ pby]; rfl
    · rw [cell_of_row _ _ 3 _ _ _ pby]; rfl
  have HE : Hid (∀ y, Ke (Mb17 k m P B) x y → (y.cell? ⟨c, 3, none⟩ = some (.pointer (some p)) ∧ y.cell? ⟨w.heap.size, 2, none⟩ = some (.slice (some ⟨gd, 0, none⟩) (ems P (k + m)).length cd) ∧ y.cell? ⟨w.heap.size, 1, none⟩ = some (.slice (some ⟨gu, 0, none⟩) k Cu) ∧ y.cell? ⟨w.heap.size, 0, none⟩ = some (.slice (some ⟨gm, 0, none⟩) (ems P (k + m)).length Cm) ∧ y.cell? ⟨x1.heap.size, 0, none⟩ = some (.int .i64 (fr : Int)) ∧ y.cell? ⟨x1.heap.size, 1, none⟩ = some (.int .i64 (tq : Int))) ∧ Ke (Mb17 k m P B) w y) := fun y hk => by
    have hM : ∀ z, Mb17 k m P B z → z < w.heap.size := fun z ⟨r, hr, e⟩ => by
      obtain ⟨r1, r2, -⟩ := hv.row (eN P (k + m) r) (eN_mem hr).1
      have e' : z = B (eN P (k + m) r) := e
      have := hv.hw
      omega
    have pby := (hk.2 _ (by omega) (fun e => by have := hM _ e; omega)).trans pb
    have hsy := hsp.ke hk (fun e => by have := hM _ e; omega)
    refine ⟨⟨((h.below b0).ke hk (fun z e => (hd z e).1)).c3, ?_, ?_, ?_, hsy.c0, hsy.c1⟩, (ke_below b0 _).trans hk⟩
    · rw [cell_of_row _ _ 2 _ _ _ pby]; rfl
    · rw [cell_of_row _ _ 1 _ _ _ pby]; rfl
    · rw [cell_of_row _ _ 0 _ _ _ pby]; rfl
  obtain ⟨n, hn⟩ : ∃ n, n = (ems P (k + m)).length := ⟨_, rfl⟩
  have z0 : ((w.alloc (.cells #[.slice (some ⟨gm, 0, none⟩) (ems P (k + m)).length Cm, .slice (some ⟨gu, 0, none⟩) k Cu, .slice (some ⟨gd, 0, none⟩) (ems P (k + m)).length cd, .slice none 0 0] 54)).alloc (.cells #[.int .i64 (fr : Int), .int .i64 (tq : Int)] 48)).cell? ⟨w.heap.size + 1, 0, none⟩ = some (.int .i64 (fr : Int)) := by rw [HX1.out, HX.out, ← hz1]; exact hsp.c0
  have z1 : ((w.alloc (.cells #[.slice (some ⟨gm, 0, none⟩) (ems P (k + m)).length Cm, .slice (some ⟨gu, 0, none⟩) k Cu, .slice (some ⟨gd, 0, none⟩) (ems P (k + m)).length cd, .slice none 0 0] 54)).alloc (.cells #[.int .i64 (fr : Int), .int .i64 (tq : Int)] 48)).cell? ⟨w.heap.size + 1, 1, none⟩ = some (.int .i64 (tq : Int)) := by rw [HX1.out, HX.out, ← hz1]; exact hsp.c1
  rw [hz1] at HO HE
  obtain ⟨va, vn, vc, rfl⟩ : ∃ va vn vc, v = .slice va vn vc := by
    obtain ⟨a, cc, e, -⟩ := hv.form
    exact ⟨_, _, _, e⟩
  subst hpl
  rw [← hn] at c2 c3 HO HE HX1 z0 z1
  rw [← hn]
  clear h hp hv hd hl0 hl n1 n2 h1 h2 b1 pb1 b2 b0 pb hsp hn hz1 hxz
  go_enter Tryz.func25, Tryz.ntmps25
  go_wp2_with (first
    | (go_at_call 39; rw [HX1.out, HX.out]; clear HX1 HX; (with_reducible refine c1.mono ?_); rintro e w1 ⟨rfl, hb1⟩; clear c1 z0 z1; obtain ⟨-, y2, y1, y0, -, -, y3⟩ := HO.out w1 hb1; have c4 := c2 w1 hb1; have HB1 : Hid _ := hb1; clear c2 hb1)
    | (go_at_call 46; (with_reducible refine c4.mono ?_); rintro e w2 ⟨rfl, hb2⟩; clear c4 y0 y1 y2 y3; have HB2 : Hid (Below x.heap.size x w2) := HB1.out.trans (hb2.mono HB1.out.size); clear hb2 HB1))
  obtain ⟨q0, q1, q2, q3, q4, q5, -⟩ := HO.out w2.drew HB2.out.drew
  have c5 := c3 w2.drew HB2.out.drew
  clear c3
  refine region_planI (fun w' => w'.cell? ⟨c, 3, none⟩ = some (.pointer (some p)) ∧ w'.cell? ⟨w.heap.size, 2, none⟩ = some (.slice (some ⟨gd, 0, none⟩) n cd) ∧ w'.cell? ⟨w.heap.size, 1, none⟩ = some (.slice (some ⟨gu, 0, none⟩) k Cu) ∧ w'.cell? ⟨w.heap.size, 0, none⟩ = some (.slice (some ⟨gm, 0, none⟩) n Cm) ∧ w'.cell? ⟨w.heap.size + 1, 0, none⟩ = some (.int .i64 (fr : Int)) ∧ w'.cell? ⟨w.heap.size + 1, 1, none⟩ = some (.int .i64 (tq : Int))) [0, 1, 2, 3, 4, 5, 6, 7, 8, 10, 11, 12, 14, 9, 13, 15, 16] [13, 0, 0, 1] 37 ⟨q0, q1, q2, q3, q4, q5⟩ (by kernel_rfl) (by kernel_rfl) (fun _ a d v _ h => by cases d <;> exact h) ?_
  simp only [atI, List.getElem?_cons_zero, List.getElem?_cons_succ]
  refine planH_step ?Af0 rfl (fun w' hS => ?sf0) rfl (fun K hK => ?nf0)
  case sf0 =>
    obtain ⟨y0, y1, y2, y3, y4, y5⟩ := hS
    simp only [List.take_succ_cons, List.take_zero]
    repeat still_step
    exact rfl
  case nf0 =>
  go_simp
  go_wp2_with (go_at_call 48; (with_reducible refine c5.mono ?_); rintro e w5 ⟨sa, sn, sc, rfl, hb5, c6⟩; clear c5 q0 q1 q2 q3 q4 q5; obtain ⟨q0, q1, q2, q3, q4, q5, -⟩ := HO.out w5 hb5)
  refine hK _ _ ⟨q0, q1, q2, q3, q4, q5⟩ ?_
  clear hK K
  refine planH_step ?Af1 rfl (fun w' hS => ?sf1) rfl (fun K hK => ?nf1)
  case sf1 =>
    obtain ⟨y0, y1, y2, y3, y4, y5⟩ := hS
    simp only [List.take_zero]
    exact rfl
  case nf1 =>
  go_simp
  go_wp2_with (go_at_call 48; (with_reducible refine c6.mono ?_); rintro e w6 ⟨da, dn, dc, rfl, hb6, c7⟩; clear c6 q0 q1 q2 q3 q4 q5; obtain ⟨q0, q1, q2, q3, q4, q5, -⟩ := HO.out w6 hb6)
  refine hK _ _ ⟨q0, q1, q2, q3, q4, q5⟩ ?_
  clear hK K
  refine planH_step ?Af2 rfl (fun w' hS => ?sf2) rfl (fun K hK => ?nf2)
  case sf2 =>
    obtain ⟨y0, y1, y2, y3, y4, y5⟩ := hS
    simp only [List.take_zero]
    exact rfl
  case nf2 =>
  go_simp
  go_wp2_with (go_at_call 47; (with_reducible refine c7.mono ?_); rintro e w7 ⟨rfl, hk7, hcs7⟩; clear c7 q0 q1 q2 q3 q4 q5; obtain ⟨⟨q0, q1, q2, q3, q4, q5⟩, hkw⟩ := HE.out w7 hk7; have HF : Hid (Fl17 w w7 slo shi (.slice va vn vc) f k m l fr tq P C B S) := ⟨hkw, hcs7⟩; clear hk7 hkw hcs7)
  refine hK _ _ ⟨q0, q1, q2, q3, q4, q5⟩ ?_
  clear hK K
  refine planH_last ?Af3 rfl (fun w' hS => ?sf3) rfl ?nf3
  case sf3 =>
    obtain ⟨y0, y1, y2, y3, y4, y5⟩ := hS
    simp only [List.take_succ_cons, List.take_zero]
    repeat still_step
    exact rfl
  case nf3 =>
  clear q0 q1 q2 q3 q4 q5
  go_wp2
  go_ret
  exact ⟨rfl, HF.out⟩
end
end Go.Proofs.YtaoapplbcgflmaaGreat
namespace Go.Proofs.YtaoapplbcgflmaaGreat
open Go.RowKit Gf2
set_option linter.unusedVariables false

-- layer 17: a span that ends behind the length
set_option maxHeartbeats 1000000 in
theorem within17_no (f t l : Nat) (w : World) (h1 : f ≤ t) (h2 : l < t) :
    Calls Tryz.prog 42 #[.agg #[.int .i64 (f : Int), .int .i64 (t : Int)], .int .i64 (l : Int)] w fun e w' => e = .returned (.bool false) ∧ Below w.heap.size w w' := by
  obtain ⟨hs, hb⟩ := sp17_new w f t
  have y0 := hs.c0
  have y1 := hs.c1
  have a1 : (0 : Int) ≤ (f : Int) := by omega
  have a2 : (f : Int) ≤ (t : Int) := by omega
  have a3 : ¬ (t : Int) ≤ (l : Int) := by omega
  have HB : Hid _ := hb
  clear hs h1 h2 hb
  go_enter Tryz.func42, Tryz.ntmps42
  go_wp2
  go_ret
  exact ⟨rfl, HB.out⟩
section
variable {w : World} {c : Nat} {Fp FT : Nat → Prop} {p : Addr} {lo hi : Nat} {rows : Value} {t : Nat} {f : Int} {k m b N : Nat} {L : List (Nat × Ent)} {v : Value} {l fr tq : Nat}
set_option maxHeartbeats 2000000 in
set_option maxRecDepth 100000 in
theorem wholeSpan17_range (h : Co w c Fp FT p lo hi rows t f k m b N L) (v : Value) (l fr tq : Nat) (n : Nat → Nat) (S : Nat → Nat → Nat) (hv : Lb w v (k + m) n S) (hl : 1 ≤ l) (hn : ∀ i, i < k + m → n i = l) (h1 : fr ≤ tq) (h2 : l < tq) :
    Calls Tryz.prog 39 #[.pointer (some ⟨c, 0, none⟩), v, .agg #[.int .i64 (fr : Int), .int .i64 (tq : Int)]] w fun e w' => e = .returned (.int .i64 7) ∧ Below w.heap.size w w' := by
  obtain ⟨hs, hb0⟩ := sp17_new w fr tq
  have c1 := whole17 (h.below hb0) v l n S (hv.below hb0) hl hn
  have c2 := fun x => within17_no fr tq l x h1 h2
  have HS : Hid (Sp17 _ w.heap.size fr tq) := hs
  clear h hv hn h1 h2 hl hs
  go_enter Tryz.func39, Tryz.ntmps39
  go_wp2_with (first
    | (go_at_call 34; (with_reducible refine c1.mono ?_); rintro e w1 ⟨rfl, hb⟩; clear c1; have y0 := (HS.out.below hb).c0; have y1 := (HS.out.below hb).c1; clear HS)
    | (go_at_call 42; (with_reducible refine (c2 _).mono ?_); rintro e w2 ⟨rfl, hb2⟩; clear c2))
  go_ret
  have hb1 := hb0.trans (hb.mono hb0.size)
  exact ⟨rfl, hb1.trans (hb2.mono hb1.size)⟩
set_option maxHeartbeats 2000000 in
set_option maxRecDepth 100000 in
theorem Fill17_range (h : Co w c Fp FT p lo hi rows t f k m b N L) (p0 p1 p2 p3 : Value) (n : Nat → Nat) (S : Nat → Nat → Nat) (hv : Lb w v (k + m) n S) (hl : 1 ≤ l) (hn : ∀ i, i < k + m → n i = l) (h1 : fr ≤ tq) (h2 : l < tq) :
    Calls Tryz.prog 25 #[.pointer (some ⟨c, 0, none⟩), .agg #[p0, p1, p2, p3], v, .agg #[.int .i64 (fr : Int), .int .i64 (tq : Int)]] w fun e w' => e = .returned (.int .i64 7) ∧ Below w.heap.size w w' := by
  obtain ⟨x1, hx1⟩ : ∃ x1, x1 = w.alloc (.cells #[p0, p1, p2, p3] 54) := ⟨_, rfl⟩
  obtain ⟨b1, pb1, hz1⟩ := plan_new17 hx1
  obtain ⟨hsp, b2⟩ := sp17_new x1 fr tq
  generalize hx : x1.alloc (.cells #[.int .i64 (fr : Int), .int .i64 (tq : Int)] 48) = x at hsp b2
  have HX1 : Hid (w.alloc (.cells #[p0, p1, p2, p3] 54) = x1) := hx1.symm
  have HX : Hid (x1.alloc (.cells #[.int .i64 (fr : Int), .int .i64 (tq : Int)] 48) = x) := hx
  clear hx hx1
  have b0 : Below w.heap.size w x := b1.trans (b2.mono b1.size)
  have c1 := wholeSpan17_range (h.below b0) v l fr tq n S (hv.below b0) hl hn h1 h2
  have z0 : ((w.alloc (.cells #[p0, p1, p2, p3] 54)).alloc (.cells #[.int .i64 (fr : Int), .int .i64 (tq : Int)] 48)).cell? ⟨w.heap.size + 1, 0, none⟩ = some (.int .i64 (fr : Int)) := by rw [HX1.out, HX.out, ← hz1]; exact hsp.c0
  have z1 : ((w.alloc (.cells #[p0, p1, p2, p3] 54)).alloc (.cells #[.int .i64 (fr : Int), .int .i64 (tq : Int)] 48)).cell? ⟨w.heap.size + 1, 1, none⟩ = some (.int .i64 (tq : Int)) := by rw [HX1.out, HX.out, ← hz1]; exact hsp.c1
  have HB : Hid (Below w.heap.size w x) := b0
  obtain ⟨va, vn, vc, rfl⟩ : ∃ va vn vc, v = .slice va vn vc := by
    obtain ⟨V, ⟨-, a, cc, e, -⟩, -⟩ := hv
    exact ⟨_, _, _, e⟩
  clear h hv hl hn h1 h2 b0 b1 b2 pb1 hz1 hsp
  go_enter Tryz.func25, Tryz.ntmps25
  go_wp2_with (go_at_call 39; rw [HX1.out, HX.out]; clear HX1 HX; (with_reducible refine c1.mono ?_); rintro e w1 ⟨rfl, hb1⟩; clear c1 z0 z1)
  go_ret
  exact ⟨rfl, HB.out.trans (hb1.mono HB.out.size)⟩
end
end Go.Proofs.YtaoapplbcgflmaaGreat
