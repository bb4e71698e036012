import Derived.Test.YtaoapplbcgflmaaGreatMlbu
import Derived.Test.YtaoapplbcgflmaaGreatMlbs
import Derived.Test.YtaoapplbcgflmaaGreatMlbq
import Derived.Test.YtaoapplbcgflmaaGreatMlbt
namespace Go.Proofs.YtaoapplbcgflmaaGreat
open Go.RowKit Gf2
set_option linter.unusedVariables false

-- layer 17: awake
set_option maxHeartbeats 2000000 in
set_option maxRecDepth 100000 in
theorem awake_chain17 (w : World) : Calls Tryz.prog 30 #[.int .i64 0, .int .i64 0, .int .i64 2, .int .i64 1] w fun e w1 => ∃ c, e = .returned (.tuple #[.pointer (some ⟨c, 0, none⟩), .int .i64 0]) ∧
    Calls Tryz.prog 13 #[.pointer (some ⟨c, 0, none⟩), .slice (some ⟨w1.heap.size + 3, 0, none⟩) 3 3] (lw17 w1 5 0 7 1 0 0) fun e w2 => e = .returned (.int .i64 0) ∧
    Calls Tryz.prog 14 #[.slice (some ⟨w1.heap.size + 3, 0, none⟩) 3 3, .slice (some ⟨w2.heap.size + 3, 0, none⟩) 3 3] (lw17 w2 5 0 7 1 1 2) fun e w3 => e = .returned (.bool true) ∧
    Calls Tryz.prog 20 #[.pointer (some ⟨c, 0, none⟩), .slice (some ⟨w1.heap.size + 3, 0, none⟩) 3 3] w3 fun e w4 => e = .returned (.tuple #[.bool true, .int .i64 0]) ∧
    (w4.cell? ⟨w1.heap.size + 3, 0, none⟩ = some (.slice (some ⟨w1.heap.size + 0, 0, none⟩) 2 2) ∧ w4.frozen? ⟨w1.heap.size + 3, 0, none⟩ = false) ∧
    Calls Tryz.prog 18 #[.pointer (some ⟨c, 0, none⟩), .slice (some ⟨w1.heap.size + 3, 0, none⟩) 3 3] (w4.setCell ⟨w1.heap.size + 3, 0, none⟩ (.slice none 0 0)) fun e w5 => e = .returned (.int .i64 0) ∧
    Calls Tryz.prog 14 #[.slice (some ⟨w1.heap.size + 3, 0, none⟩) 3 3, .slice (some ⟨w5.heap.size + 3, 0, none⟩) 3 3] (lw17 w5 5 0 7 1 1 2) fun e w6 => e = .returned (.bool true) ∧
    Calls Tryz.prog 33 #[.pointer (some ⟨c, 0, none⟩)] w6 fun e w7 => e = .returned (.int .i64 1) ∧
    Calls Tryz.prog 22 #[.pointer (some ⟨c, 0, none⟩), .slice (some ⟨w1.heap.size + 3, 0, none⟩) 3 3, .slice (some ⟨w7.heap.size + 2, 0, none⟩) 2 2] (lf17 w7) fun e w8 => e = .returned (.int .i64 0) ∧
    Calls Tryz.prog 14 #[.slice (some ⟨w1.heap.size + 3, 0, none⟩) 3 3, .slice (some ⟨w8.heap.size + 3, 0, none⟩) 3 3] (lw17 w8 5 0 7 1 3 2) fun e w9 => e = .returned (.bool true) ∧ Below w.heap.size w w9 := by
  refine (new17 0 0 2 1 w (.inl rfl) (by decide) (by decide) (by decide) (by decide)).mono ?_
  rintro e w1 ⟨c, rfl, hN⟩
  refine ⟨c, rfl, ?_⟩
  obtain ⟨⟨FT, p, lo, hi, rows, t, hC⟩, b1⟩ := hN
  have hz1 := b1.size
  obtain ⟨L1, bl1, zl1, rl1⟩ := lit17 w1 (a := 5) (b := 0) (c := 7) (d := 1) (e := 0) (f := 0) (by decide)
  have hC1 := hC.below bl1
  have hd1 : ∀ x, Pb17 2 1 (fun i => w1.heap.size + i) x → ¬ (w.heap.size ≤ x ∧ x < w1.heap.size) := fun x ⟨r, hr, e⟩ h => by
    have e' : x = w1.heap.size + (2 + r) := e
    omega
  refine (Encode17 hC1 L1 hd1 (by decide)).mono ?_
  rintro e w2 ⟨rfl, hE⟩
  refine ⟨rfl, ?_⟩
  have cs2 : Cs w1.heap.size (w1.heap.size + 4) w2 (.slice (some ⟨w1.heap.size + 3, 0, none⟩) 3 3) 3 (fun _ => 2) (fun _ => 2) (fun i => w1.heap.size + i) (lv17 5 0 7 1 1 2) := hE.cs.congr (fun i hi j hj => aw_enc17 i hi j hj)
  have k2 := hE.ke
  have hC2 := hC1.ke k2 hd1
  have hz2 := k2.size
  obtain ⟨L2, bl2, zl2, rl2⟩ := lit17 w2 (a := 5) (b := 0) (c := 7) (d := 1) (e := 1) (f := 2) (by decide)
  refine (alike17 _ _ 3 (fun _ => 2) (lv17 5 0 7 1 1 2) _ (cs2.below bl2).lb L2.lb (by decide) (fun _ _ => by decide)).mono ?_
  rintro e w3 ⟨rfl, q, rfl⟩
  refine ⟨rfl, ?_⟩
  have b23 : Below w2.heap.size w2 ((lw17 w2 5 0 7 1 1 2).drewN q) := below_drewN bl2 q
  refine (Verify17 (hC2.below b23) (cs2.below b23).lb (by decide) (by decide)).mono ?_
  rintro e w4 ⟨bo, rfl, hV⟩
  have hbo : bo = true := hV.yes.2 (fun r hr j _ hj => aw_ver17 r hr j hj)
  subst hbo
  refine ⟨rfl, ?_⟩
  have b24 := b23.trans (hV.bel.mono b23.size)
  have cs4 := cs2.below b24
  have hC4 := hC2.below b24
  have hz4 := b24.size
  have rl4 : w4.rowIs (w1.heap.size + 3) 27 3 (fun i => .slice (some ⟨w1.heap.size + i, 0, none⟩) 2 2) :=
    (rl1.of_block (k2.2 _ (by omega) (fun ⟨r, hr, e⟩ => by have e' : w1.heap.size + 3 = w1.heap.size + (2 + r) := e; omega))).of_block (b24.block _ (by omega))
  refine ⟨⟨rl4.cell (by decide), rl4.frozen 0⟩, ?_⟩
  have k4 : Ke (fun x => x = w1.heap.size + 3) w4 (w4.setCell ⟨w1.heap.size + 3, 0, none⟩ (.slice none 0 0)) := ((Only.refl _ _).setCell _ _).kp.ke
  have rl4' := rl4.set 0 (.slice none 0 0)
  generalize hw4' : w4.setCell ⟨w1.heap.size + 3, 0, none⟩ (.slice none 0 0) = w4' at k4 rl4'
  have hz4' := k4.size
  have hC4' := hC4.ke k4 (fun x e h => by omega)
  have hrow4 : ∀ i, 0 < i → i < 3 → Rw w4' (w1.heap.size + i) 2 (lv17 5 0 7 1 1 2 i) := fun i h0 hi => k4.rw_ (cs4.row i hi).2.2.2 (by show ¬ w1.heap.size + i = w1.heap.size + 3; omega)
  have hS : Sh17 w4' (.slice (some ⟨w1.heap.size + 3, 0, none⟩) 3 3) (w1.heap.size + 3) (2 + 1) 3 2 p0_17 (fun i => if i = 0 then .slice none 0 0 else .slice (some ⟨w1.heap.size + i, 0, none⟩) 2 2) (lv17 5 0 7 1 1 2) (fun x => w.heap.size ≤ x ∧ x < w1.heap.size) := by
    refine ⟨rfl, by decide, by decide, ⟨_, rl4', fun i hi => rfl⟩, fun i hi => ?_⟩
    by_cases e : i = 0
    · rw [if_pos e, e]
      exact ⟨Nat.zero_le _, fun i hi => absurd hi (Nat.not_lt_zero _), _, _, rfl, Nat.le_refl _, Nat.zero_le _, fun h => absurd h (Nat.lt_irrefl _)⟩
    · have hp : p0_17 i = false := beq_eq_false_iff_ne.2 e
      rw [if_neg e, hp, if_neg (by decide)]
      have hr := hrow4 i (by omega) hi
      exact hr.re (Nat.le_refl _) (Nat.le_refl _) hr.1 (fun h => by omega)
  refine (Reconstruct17_new hC4' hS (fun h => by omega) (by decide) (by decide) (by rw [aw_ems17]; decide) (by rw [aw_ems17]; decide) (fun b x h => by cases h) (by decide) (by decide)).mono ?_
  rintro e w5 ⟨rfl, hR⟩
  refine ⟨rfl, ?_⟩
  have lb5 : Lb w5 (.slice (some ⟨w1.heap.size + 3, 0, none⟩) 3 3) 3 (fun _ => 2) (lv17 5 0 7 1 1 2) := (hR.lb.lens (n' := fun _ => 2) (fun i hi => if_neg (by omega))).congr (fun i hi j hj => aw_giv17 i hi j hj)
  obtain ⟨Fp', N', L', ⟨FT', p', lo', hi', rows', t', hC5⟩, hF', hN', hL', he', ⟨hgl, hgF'⟩, B0, F, cap, V, hv, hrow5, hF5, hV5, hB0, hr5⟩ := hR.co
  cases hv
  have k5 := hR.ke
  have hz5 := k5.size
  obtain ⟨L5, bl5, zl5, -⟩ := lit17 w5 (a := 5) (b := 0) (c := 7) (d := 1) (e := 1) (f := 2) (by decide)
  refine (alike17 _ _ 3 (fun _ => 2) (lv17 5 0 7 1 1 2) _ (lb5.below bl5) L5.lb (by decide) (fun _ _ => by decide)).mono ?_
  rintro e w6 ⟨rfl, q5, rfl⟩
  refine ⟨rfl, ?_⟩
  have b56 : Below w5.heap.size w5 ((lw17 w5 5 0 7 1 1 2).drewN q5) := below_drewN bl5 q5
  generalize (lw17 w5 5 0 7 1 1 2).drewN q5 = w6 at b56
  have hz6 := b56.size
  refine (Cached17 (hC5.below b56)).mono ?_
  rintro e w7 ⟨rfl, rfl⟩
  refine ⟨by rw [hL']; rfl, ?_⟩
  obtain ⟨lf, blf⟩ := litf17 w7
  have hz7 := blf.size
  have e1 : (ems p0_17 (2 + 1)).length = 1 := by rw [aw_ems17]; rfl
  rw [e1] at hF5 hr5
  have hVi : ∀ i, 0 < i → i < 3 → V i = .slice (some ⟨w1.heap.size + i, 0, none⟩) 2 2 := fun i h0 hi => by
    have h1 := hV5 i hi
    have h2 := rl4'.cell (i := i) hi
    rw [h2] at h1
    have h3 := Option.some.inj h1
    rw [← h3, if_neg (by omega)]
  have hcs5 : Cs 0 w5.heap.size w5 (.slice (some ⟨w1.heap.size + 3, 0, none⟩) (2 + 1) 3) (2 + 1) (fun _ => 2) (fun _ => 2) (fun i => if i = 0 then B0 else w1.heap.size + i) (lv17 5 0 7 1 1 2) := by
    obtain ⟨h50, -⟩ := hr5 0 (by decide)
    refine ⟨by decide, Nat.le_refl _, ⟨_, _, rfl, by decide, by decide, fun _ => ⟨w1.heap.size + 3, rfl, Nat.zero_le _, hgl, fun i hi => ?_, fun i hi => ?_⟩⟩, fun i hi => ?_, fun i j hi hj e => ?_⟩
    · show (if i = 0 then B0 else w1.heap.size + i) ≠ w1.heap.size + 3
      split <;> omega
    · rw [hrow5.cell hi, hF5 i hi]
      unfold lst17
      by_cases e : i = 0
      · subst e
        rw [if_pos ⟨rfl, by decide⟩, if_pos rfl]
        rfl
      · have hp : p0_17 i = false := beq_eq_false_iff_ne.2 e
        rw [if_neg (by rw [hp]; exact fun h => Bool.noConfusion h.1), if_neg e, hVi i (by omega) hi]
    · by_cases e : i = 0
      · subst e
        refine ⟨Nat.zero_le _, by show (if 0 = 0 then B0 else _) < _; rw [if_pos rfl]; exact h50.lt, Nat.le_refl _, ?_⟩
        show Rw w5 (if 0 = 0 then B0 else _) 2 _
        rw [if_pos rfl]
        exact h50.congr (fun j hj => aw_giv17 0 (by decide) j hj)
      · show 0 ≤ (if i = 0 then B0 else w1.heap.size + i) ∧ (if i = 0 then B0 else w1.heap.size + i) < _ ∧ 2 ≤ 2 ∧ Rw w5 (if i = 0 then B0 else w1.heap.size + i) 2 _
        rw [if_neg e]
        have hr := k5.rw_ (hrow4 i (by omega) hi) (fun h => by omega)
        exact ⟨Nat.zero_le _, hr.lt, Nat.le_refl _, hr⟩
    · have e' : (if i = 0 then B0 else w1.heap.size + i) = (if j = 0 then B0 else w1.heap.size + j) := e
      split at e' <;> split at e' <;> omega
  have b57 := b56.trans (blf.mono b56.size)
  have hd7 : ∀ x, Pb17 2 1 (fun i => if i = 0 then B0 else w1.heap.size + i) x → x = w1.heap.size + 2 := fun x ⟨r, hr, e⟩ => by
    have e' : x = (if 2 + r = 0 then B0 else w1.heap.size + (2 + r)) := e
    rw [if_neg (by omega)] at e'
    omega
  refine (Update17 (Q := p1_17) (Fr := fr17) (hC5.below b57) (hcs5.below b57) (fun x e h => ?_) (by decide) (by decide) _ (lf.mono (fun x _ e => by have := hd7 x e; omega))).mono ?_
  · have e2 := hd7 x e
    rcases hF' x h with h1 | h1 <;> omega
  rintro e w8 ⟨rfl, hU⟩
  refine ⟨rfl, ?_⟩
  have cs8 := hU.cs
  rw [show (ems p1_17 2).length = 1 by rw [aw_ems17b]; rfl] at cs8
  have cs8' := cs8.congr (fun i hi j hj => aw_upd17 i hi j hj)
  obtain ⟨L8, bl8, zl8, -⟩ := lit17 w8 (a := 5) (b := 0) (c := 7) (d := 1) (e := 3) (f := 2) (by decide)
  refine (alike17 _ _ 3 (fun _ => 2) (lv17 5 0 7 1 3 2) _ (cs8'.below bl8).lb L8.lb (by decide) (fun _ _ => by decide)).mono ?_
  rintro e w9 ⟨rfl, q8, rfl⟩
  refine ⟨rfl, ?_⟩
  have c1 : Below w.heap.size w (lw17 w1 5 0 7 1 0 0) := b1.trans (bl1.mono hz1)
  have c2 := c1.trans (k2.below (B := w.heap.size) (fun x ⟨r, hr, e⟩ => by have e' : x = w1.heap.size + (2 + r) := e; omega) c1.size)
  have c4 := c2.trans (b24.mono c2.size)
  have c5 := c4.trans (k4.below (B := w.heap.size) (fun x e => by omega) c4.size)
  have c6 := c5.trans (k5.below (B := w.heap.size) (fun x e => by rcases e with e | e <;> omega) c5.size)
  have c7 := c6.trans (b57.mono c6.size)
  have c8 := c7.trans (hU.ke.below (B := w.heap.size) (fun x e => by have := hd7 x e; omega) c7.size)
  exact below_drewN (c8.trans (bl8.mono c8.size)) q8
end Go.Proofs.YtaoapplbcgflmaaGreat
namespace Go.Proofs.YtaoapplbcgflmaaGreat
open Go.RowKit Gf2
set_option linter.unusedVariables false

-- layer 17: awake
set_option maxHeartbeats 8000000 in
set_option maxRecDepth 100000 in
theorem awake17 (w : World) : Calls Tryz.prog 10 #[] w fun e w' => e = .returned (.bool true) ∧ Below w.heap.size w w' := by
  have c1 := awake_chain17 w
  unfold lw17 w3_16 lf17 at c1
  go_enter Tryz.func10, Tryz.ntmps10
  go_wp2_with (first
    | (go_at_call 30; (refine c1.mono ?_); rintro e w1 ⟨c, rfl, c2⟩; clear c1)
    | (go_at_call 13; (refine c2.mono ?_); rintro e w2 ⟨rfl, c3⟩; clear c2)
    | (go_at_call 14; (refine c3.mono ?_); rintro e w3 ⟨rfl, c4⟩; clear c3)
    | (go_at_call 20; (refine c4.mono ?_); rintro e w4 ⟨rfl, ⟨q1, q2⟩, c5⟩; clear c4)
    | (go_at_call 18; (refine c5.mono ?_); rintro e w5 ⟨rfl, c6⟩; clear c5 q1 q2)
    | (go_at_call 14; (refine c6.mono ?_); rintro e w6 ⟨rfl, c7⟩; clear c6)
    | (go_at_call 33; (refine c7.mono ?_); rintro e w7 ⟨rfl, c8⟩; clear c7)
    | (go_at_call 22; (refine c8.mono ?_); rintro e w8 ⟨rfl, c9⟩; clear c8)
    | (go_at_call 14; (refine c9.mono ?_); rintro e w9 ⟨rfl, hb⟩; clear c9))
  go_ret
  exact ⟨rfl, hb⟩
end Go.Proofs.YtaoapplbcgflmaaGreat
namespace Go.Proofs.YtaoapplbcgflmaaGreat
open Go.RowKit Gf2
set_option linter.unusedVariables false

-- layer 17: Plan, in memory of its own; by the cache or not
/-- a plan in memory. -/
structure Pm17 (w : World) (pl : Value) (gm Cm gu Cu dlo dhi : Nat) (d : Value) (DC DB : Nat → Nat) (f : Int) (k m : Nat) (P : Nat → Bool) : Prop where
  eq : pl = .agg #[.slice (some ⟨gm, 0, none⟩) (ems P (k + m)).length Cm, .slice (some ⟨gu, 0, none⟩) k Cu, d, .slice none 0 0]
  mr : ∃ Fm, (ems P (k + m)).length ≤ Cm ∧ Ri w gm Cm Fm ∧ ∀ i, i < (ems P (k + m)).length → Fm i = emz P (k + m) i
  ur : ∃ Fu, k ≤ Cu ∧ Ri w gu Cu Fu ∧ ∀ i, i < k → Fu i = emz (fun i => !P i) (k + m) i
  dr : Cs dlo dhi w d (ems P (k + m)).length (fun _ => k) DC DB (dec17 f k m P)
  ne : gm ≠ gu ∧ (gm < dlo ∨ dhi ≤ gm) ∧ (gu < dlo ∨ dhi ≤ gu)
  dl : ∃ g C F, d = .slice (some ⟨g, 0, none⟩) (ems P (k + m)).length C ∧ (ems P (k + m)).length ≤ C ∧ (dlo ≤ g ∧ g < dhi) ∧ w.rowIs g 27 C F
section
variable {w w' : World} {pl d : Value} {gm Cm gu Cu dlo dhi : Nat} {DC DB : Nat → Nat} {f : Int} {k m : Nat} {P : Nat → Bool}
/-- the blocks of a plan. -/
def Pk17 (gm gu dlo dhi x : Nat) : Prop := x = gm ∨ x = gu ∨ (dlo ≤ x ∧ x < dhi)
theorem Pm17.ke {E : Nat → Prop} (h : Pm17 w pl gm Cm gu Cu dlo dhi d DC DB f k m P) (hk : Ke E w w') (hE : ∀ x, Pk17 gm gu dlo dhi x → ¬ E x) : Pm17 w' pl gm Cm gu Cu dlo dhi d DC DB f k m P := by
  obtain ⟨e, ⟨Fm, a1, a2, a3⟩, ⟨Fu, b1, b2, b3⟩, hd, hn, ⟨g, C, F, c1, c2, c3, c4⟩⟩ := h
  exact ⟨e, ⟨Fm, a1, ⟨a2.1, trivial, a2.2.2.of_block (hk.2 gm a2.2.2.lt (hE _ (.inl rfl)))⟩, a3⟩, ⟨Fu, b1, ⟨b2.1, trivial, b2.2.2.of_block (hk.2 gu b2.2.2.lt (hE _ (.inr (.inl rfl))))⟩, b3⟩, hd.keep hk (fun x h1 h2 => hE x (.inr (.inr ⟨h1, h2⟩))), hn, ⟨g, C, F, c1, c2, c3, c4.of_block (hk.2 g c4.lt (hE g (.inr (.inr c3))))⟩⟩
theorem Pm17.below (h : Pm17 w pl gm Cm gu Cu dlo dhi d DC DB f k m P) (hb : Below w.heap.size w w') : Pm17 w' pl gm Cm gu Cu dlo dhi d DC DB f k m P := h.ke (ke_below hb (fun _ => False)) (fun _ _ e => e)
theorem ri_qi17 {g C n : Nat} {F S : Nat → Int} (h : Ri w g C F) (hn : n ≤ C) (e : ∀ i, i < n → F i = S i) : Qi w (.slice (some ⟨g, 0, none⟩) n C) n S := by
  refine ⟨Nat.le_trans hn h.1, trivial, _, _, rfl, hn, h.1, fun _ => ⟨g, 0, rfl, h.2.2.lt, fun i hi => ?_⟩⟩
  rw [Nat.zero_add, h.2.2.cell (by omega), e i hi]
theorem Pm17.qm (h : Pm17 w pl gm Cm gu Cu dlo dhi d DC DB f k m P) : Qi w (.slice (some ⟨gm, 0, none⟩) (ems P (k + m)).length Cm) (ems P (k + m)).length (emz P (k + m)) := by
  obtain ⟨Fm, a1, a2, a3⟩ := h.mr
  exact ri_qi17 a2 a1 a3
theorem Pm17.qu (h : Pm17 w pl gm Cm gu Cu dlo dhi d DC DB f k m P) : Qi w (.slice (some ⟨gu, 0, none⟩) k Cu) k (emz (fun i => !P i) (k + m)) := by
  obtain ⟨Fm, a1, a2, a3⟩ := h.ur
  exact ri_qi17 a2 a1 a3
end
/-- what Plan answers. -/
structure Pz17 (w w' : World) (c : Nat) (Fp : Nat → Prop) (pl : Value) (f : Int) (k m b : Nat) (R : Nat → List (Nat × Ent) → Prop) (P : Nat → Bool) : Prop where
  ex : ∃ Fp' N' L' gm Cm gu Cu dlo dhi d DC DB, Pm17 w' pl gm Cm gu Cu dlo dhi d DC DB f k m P ∧ Cd w' c Fp' f k m b N' L' ∧ R N' L' ∧ (∀ x, Fp' x → Fp x ∨ w.heap.size ≤ x) ∧ (w.heap.size ≤ gm ∧ w.heap.size ≤ gu ∧ w.heap.size ≤ dlo) ∧ ∀ x, Pk17 gm gu dlo dhi x → ¬ Fp' x
  ke : Ke Fp w w'
section
variable {w : World} {c : Nat} {Fp FT : Nat → Prop} {p : Addr} {lo hi : Nat} {rows : Value} {t : Nat} {f : Int} {k m b N : Nat} {L : List (Nat × Ent)}
/-- factors, with room in the cache. -/
theorem factors17_room (h : Co w c Fp FT p lo hi rows t f k m b N L) (P : Nat → Bool) (h1 : 1 ≤ (ems P (k + m)).length) (h2 : (ems P (k + m)).length ≤ m) (u v : Value)
    (hu : Qi w u (ems (fun i => !P i) (k + m)).length (emz (fun i => !P i) (k + m))) (hv : Qi w v (ems P (k + m)).length (emz P (k + m))) (hci : Ci17 f k m L) (hroom : L.length < 16) (hN : N ≤ 1000000) :
    Calls Tryz.prog 45 #[.pointer (some ⟨c, 0, none⟩), u, v] w fun e w' => ∃ d, e = .returned d ∧ Fz17 w w' c Fp d f k m b (fun N' L' => N' ≤ N + 256 ∧ L'.length ≤ L.length + 1 ∧ Ci17 f k m L') P := by
  by_cases hold : ∃ eb x, (eb, x) ∈ L ∧ x.key = tk12 (emz P (k + m)) (ems P (k + m)).length
  · obtain ⟨eb, x, hx, hk⟩ := hold
    obtain ⟨Q, rfl⟩ := hci _ _ hx
    have e := ent_eq17 (f := f) (key_ems17 (P := Q) (Q := P) hk)
    rw [e] at hx
    have hnd : (L.map (·.1)).Nodup := by
      obtain ⟨r, B, MB, K, mm, ov, hT⟩ := h.tv
      exact hT.nd
    refine (factors17_hit h P h1 h2 u v hu hv eb hx).mono ?_
    rintro e w' ⟨d, rfl, hF⟩
    refine ⟨d, rfl, hF.weak ?_⟩
    rintro N' L' ⟨rfl, rfl⟩
    refine ⟨by omega, by rw [us12_len hnd hx]; omega, fun b x hm => hci b x ((us12_mem hnd hx _).1 hm)⟩
  · have hnew : ∀ b x, (b, x) ∈ L → x.key ≠ tk12 (emz P (k + m)) (ems P (k + m)).length := fun b x hx e => hold ⟨b, x, hx, e⟩
    refine (factors17_z h P h1 h2 u v hu hv hnew hroom hN).mono ?_
    rintro e w' ⟨d, rfl, hF⟩
    refine ⟨d, rfl, hF.weak ?_⟩
    rintro N' L' ⟨a1, a2, eb, rfl⟩
    refine ⟨a1, by omega, fun b x hm => ?_⟩
    rcases List.mem_append.1 hm with hm | hm
    · exact hci b x hm
    · rw [List.mem_singleton] at hm
      cases hm
      exact ⟨P, rfl⟩
set_option maxHeartbeats 4000000 in
set_option maxRecDepth 100000 in
theorem plan17_z (h : Co w c Fp FT p lo hi rows t f k m b N L) (P : Nat → Bool) (R : Nat → List (Nat × Ent) → Prop) (h1 : 1 ≤ (ems P (k + m)).length) (h2 : (ems P (k + m)).length ≤ m) (v : Value) (hv : Qi w v (ems P (k + m)).length (emz P (k + m)))
    (hfac : ∀ w2 u2, Below w.heap.size w w2 → Qi w2 u2 (ems (fun i => !P i) (k + m)).length (emz (fun i => !P i) (k + m)) → Qi w2 v (ems P (k + m)).length (emz P (k + m)) → Calls Tryz.prog 45 #[.pointer (some ⟨c, 0, none⟩), u2, v] w2 fun e w' => ∃ d, e = .returned d ∧ Fz17 w2 w' c Fp d f k m b R P) :
    Calls Tryz.prog 24 #[.pointer (some ⟨c, 0, none⟩), v] w fun e w' => ∃ pl, e = .returned (.tuple #[pl, .int .i64 0]) ∧ Pz17 w w' c Fp pl f k m b R P := by
  have hs := h.hs
  have hk := h.hk
  have hbo := ems_both P (k + m)
  obtain ⟨x0, hx0⟩ : ∃ x0, x0 = w.alloc (.cells #[.slice none 0 0, .slice none 0 0, .slice none 0 0, .slice none 0 0] 54) := ⟨_, rfl⟩
  have b0 : Below w.heap.size w x0 := by rw [hx0]; exact (Below.refl _ _).alloc (Nat.le_refl _) _
  have p0 : x0.heap[w.heap.size]? = some (.cells #[.slice none 0 0, .slice none 0 0, .slice none 0 0, .slice none 0 0] 54 (0, 0)) := by rw [hx0]; exact heap_alloc_new _ _
  have hz0 : x0.heap.size = w.heap.size + 1 := by rw [hx0]; simp
  have HX : Hid (w.alloc (.cells #[.slice none 0 0, .slice none 0 0, .slice none 0 0, .slice none 0 0] 54) = x0) := hx0.symm
  clear hx0
  have c1 := lost17 (k + m) P v x0.drew (by omega) (hv.below b0.drew)
  have q1 : x0.drew.cell? ⟨c, 1, none⟩ = _ := (h.below b0.drew).c1
  have q2 : x0.drew.cell? ⟨c, 2, none⟩ = _ := (h.below b0.drew).c2
  have HL : Hid (∀ w1 u, Gi x0.drew w1 u (ems (fun i => !P i) (k + m)).length (emz (fun i => !P i) (k + m)) → (w1.cell? ⟨c, 1, none⟩ = some (.int .i64 (k : Int)) ∧ w1.cell? ⟨c, 2, none⟩ = some (.int .i64 (m : Int))) ∧ ∃ ua nu uc, u = .slice (some ⟨ua, 0, none⟩) nu uc ∧
      (∀ W : World, (Instr.slice 40 (.slice (some ⟨ua, 0, none⟩) nu uc) none (some (.int .i64 (k : Int))) none).run Tryz.prog W = .ok (.slice (some ⟨ua, 0, none⟩) k uc) W) ∧ Below w.heap.size w w1 ∧ Qi w1 (.slice (some ⟨ua, 0, none⟩) nu uc) (ems (fun i => !P i) (k + m)).length (emz (fun i => !P i) (k + m)) ∧ Qi w1 (.slice (some ⟨ua, 0, none⟩) k uc) k (emz (fun i => !P i) (k + m)) ∧ w1.heap[w.heap.size]? = some (.cells #[.slice none 0 0, .slice none 0 0, .slice none 0 0, .slice none 0 0] 54 (0, 0)) ∧ w.heap.size < ua ∧ ua < w1.heap.size ∧ ∃ Fu, (ems (fun i => !P i) (k + m)).length ≤ uc ∧ Ri w1 ua uc Fu ∧ ∀ i, i < (ems (fun i => !P i) (k + m)).length → Fu i = emz (fun i => !P i) (k + m) i) := fun w1 u hG => by
    have hb1 : Below x0.heap.size x0 w1 := undraw17 hG.1
    have hbw := b0.trans (hb1.mono b0.size)
    refine ⟨⟨(h.below hbw).c1, (h.below hbw).c2⟩, ?_⟩
    have hq := hG.rb
    rcases hG.2 with ⟨e, -⟩ | ⟨g, C, F, rfl, a2, a3, a4, a5⟩
    · omega
    · exact ⟨g, _, C, rfl, headI17 g 0 _ C k (by omega), hbw, hq, hq.take (by omega), (hb1.block _ (by omega)).trans p0, by have : x0.heap.size ≤ g := a3; omega, a4.2.2.lt, F, a2, a4, a5⟩
  have ek : ((k + m : Nat) : Int) = (k : Int) + (m : Int) := by omega
  rw [ek] at c1
  have W0 : wrap64 ((k : Int) + (m : Int)) = (k : Int) + (m : Int) := by unfold wrap64; omega
  have W1 : IntKind.i64.wrap ((k : Int) + (m : Int)) = (k : Int) + (m : Int) := by rw [IntKind.wrap_i64]; omega
  have D1 : ¬ m < (ems P (k + m)).length := by omega
  obtain ⟨nn, hnn⟩ : ∃ nn, nn = (ems P (k + m)).length := ⟨_, rfl⟩
  have HO : Hid (Co w c Fp FT p lo hi rows t f k m b N L ∧ Qi w v (ems P (k + m)).length (emz P (k + m)) ∧ (∀ w2 u2, Below w.heap.size w w2 → Qi w2 u2 (ems (fun i => !P i) (k + m)).length (emz (fun i => !P i) (k + m)) → Qi w2 v (ems P (k + m)).length (emz P (k + m)) → Calls Tryz.prog 45 #[.pointer (some ⟨c, 0, none⟩), u2, v] w2 fun e w' => ∃ d, e = .returned d ∧ Fz17 w2 w' c Fp d f k m b R P) ∧ True ∧ True ∧ 1 ≤ (ems P (k + m)).length ∧ (ems P (k + m)).length ≤ m) := ⟨h, hv, hfac, trivial, trivial, h1, h2⟩
  obtain ⟨-, -, va, vc, rfl, -⟩ := hv
  clear h hfac h1 h2 hs hk hbo b0 p0 hz0 ek
  go_enter Tryz.func24, Tryz.ntmps24
  go_wp2
  rw [HX.out]
  refine region_planI (fun w' => w'.cell? ⟨c, 1, none⟩ = some (.int .i64 (k : Int)) ∧ w'.cell? ⟨c, 2, none⟩ = some (.int .i64 (m : Int))) [0, 1, 2, 3, 4, 5, 6, 7, 8, 9, 10, 11, 12, 13, 14, 15] [10, 5] 50 ⟨q1, q2⟩ (by kernel_rfl) (by kernel_rfl) (fun _ a d v _ h => by cases d <;> exact h) ?_
  simp only [atI, List.getElem?_cons_zero, List.getElem?_cons_succ]
  refine planH_step ?Al0 rfl (fun w' hS => ?sl0) rfl (fun K hK => ?nl0)
  case sl0 =>
    obtain ⟨y0, y1⟩ := hS
    simp only [List.take_succ_cons, List.take_zero]
    repeat still_step
    exact rfl
  case nl0 =>
  go_simp
  go_wp2_with (go_at_call 43; (with_reducible refine c1.mono ?_); rintro e w1 ⟨u, rfl, hG⟩; clear c1; obtain ⟨⟨q1, q2⟩, ua, nu, uc, rfl, s1, HC⟩ := HL.out w1 u hG)
  refine hK _ _ ⟨q1, q2⟩ ?_
  clear hK K
  refine planH_last ?Al1 rfl (fun w' hS => ?sl1) rfl ?nl1
  case sl1 =>
    obtain ⟨y0, y1⟩ := hS
    simp only [List.take_succ_cons, List.take_zero]
    repeat still_step
    exact rfl
  case nl1 =>
  clear q1 W0 W1 HL hG
  have c2 := clone17 (.slice va (ems P (k + m)).length vc) (ems P (k + m)).length (emz P (k + m)) w1.drew (HO.out.2.1.below HC.1.drew) HO.out.2.2.2.2.2.1 (by have := HO.out.1.hs; have := HO.out.2.2.2.2.2.2; omega)
  have hQ := HC
  have HM : Hid (∀ w2 mv, Gi w1.drew w2 mv (ems P (k + m)).length (emz P (k + m)) → w2.cell? ⟨c, 1, none⟩ = some (.int .i64 (k : Int)) ∧ Calls Tryz.prog 45 #[.pointer (some ⟨c, 0, none⟩), .slice (some ⟨ua, 0, none⟩) nu uc, .slice va (ems P (k + m)).length vc] w2 fun e w' => ∃ d, e = .returned d ∧ Fz17 w2 w' c Fp d f k m b R P) := fun w2 mv hM => by
    have hb2 : Below w.heap.size w w2 := hQ.1.trans ((undraw17 hM.1).mono hQ.1.size)
    refine ⟨(HO.out.1.below hb2).c1, ?_⟩
    exact HO.out.2.2.1 w2 _ hb2 (hQ.2.1.below (undraw17 hM.1)) (HO.out.2.1.below hb2)
  have HF : Hid (∀ w2 mv, Gi w1.drew w2 mv (ems P (k + m)).length (emz P (k + m)) → ∀ w3 d, Fz17 w2 w3 c Fp d f k m b R P → w3.cell? ⟨c, 1, none⟩ = some (.int .i64 (k : Int)) ∧ ∃ ma mn mc da dn dc, mv = .slice ma mn mc ∧ d = .slice da dn dc ∧
      w3.heap[w.heap.size]? = some (.cells #[.slice none 0 0, .slice none 0 0, .slice none 0 0, .slice none 0 0] 54 (0, 0)) ∧
      ∀ w4, Ke (fun x => x = w.heap.size) w3 w4 → w4.cell? ⟨c, 1, none⟩ = some (.int .i64 (k : Int)) ∧ Pz17 w w4 c Fp (.agg #[mv, .slice (some ⟨ua, 0, none⟩) k uc, d, .slice none 0 0]) f k m b R P) := fun w2 mv hM w3 d hF => by
    have hb1 := undraw17 hM.1
    have hb2 : Below w.heap.size w w2 := hQ.1.trans (hb1.mono hQ.1.size)
    obtain ⟨Fp', N', L', hC, hR, hFp, dlo, dhi, DC, DB, hd0, hd, hdn, gl, Cl, Fl, hdl, hcl, hFl⟩ := hF.co
    obtain ⟨FT', p', lo', hi', rows', t', hCo⟩ := id hC
    have hz : w.heap.size < w1.heap.size := (Array.getElem?_eq_some_iff.1 hQ.2.2.2.1).1
    have hnF : ¬ Fp w.heap.size := fun e => Nat.lt_irrefl _ (HO.out.1.lt _ e)
    have p2 := (hb1.block _ hz).trans hQ.2.2.2.1
    have p3 := (hF.ke.2 _ (Nat.lt_of_lt_of_le hz hb1.size) hnF).trans p2
    have hz2 : w1.heap.size ≤ w2.heap.size := hb1.size
    have hz3 := hF.ke.size
    refine ⟨hCo.c1, ?_⟩
    rcases hM.2 with ⟨e, -⟩ | ⟨gm, Cm, Fm, hmv, m2, m3, m4, m5⟩
    · have := HO.out.2.2.2.2.2.1; omega
    obtain ⟨ul, ult, Fu, u1, u2, u3⟩ := hQ.2.2.2.2
    obtain ⟨da, dc, hda, -⟩ := hd.form
    have m3' : w1.heap.size ≤ gm := m3
    have mlt : gm < w2.heap.size := m4.2.2.lt
    have hbo := ems_both P (k + m)
    have hle := HO.out.2.2.2.2.2.2
    refine ⟨_, _, Cm, da, _, dc, hmv, hda, p3, fun w4 hk4 => ?_⟩
    have hlow : ∀ x, w.heap.size ≤ x → x < w2.heap.size → ¬ Fp' x := fun x a1 a2 e => by
      rcases hFp _ e with e | e
      · have := HO.out.1.lt x e; omega
      · omega
    have hCo4 := hCo.ke hk4 (fun x e => by rw [e]; exact hlow _ (Nat.le_refl _) (by omega))
    have kk : Ke (fun x => Fp x ∨ x = w.heap.size) w2 w4 := hF.ke.both17 hk4
    have nn : ∀ x, w.heap.size < x → ¬ (Fp x ∨ x = w.heap.size) := fun x a e => by
      rcases e with e | e
      · have := HO.out.1.lt x e; omega
      · omega
    have hgl : dlo ≤ gl ∧ gl < dhi := by
      obtain ⟨a, cc, e1, -, -, hf1⟩ := hd.form
      obtain ⟨g', e2, g1, g2, -⟩ := hf1 HO.out.2.2.2.2.2.1
      rw [hdl] at e1
      cases e1
      cases e2
      exact ⟨g1, g2⟩
    refine ⟨hCo4.c1, ⟨Fp', N', L', gm, Cm, ua, uc, dlo, dhi, d, DC, DB, ⟨by rw [hmv], ⟨Fm, m2, ⟨m4.1, trivial, m4.2.2.of_block (kk.2 gm mlt (nn gm (by omega)))⟩, m5⟩, ⟨Fu, by omega, ⟨u2.1, trivial, (u2.2.2.of_block (hb1.block _ ult)).of_block (kk.2 ua (by omega) (nn ua ul))⟩, fun i hi => u3 i (by omega)⟩, hd.keep hk4 (fun x a1 a2 e => by omega), ⟨by omega, .inl (by omega), .inl (by omega)⟩, ⟨gl, Cl, Fl, hdl, hcl, hgl, hFl.of_block (hk4.2 gl hFl.lt (fun e => by have e' : gl = w.heap.size := e; omega))⟩⟩, ⟨_, _, _, _, _, _, hCo4⟩, hR, fun x e => ?_, ⟨by omega, by omega, by omega⟩, fun x e => ?_⟩, ?_⟩
    · rcases hFp _ e with e | e
      · exact .inl e
      · exact .inr (Nat.le_trans hb2.size e)
    · rcases e with e | e | e
      · exact hlow x (by omega) (by omega)
      · exact hlow x (by omega) (by omega)
      · exact hdn x e.1 e.2
    · have k1 : Ke Fp w w2 := ke_below hb2 _
      have k3 := k1.trans hF.ke
      refine ⟨k3.1.trans hk4.1, fun x hx hn => ?_⟩
      rw [hk4.2 x (Nat.lt_of_lt_of_le hx k3.size) (by omega), k3.2 x hx hn]
  have q1 := (HO.out.1.below HC.1.drew).c1
  go_wp2
  refine region_planI (fun w' => w'.cell? ⟨c, 1, none⟩ = some (.int .i64 (k : Int))) [0, 2, 3, 4, 5, 6, 7, 8, 9, 10, 1, 11, 12, 13, 14] [10, 0, 1, 1] 50 q1 (by kernel_rfl) (by kernel_rfl) (fun _ a d v _ h => by cases d <;> exact h) ?_
  simp only [atI, List.getElem?_cons_zero, List.getElem?_cons_succ]
  refine planH_step ?Ap0 rfl (fun w' hS => ?sp0) rfl (fun K hK => ?np0)
  case sp0 =>
    have y0 := hS
    simp only [List.take_succ_cons, List.take_zero]
    repeat still_step
    exact rfl
  case np0 =>
  go_simp
  go_wp2_with (go_at_call 44; (with_reducible refine c2.mono ?_); rintro e w2 ⟨mv, rfl, hM⟩; clear c2; obtain ⟨q1, c3⟩ := HM.out w2 mv hM)
  refine hK _ _ q1 ?_
  clear hK K
  refine planH_step ?Ap1 rfl (fun w' hS => ?sp1) rfl (fun K hK => ?np1)
  case sp1 =>
    have y0 := hS
    simp only [List.take_zero]
    exact rfl
  case np1 =>
  go_simp
  go_wp2_with (go_at_call 45; (with_reducible refine c3.mono ?_); rintro e w3 ⟨d, rfl, hF⟩; clear c3; obtain ⟨q1, ma, mn, mc, da, dn, dc, rfl, rfl, HZ⟩ := HF.out w2 mv hM w3 d hF)
  refine hK _ _ q1 ?_
  clear hK K
  refine planH_step ?Ap2 rfl (fun w' hS => ?sp2) rfl (fun K hK => ?np2)
  case sp2 =>
    have y0 := hS
    simp only [List.take_succ_cons, List.take_zero]
    repeat still_step
    exact rfl
  case np2 =>
  have z0 : w3.cell? ⟨w.heap.size, 0, none⟩ = some (.slice none 0 0) := by rw [cell_of_row _ _ 0 _ _ _ HZ.1]; rfl
  have z1 : w3.cell? ⟨w.heap.size, 1, none⟩ = some (.slice none 0 0) := by rw [cell_of_row _ _ 1 _ _ _ HZ.1]; rfl
  have z2 : w3.cell? ⟨w.heap.size, 2, none⟩ = some (.slice none 0 0) := by rw [cell_of_row _ _ 2 _ _ _ HZ.1]; rfl
  have z3 : w3.cell? ⟨w.heap.size, 3, none⟩ = some (.slice none 0 0) := by rw [cell_of_row _ _ 3 _ _ _ HZ.1]; rfl
  have g0 := frozen_of_row w3 w.heap.size 0 _ _ HZ.1
  have g1 := frozen_of_row w3 w.heap.size 1 _ _ HZ.1
  have g2 := frozen_of_row w3 w.heap.size 2 _ _ HZ.1
  have g3 := frozen_of_row w3 w.heap.size 3 _ _ HZ.1
  go_simp
  go_wp2
  clear z0 z1 z2 z3 g0 g1 g2 g3
  obtain ⟨w4, hw4⟩ : ∃ w4, w4 = (((w3.setCell ⟨w.heap.size, 0, none⟩ (.slice ma mn mc)).setCell ⟨w.heap.size, 1, none⟩ (.slice (some ⟨ua, 0, none⟩) k uc)).setCell ⟨w.heap.size, 2, none⟩ (.slice da dn dc)).setCell ⟨w.heap.size, 3, none⟩ (.slice none 0 0) := ⟨_, rfl⟩
  obtain ⟨k4, p4⟩ := set4_17 (.slice ma mn mc) (.slice (some ⟨ua, 0, none⟩) k uc) (.slice da dn dc) (.slice none 0 0) HZ.1 w4 hw4
  rw [← hw4]
  clear hw4
  obtain ⟨q1, HP⟩ := HZ.2 w4 k4
  refine hK _ _ q1 ?_
  clear hK K
  refine planH_last ?Ap3 rfl (fun w' hS => ?sp3) rfl ?np3
  case sp3 =>
    have y0 := hS
    simp only [List.take_succ_cons, List.take_zero]
    repeat still_step
    exact rfl
  case np3 =>
  go_wp2
  (try simp only [Exit.inBlock, Exit.then])
  refine bodyPost_ret (results_crt rfl _ w4 w.heap.size _ _ _ _ rfl p4 Tryz.underlying54 rfl info_plan17) rfl ?_
  exact ⟨_, rfl, HP⟩
/-- Plan, with room in the cache. -/
theorem plan17_room (h : Co w c Fp FT p lo hi rows t f k m b N L) (P : Nat → Bool) (h1 : 1 ≤ (ems P (k + m)).length) (h2 : (ems P (k + m)).length ≤ m) (v : Value) (hv : Qi w v (ems P (k + m)).length (emz P (k + m))) (hci : Ci17 f k m L) (hroom : L.length < 16) (hN : N ≤ 1000000) :
    Calls Tryz.prog 24 #[.pointer (some ⟨c, 0, none⟩), v] w fun e w' => ∃ pl, e = .returned (.tuple #[pl, .int .i64 0]) ∧ Pz17 w w' c Fp pl f k m b (fun N' L' => N' ≤ N + 256 ∧ L'.length ≤ L.length + 1 ∧ Ci17 f k m L') P :=
  plan17_z h P _ h1 h2 v hv (fun w2 u2 hb hu hv2 => factors17_room (h.below hb) P h1 h2 u2 v hu hv2 hci hroom hN)
end
end Go.Proofs.YtaoapplbcgflmaaGreat
namespace Go.Proofs.YtaoapplbcgflmaaGreat
open Go.RowKit Gf2
set_option linter.unusedVariables false

-- layer 17: Fill by a plan
section
variable {w w' : World} {slo shi n0 l lo N : Nat} {v dx : Value} {C B E : Nat → Nat} {S : Nat → Nat → Nat}
theorem Cs.lv17 (h : Cs slo shi w v n0 (fun _ => l) C B S) (h0 : 0 < n0) : Lv (fun _ => False) w v n0 (fun i => .slice (some ⟨B i, 0, none⟩) l (C i)) := by
  obtain ⟨g, cap, rfl, hc1, hc2, g1, g2, g3, g4⟩ := h.at17 h0
  have := h.hw
  exact ⟨h.mb, _, _, rfl, hc1, hc2, fun _ => ⟨g, 0, rfl, ⟨by omega, fun e => e⟩, fun i hi => by rw [Nat.zero_add]; exact g4 i hi⟩⟩
end
section
variable {w x w4 : World} {c : Nat} {Fp FT : Nat → Prop} {p : Addr} {lo hi : Nat} {rows : Value} {t : Nat} {f : Int} {k m b N : Nat} {L : List (Nat × Ent)} {pl d : Value} {gm Cm gu Cu dlo dhi : Nat} {DC DB : Nat → Nat} {P : Nat → Bool} {slo shi l fr tq : Nat} {C B : Nat → Nat} {S : Nat → Nat → Nat} {v : Value}
end
end Go.Proofs.YtaoapplbcgflmaaGreat
