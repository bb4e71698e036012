import Derived.Test.YtdaolpbpifppbaaGreatMlbu
namespace Go.Proofs.YtdaolpbpifppbaaGreat
open Go.RowKit Gf2
set_option linter.unusedVariables false

-- layer 17: awake
set_option maxHeartbeats 2000000 in
set_option maxRecDepth 100000 in
theorem awake_chain17 (w : World) : Calls Tryz.prog 24 #[.int .i64 0, .int .i64 0, .int .i64 2, .int .i64 1] w fun e w1 => ∃ c, e = .returned (.tuple #[.pointer (some ⟨c, 0, none⟩), .int .i64 0]) ∧
    Calls Tryz.prog 14 #[.pointer (some ⟨c, 0, none⟩), .slice (some ⟨w1.heap.size + 3, 0, none⟩) 3 3] (lw17 w1 5 0 7 1 0 0) fun e w2 => e = .returned (.int .i64 0) ∧
    Calls Tryz.prog 15 #[.slice (some ⟨w1.heap.size + 3, 0, none⟩) 3 3, .slice (some ⟨w2.heap.size + 3, 0, none⟩) 3 3] (lw17 w2 5 0 7 1 1 2) fun e w3 => e = .returned (.bool true) ∧
    Calls Tryz.prog 21 #[.pointer (some ⟨c, 0, none⟩), .slice (some ⟨w1.heap.size + 3, 0, none⟩) 3 3] w3 fun e w4 => e = .returned (.tuple #[.bool true, .int .i64 0]) ∧
    (w4.cell? ⟨w1.heap.size + 3, 0, none⟩ = some (.slice (some ⟨w1.heap.size + 0, 0, none⟩) 2 2) ∧ w4.frozen? ⟨w1.heap.size + 3, 0, none⟩ = false) ∧
    Calls Tryz.prog 19 #[.pointer (some ⟨c, 0, none⟩), .slice (some ⟨w1.heap.size + 3, 0, none⟩) 3 3] (w4.setCell ⟨w1.heap.size + 3, 0, none⟩ (.slice none 0 0)) fun e w5 => e = .returned (.int .i64 0) ∧
    Calls Tryz.prog 15 #[.slice (some ⟨w1.heap.size + 3, 0, none⟩) 3 3, .slice (some ⟨w5.heap.size + 3, 0, none⟩) 3 3] (lw17 w5 5 0 7 1 1 2) fun e w6 => e = .returned (.bool true) ∧
    Calls Tryz.prog 27 #[.pointer (some ⟨c, 0, none⟩)] w6 fun e w7 => e = .returned (.int .i64 1) ∧
    Calls Tryz.prog 23 #[.pointer (some ⟨c, 0, none⟩), .slice (some ⟨w1.heap.size + 3, 0, none⟩) 3 3, .slice (some ⟨w7.heap.size + 2, 0, none⟩) 2 2] (lf17 w7) fun e w8 => e = .returned (.int .i64 0) ∧
    Calls Tryz.prog 15 #[.slice (some ⟨w1.heap.size + 3, 0, none⟩) 3 3, .slice (some ⟨w8.heap.size + 3, 0, none⟩) 3 3] (lw17 w8 5 0 7 1 3 2) fun e w9 => e = .returned (.bool true) ∧ Below w.heap.size w w9 := by
  refine (new17 0 0 2 1 w (.inl rfl) (by decide) (by decide) (by decide) (by decide)).mono ?_
  rintro e w1 ⟨c, rfl, hN⟩
  refine ⟨c, rfl, ?_⟩
  obtain ⟨⟨FT, p, lo, hi, rows, t, hC⟩, b1⟩ := hN
  have hz1 := b1.size
  obtain ⟨L1, bl1, zl1, rl1⟩ := lit17 w1 (a := 5) (b := 0) (c := 7) (d := 1) (e := 0) (f := 0) (by decide)
  have hC1 := hC.below bl1
  have hd1 : ∀ x, Pb17 2 1 (fun i => w1.heap.size + i) x → ¬ (w.heap.size ≤ x ∧ x < w1.heap.size) := fun x ⟨r, hr, e⟩ h => by
    have e' : x = w1.heap.size + (2 + r) := e
    omega
  refine (Encode17 hC1 L1 hd1 (by decide)).mono ?_
  rintro e w2 ⟨rfl, hE⟩
  refine ⟨rfl, ?_⟩
  have cs2 : Cs w1.heap.size (w1.heap.size + 4) w2 (.slice (some ⟨w1.heap.size + 3, 0, none⟩) 3 3) 3 (fun _ => 2) (fun _ => 2) (fun i => w1.heap.size + i) (lv17 5 0 7 1 1 2) := hE.cs.congr (fun i hi j hj => aw_enc17 i hi j hj)
  have k2 := hE.ke
  have hC2 := hC1.ke k2 hd1
  have hz2 := k2.size
  obtain ⟨L2, bl2, zl2, rl2⟩ := lit17 w2 (a := 5) (b := 0) (c := 7) (d := 1) (e := 1) (f := 2) (by decide)
  refine (alike17 _ _ 3 (fun _ => 2) (lv17 5 0 7 1 1 2) _ (cs2.below bl2).lb L2.lb (by decide) (fun _ _ => by decide)).mono ?_
  rintro e w3 ⟨rfl, q, rfl⟩
  refine ⟨rfl, ?_⟩
  have b23 : Below w2.heap.size w2 ((lw17 w2 5 0 7 1 1 2).drewN q) := below_drewN bl2 q
  refine (Verify17 (hC2.below b23) (cs2.below b23).lb (by decide) (by decide)).mono ?_
  rintro e w4 ⟨bo, rfl, hV⟩
  have hbo : bo = true := hV.yes.2 (fun r hr j _ hj => aw_ver17 r hr j hj)
  subst hbo
  refine ⟨rfl, ?_⟩
  have b24 := b23.trans (hV.bel.mono b23.size)
  have cs4 := cs2.below b24
  have hC4 := hC2.below b24
  have hz4 := b24.size
  have rl4 : w4.rowIs (w1.heap.size + 3) 27 3 (fun i => .slice (some ⟨w1.heap.size + i, 0, none⟩) 2 2) :=
    (rl1.of_block (k2.2 _ (by omega) (fun ⟨r, hr, e⟩ => by have e' : w1.heap.size + 3 = w1.heap.size + (2 + r) := e; omega))).of_block (b24.block _ (by omega))
  refine ⟨⟨rl4.cell (by decide), rl4.frozen 0⟩, ?_⟩
  have k4 : Ke (fun x => x = w1.heap.size + 3) w4 (w4.setCell ⟨w1.heap.size + 3, 0, none⟩ (.slice none 0 0)) := ((Only.refl _ _).setCell _ _).kp.ke
  have rl4' := rl4.set 0 (.slice none 0 0)
  generalize hw4' : w4.setCell ⟨w1.heap.size + 3, 0, none⟩ (.slice none 0 0) = w4' at k4 rl4'
  have hz4' := k4.size
  have hC4' := hC4.ke k4 (fun x e h => by omega)
  have hrow4 : ∀ i, 0 < i → i < 3 → Rw w4' (w1.heap.size + i) 2 (lv17 5 0 7 1 1 2 i) := fun i h0 hi => k4.rw_ (cs4.row i hi).2.2.2 (by show ¬ w1.heap.size + i = w1.heap.size + 3; omega)
  have hS : Sh17 w4' (.slice (some ⟨w1.heap.size + 3, 0, none⟩) 3 3) (w1.heap.size + 3) (2 + 1) 3 2 p0_17 (fun i => if i = 0 then .slice none 0 0 else .slice (some ⟨w1.heap.size + i, 0, none⟩) 2 2) (lv17 5 0 7 1 1 2) (fun x => w.heap.size ≤ x ∧ x < w1.heap.size) := by
    refine ⟨rfl, by decide, by decide, ⟨_, rl4', fun i hi => rfl⟩, fun i hi => ?_⟩
    by_cases e : i = 0
    · rw [if_pos e, e]
      exact ⟨Nat.zero_le _, fun i hi => absurd hi (Nat.not_lt_zero _), _, _, rfl, Nat.le_refl _, Nat.zero_le _, fun h => absurd h (Nat.lt_irrefl _)⟩
    · have hp : p0_17 i = false := beq_eq_false_iff_ne.2 e
      rw [if_neg e, hp, if_neg (by decide)]
      have hr := hrow4 i (by omega) hi
      exact hr.re (Nat.le_refl _) (Nat.le_refl _) hr.1 (fun h => by omega)
  refine (Reconstruct17_new hC4' hS (fun h => by omega) (by decide) (by decide) (by rw [aw_ems17]; decide) (by rw [aw_ems17]; decide) (fun b x h => by cases h) (by decide) (by decide)).mono ?_
  rintro e w5 ⟨rfl, hR⟩
  refine ⟨rfl, ?_⟩
  have lb5 : Lb w5 (.slice (some ⟨w1.heap.size + 3, 0, none⟩) 3 3) 3 (fun _ => 2) (lv17 5 0 7 1 1 2) := (hR.lb.lens (n' := fun _ => 2) (fun i hi => if_neg (by omega))).congr (fun i hi j hj => aw_giv17 i hi j hj)
  obtain ⟨Fp', N', L', ⟨FT', p', lo', hi', rows', t', hC5⟩, hF', hN', hL', he', ⟨hgl, hgF'⟩, B0, F, cap, V, hv, hrow5, hF5, hV5, hB0, hr5⟩ := hR.co
  cases hv
  have k5 := hR.ke
  have hz5 := k5.size
  obtain ⟨L5, bl5, zl5, -⟩ := lit17 w5 (a := 5) (b := 0) (c := 7) (d := 1) (e := 1) (f := 2) (by decide)
  refine (alike17 _ _ 3 (fun _ => 2) (lv17 5 0 7 1 1 2) _ (lb5.below bl5) L5.lb (by decide) (fun _ _ => by decide)).mono ?_
  rintro e w6 ⟨rfl, q5, rfl⟩
  refine ⟨rfl, ?_⟩
  have b56 : Below w5.heap.size w5 ((lw17 w5 5 0 7 1 1 2).drewN q5) := below_drewN bl5 q5
  generalize (lw17 w5 5 0 7 1 1 2).drewN q5 = w6 at b56
  have hz6 := b56.size
  refine (Cached17 (hC5.below b56)).mono ?_
  rintro e w7 ⟨rfl, rfl⟩
  refine ⟨by rw [hL']; rfl, ?_⟩
  obtain ⟨lf, blf⟩ := litf17 w7
  have hz7 := blf.size
  have e1 : (ems p0_17 (2 + 1)).length = 1 := by rw [aw_ems17]; rfl
  rw [e1] at hF5 hr5
  have hVi : ∀ i, 0 < i → i < 3 → V i = .slice (some ⟨w1.heap.size + i, 0, none⟩) 2 2 := fun i h0 hi => by
    have h1 := hV5 i hi
    have h2 := rl4'.cell (i := i) hi
    rw [h2] at h1
    have h3 := Option.some.inj h1
    rw [← h3, if_neg (by omega)]
  have hcs5 : Cs 0 w5.heap.size w5 (.slice (some ⟨w1.heap.size + 3, 0, none⟩) (2 + 1) 3) (2 + 1) (fun _ => 2) (fun _ => 2) (fun i => if i = 0 then B0 else w1.heap.size + i) (lv17 5 0 7 1 1 2) := by
    obtain ⟨h50, -⟩ := hr5 0 (by decide)
    refine ⟨by decide, Nat.le_refl _, ⟨_, _, rfl, by decide, by decide, fun _ => ⟨w1.heap.size + 3, rfl, Nat.zero_le _, hgl, fun i hi => ?_, fun i hi => ?_⟩⟩, fun i hi => ?_, fun i j hi hj e => ?_⟩
    · show (if i = 0 then B0 else w1.heap.size + i) ≠ w1.heap.size + 3
      split <;> omega
    · rw [hrow5.cell hi, hF5 i hi]
      unfold lst17
      by_cases e : i = 0
      · subst e
        rw [if_pos ⟨rfl, by decide⟩, if_pos rfl]
        rfl
      · have hp : p0_17 i = false := beq_eq_false_iff_ne.2 e
        rw [if_neg (by rw [hp]; exact fun h => Bool.noConfusion h.1), if_neg e, hVi i (by omega) hi]
    · by_cases e : i = 0
      · subst e
        refine ⟨Nat.zero_le _, by show (if 0 = 0 then B0 else _) < _; rw [if_pos rfl]; exact h50.lt, Nat.le_refl _, ?_⟩
        show Rw w5 (if 0 = 0 then B0 else _) 2 _
        rw [if_pos rfl]
        exact h50.congr (fun j hj => aw_giv17 0 (by decide) j hj)
      · show 0 ≤ (if i = 0 then B0 else w1.heap.size + i) ∧ (if i = 0 then B0 else w1.heap.size + i) < _ ∧ 2 ≤ 2 ∧ Rw w5 (if i = 0 then B0 else w1.heap.size + i) 2 _
        rw [if_neg e]
        have hr := k5.rw_ (hrow4 i (by omega) hi) (fun h => by omega)
        exact ⟨Nat.zero_le _, hr.lt, Nat.le_refl _, hr⟩
    · have e' : (if i = 0 then B0 else w1.heap.size + i) = (if j = 0 then B0 else w1.heap.size + j) := e
      split at e' <;> split at e' <;> omega
  have b57 := b56.trans (blf.mono b56.size)
  have hd7 : ∀ x, Pb17 2 1 (fun i => if i = 0 then B0 else w1.heap.size + i) x → x = w1.heap.size + 2 := fun x ⟨r, hr, e⟩ => by
    have e' : x = (if 2 + r = 0 then B0 else w1.heap.size + (2 + r)) := e
    rw [if_neg (by omega)] at e'
    omega
  refine (Update17 (Q := p1_17) (Fr := fr17) (hC5.below b57) (hcs5.below b57) (fun x e h => ?_) (by decide) (by decide) _ (lf.mono (fun x _ e => by have := hd7 x e; omega))).mono ?_
  · have e2 := hd7 x e
    rcases hF' x h with h1 | h1 <;> omega
  rintro e w8 ⟨rfl, hU⟩
  refine ⟨rfl, ?_⟩
  have cs8 := hU.cs
  rw [show (ems p1_17 2).length = 1 by rw [aw_ems17b]; rfl] at cs8
  have cs8' := cs8.congr (fun i hi j hj => aw_upd17 i hi j hj)
  obtain ⟨L8, bl8, zl8, -⟩ := lit17 w8 (a := 5) (b := 0) (c := 7) (d := 1) (e := 3) (f := 2) (by decide)
  refine (alike17 _ _ 3 (fun _ => 2) (lv17 5 0 7 1 3 2) _ (cs8'.below bl8).lb L8.lb (by decide) (fun _ _ => by decide)).mono ?_
  rintro e w9 ⟨rfl, q8, rfl⟩
  refine ⟨rfl, ?_⟩
  have c1 : Below w.heap.size w (lw17 w1 5 0 7 1 0 0) := b1.trans (bl1.mono hz1)
  have c2 := c1.trans (k2.below (B := w.heap.size) (fun x ⟨r, hr, e⟩ => by have e' : x = w1.heap.size + (2 + r) := e; omega) c1.size)
  have c4 := c2.trans (b24.mono c2.size)
  have c5 := c4.trans (k4.below (B := w.heap.size) (fun x e => by omega) c4.size)
  have c6 := c5.trans (k5.below (B := w.heap.size) (fun x e => by rcases e with e | e <;> omega) c5.size)
  have c7 := c6.trans (b57.mono c6.size)
  have c8 := c7.trans (hU.ke.below (B := w.heap.size) (fun x e => by have := hd7 x e; omega) c7.size)
  exact below_drewN (c8.trans (bl8.mono c8.size)) q8
end Go.Proofs.YtdaolpbpifppbaaGreat
namespace Go.Proofs.YtdaolpbpifppbaaGreat
open Go.RowKit Gf2
set_option linter.unusedVariables false

-- layer 17: awake
set_option maxHeartbeats 8000000 in
set_option maxRecDepth 100000 in
theorem awake17 (w : World) : Calls Tryz.prog 11 #[] w fun e w' => e = .returned (.bool true) ∧ Below w.heap.size w w' := by
  have c1 := awake_chain17 w
  unfold lw17 w3_16 lf17 at c1
  go_enter Tryz.func11, Tryz.ntmps11
  go_wp2_with (first
    | (go_at_call 24; (refine c1.mono ?_); rintro e w1 ⟨c, rfl, c2⟩; clear c1)
    | (go_at_call 14; (refine c2.mono ?_); rintro e w2 ⟨rfl, c3⟩; clear c2)
    | (go_at_call 15; (refine c3.mono ?_); rintro e w3 ⟨rfl, c4⟩; clear c3)
    | (go_at_call 21; (refine c4.mono ?_); rintro e w4 ⟨rfl, ⟨q1, q2⟩, c5⟩; clear c4)
    | (go_at_call 19; (refine c5.mono ?_); rintro e w5 ⟨rfl, c6⟩; clear c5 q1 q2)
    | (go_at_call 15; (refine c6.mono ?_); rintro e w6 ⟨rfl, c7⟩; clear c6)
    | (go_at_call 27; (refine c7.mono ?_); rintro e w7 ⟨rfl, c8⟩; clear c7)
    | (go_at_call 23; (refine c8.mono ?_); rintro e w8 ⟨rfl, c9⟩; clear c8)
    | (go_at_call 15; (refine c9.mono ?_); rintro e w9 ⟨rfl, hb⟩; clear c9))
  go_ret
  exact ⟨rfl, hb⟩
end Go.Proofs.YtdaolpbpifppbaaGreat
