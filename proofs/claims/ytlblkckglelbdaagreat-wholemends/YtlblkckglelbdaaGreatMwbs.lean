import Derived.Test.YtlblkckglelbdaaGreatMwbo
import Derived.Test.YtlblkckglelbdaaGreatMwbq
import Derived.Test.YtlblkckglelbdaaGreatMwbr
import Derived.Test.YtlblkckglelbdaaGreatMwbk
namespace Go.Proofs.YtlblkckglelbdaaGreat
open Go.RowKit Gf2
set_option linter.unusedVariables false

-- WholeMends: what stands behind both loops, and the calls that follow
theorem lwh_lb_t {W : World} {sb n cs : Nat} {R ln C : Nat → Nat} {G : Nat → Nat → Nat} (h : Lwh19 W sb n R ln C G) (hc : n ≤ cs) (hcb : cs ≤ big) : Lb W (.slice (some ⟨sb, 0, none⟩) n cs) n ln G :=
  ⟨fun x => .slice (some ⟨R x, 0, none⟩) (ln x) (C x), ⟨Nat.le_trans hc hcb, _, _, rfl, hc, hcb, fun _ => ⟨sb, 0, rfl, ⟨h.row.lt, fun e => e⟩, fun i hi => by rw [Nat.zero_add]; exact h.row.cell hi⟩⟩, fun x hx => ((h.rows x hx).rb0.cut8 (h.le x hx)).re (fun _ _ e => e)⟩
/-- in which shards a byte is another one. -/
def Pd (T : Nat) (ln : Nat → Nat) (V G : Nat → Nat → Nat) (x : Nat) : Bool := decide (ln x ≠ 0) && (List.range T).any (fun z => decide (V x z ≠ G x z))
theorem pd_iff {T : Nat} {ln : Nat → Nat} {V G : Nat → Nat → Nat} {x : Nat} : Pd T ln V G x = true ↔ ln x ≠ 0 ∧ ∃ z, z < T ∧ V x z ≠ G x z := by
  unfold Pd
  simp [List.any_eq_true]
structure Me (w2 : World) (sb cs : Nat) (W : World) (f k m n T : Nat) (aw : Option Addr) (cw : Nat) (B ln C : Nat → Nat) (va : Nat → Option Addr) (vc : Nat → Nat) (G V : Nat → Nat → Nat) : Prop where
  rp : Rq19 w2 sb W n T B ln C va vc G
  val : f ≤ 1 ∧ 1 ≤ k ∧ 1 ≤ m ∧ n = k + m ∧ n ≤ 256 ∧ 1 ≤ T ∧ T ≤ 1048576
  caps : n ≤ cs ∧ cs ≤ big
  few : cnb (emp ln) n ≤ m
  vz : ∀ x, x < n → ln x = 0 → vc x = 0
  whole : Lb w2 (.slice aw n cw) n (fun _ => T) V
  byt : ∀ z, z < T → ∀ x, x < n → V x z < 256
  cw : ∀ z, z < T → Cw19 f k n (fun x => V x z)
section
variable {w2 W W' : World} {sb cs f k m n T : Nat} {aw : Option Addr} {cw : Nat} {B ln C : Nat → Nat} {va : Nat → Option Addr} {vc : Nat → Nat} {G V : Nat → Nat → Nat}
theorem Me.below (h : Me w2 sb cs W f k m n T aw cw B ln C va vc G V) (hb : Below W.heap.size W W') : Me w2 sb cs W' f k m n T aw cw B ln C va vc G V :=
  ⟨h.rp.below hb, h.val, h.caps, h.few, h.vz, h.whole, h.byt, h.cw⟩
theorem Me.lb (h : Me w2 sb cs W f k m n T aw cw B ln C va vc G V) : Lb W (.slice (some ⟨sb, 0, none⟩) n cs) n ln G := by
  have hv := h.val
  refine ⟨fun x => .slice (va x) (ln x) (vc x), ⟨by unfold big; omega, _, _, rfl, h.caps.1, h.caps.2, fun _ => ⟨sb, 0, rfl, ⟨h.rp.list.row.lt, fun e => e⟩, fun i hi => by rw [Nat.zero_add]; exact h.rp.list.row.cell hi⟩⟩, fun x hx => ?_⟩
  show Re _ W (.slice (va x) (ln x) (vc x)) (ln x) (G x)
  by_cases e : ln x = 0
  · rw [e, h.vz x hx e]
    exact ⟨by decide, fun i hi => absurd hi (Nat.not_lt_zero _), _, _, rfl, Nat.le_refl _, by decide, fun h0 => absurd h0 (Nat.lt_irrefl _)⟩
  · obtain ⟨e1, e2⟩ := h.rp.list.sl x hx e
    rw [e1, e2]
    exact ((h.rp.list.rows x hx e).rb0.cut8 (h.rp.list.le x hx e)).re (fun _ _ e => e)
theorem Me.nh (h : Me w2 sb cs W f k m n T aw cw B ln C va vc G V) (hn : ∀ z, z < T → cnb (fun y => Dv n ln V G y z) n ≤ (m - cnb (emp ln) n) / 2) : Nq19 w2 sb W f k m n T B ln C va vc G V (Pd T ln V G) := by
  obtain ⟨v1, v2, v3, v4, v5, v6, v7⟩ := h.val
  refine ⟨h.rp, ⟨v1, v2, v3, v4, v5, v6, by omega⟩, h.few, h.byt, h.cw, fun z hz => ?_, fun x hx => pd_iff⟩
  have := hn z hz
  have e : cnb (fun y => Dv n ln V G y z) n = cnb (fun x => pre19 n ln x && decide (V x z ≠ G x z)) n := rfl
  rw [e] at this
  omega
/-- blocks below lo may turn: a list at or above lo is as it was. -/
theorem Gl8.keep {lo N : Nat} {E : Nat → Prop} {v : Value} {n C B : Nat → Nat} {S : Nat → Nat → Nat} (h : Gl8 lo W v N n C B S) (hk : Ke E W W') (hE : ∀ x, E x → x < lo) : Lb W' v N n S := by
  obtain ⟨a, c, rfl, h1, h2, h3⟩ := h.list.form
  have hl : Ll E W (.slice a N c) N n S := by
    refine ⟨fun r => .slice (some ⟨B r, 0, none⟩) (n r) (C r), ⟨by unfold big; unfold maxLen at h2; omega, a, c, rfl, h1, by unfold big; unfold maxLen at h2; exact h2, fun h0 => ?_⟩, fun i hi => ?_⟩
    · obtain ⟨g, rfl, hg, hl, -, hc⟩ := h3 h0
      exact ⟨g, 0, rfl, ⟨hl, fun e => by have := hE g e; omega⟩, fun i hi => by rw [Nat.zero_add]; exact hc i hi⟩
    · obtain ⟨q1, q2, q3⟩ := h.rows i hi
      exact q3.re q2 q2 q3.1 (fun e => by have := hE _ e; omega)
  exact (hl.ke hk).lb
theorem near_c (h : Me w2 sb cs W f k m n T aw cw B ln C va vc G V) {q : Nat} (hq : q = (m - cnb (emp ln) n) / 2) (hn : ∀ z, z < T → cnb (fun y => Dv n ln V G y z) n ≤ q) :
    Calls Tryz.prog 12 #[.slice (some ⟨sb, 0, none⟩) n cs, .slice aw n cw, .int .i64 (q : Int)] W fun e W1 => ∃ wa wc, e = .returned (.tuple #[.bool true, .slice wa (cnb (Pd T ln V G) n) wc]) ∧
    Calls Tryz.prog 11 #[.slice (some ⟨sb, 0, none⟩) n cs] W1 fun e W2 => ∃ bv, e = .returned bv ∧
    Calls Tryz.prog 5 #[.int .i64 (f : Int), .int .i64 (k : Int), .int .i64 (m : Int), .slice (some ⟨sb, 0, none⟩) n cs] W2 fun e W3 => ∃ ta tc, e = .returned (.tuple #[.slice ta (cnb (Pd T ln V G) n) tc, .int .i64 0]) ∧
    Calls Tryz.prog 7 #[.slice (some ⟨sb, 0, none⟩) n cs, .slice aw n cw] W3 fun e W4 => e = .returned (.bool true) ∧
    Calls Tryz.prog 6 #[.slice ta (cnb (Pd T ln V G) n) tc, .slice wa (cnb (Pd T ln V G) n) wc] W4 fun e W5 => e = .returned (.bool true) ∧ Below w2.heap.size w2 W5 := by
  obtain ⟨v1, v2, v3, v4, v5, v6, v7⟩ := h.val
  have hwW : Lb W (.slice aw n cw) n (fun _ => T) V := h.whole.below h.rp.bel
  refine (apart_v n T q _ cs aw cw ln G V (Pd T ln V G) W (by omega) v5 v6 v7 h.lb hwW h.rp.lens (fun x hx => pd_iff)).mono ?_
  rintro e W1 ⟨b, v, lo, hlo, rfl, hb, hG, hW1⟩
  rw [hb.2 hn]
  obtain ⟨wa, wc, rfl⟩ := hG.form
  refine ⟨wa, wc, rfl, ?_⟩
  have h1 := h.below hW1
  refine (ttwin _ n ln G W1 h1.lb (by omega) (fun i hi => by rcases h.rp.lens i hi with e | e <;> rw [e] <;> omega)).mono ?_
  rintro e W2 ⟨bv, C2, B2, T2, rfl, hT, hTe, hW2⟩
  refine ⟨bv, rfl, ?_⟩
  have h2 := h1.below hW2
  refine (shards_nq19 h.caps.1 h.caps.2 (h2.nh (fun z hz => by rw [← hq]; exact hn z hz))).mono ?_
  rintro e W3 ⟨tv, rfl, hTl, hW3, hke, R', C', G', hL, hR⟩
  obtain ⟨ta, tc, rfl⟩ := hTl.form
  refine ⟨ta, tc, rfl, ?_⟩
  have hG3 : Gj lo W3 (.slice wa (cnb (Pd T ln V G) n) wc) (cnb (Pd T ln V G) n) (fsel (Pd T ln V G) (fun j => j) n) := (hG.below hW2).keep hke (fun x hx e => by
    rcases e with e | ⟨y, hy, h0, e⟩
    · have := h.rp.list.row.lt; omega
    · have := (h.rp.list.rows y hy h0).lt; omega)
  refine (same_t _ cs aw cw n (fun _ => T) G' V W3 (lwh_lb_t hL h.caps.1 h.caps.2) (h.whole.below hW3) (by omega) (fun i hi j hj => (hR i hi).1 j hj)).mono ?_
  rintro e W4 ⟨rfl, q4, rfl⟩
  refine ⟨rfl, ?_⟩
  refine (ints_t ta tc wa wc _ _ _ (W3.drewN q4) (hTl.qi.drewN q4) (hG3.qi.drewN q4) (fun i hi => rfl)).mono ?_
  rintro e W5 ⟨rfl, q5, rfl⟩
  exact ⟨rfl, below_drewN (below_drewN hW3 q4) q5⟩
theorem Lwh19.cut {k n : Nat} {R : Nat → Nat} (h : Lwh19 W sb n R ln C G) (hk : k ≤ n) : Lwh19 W sb k R ln C G :=
  ⟨h.row.cut hk, fun x hx => h.rows x (by omega), fun x hx => h.le x (by omega), fun x y hx hy => h.inj x y (by omega) (by omega), fun x hx => h.ne x (by omega)⟩
/-- behind a call of Shards where more is turned. -/
def Fz (w2 W3 : World) (sb cs f k m n T q : Nat) (tv bv : Value) (tn : Nat) (z : Int) : Prop :=
  (z = 190 ∧ Calls Tryz.prog 7 #[.slice (some ⟨sb, 0, none⟩) n cs, bv] W3 fun e W4 => e = .returned (.bool true) ∧ Below w2.heap.size w2 W4) ∨
  (z = 0 ∧ Below w2.heap.size w2 W3 ∧ (∃ r0 c0, W3.cell? ⟨sb, 0, none⟩ = some (.slice (some ⟨r0, 0, none⟩) T c0)) ∧
    (Calls Tryz.prog 9 #[.int .i64 (f : Int), .int .i64 (k : Int), .slice (some ⟨sb, 0, none⟩) k cs] (W3.drewN 1) fun e w' => e = .returned (.bool true) ∧ w' = W3.drewN 1) ∧
    Calls Tryz.prog 10 #[.int .i64 (f : Int), .int .i64 (k : Int), .int .i64 (m : Int), .slice (some ⟨sb, 0, none⟩) k cs] (W3.drewN 1) fun e X2 => ∃ wa wc, e = .returned (.slice wa n wc) ∧ Below W3.heap.size W3 X2 ∧
    Calls Tryz.prog 7 #[.slice (some ⟨sb, 0, none⟩) n cs, .slice wa n wc] X2 fun e X3 => e = .returned (.bool true) ∧ Below W3.heap.size W3 X3 ∧
    Calls Tryz.prog 12 #[bv, .slice (some ⟨sb, 0, none⟩) n cs, .int .i64 (q : Int)] X3 fun e X4 => ∃ a3 c3, e = .returned (.tuple #[.bool true, .slice a3 tn c3]) ∧
    Calls Tryz.prog 6 #[tv, .slice a3 tn c3] X4 fun e X5 => e = .returned (.bool true) ∧ Below w2.heap.size w2 X5)
theorem far_c (h : Me w2 sb cs W f k m n T aw cw B ln C va vc G V) {q : Nat} (hq : q = (m - cnb (emp ln) n) / 2) (hn : ¬ ∀ z, z < T → cnb (fun y => Dv n ln V G y z) n ≤ q) :
    Calls Tryz.prog 12 #[.slice (some ⟨sb, 0, none⟩) n cs, .slice aw n cw, .int .i64 (q : Int)] W fun e W1 => ∃ wv, e = .returned (.tuple #[.bool false, wv]) ∧
    Calls Tryz.prog 11 #[.slice (some ⟨sb, 0, none⟩) n cs] W1 fun e W2 => ∃ ba bc, e = .returned (.slice ba n bc) ∧
    Calls Tryz.prog 5 #[.int .i64 (f : Int), .int .i64 (k : Int), .int .i64 (m : Int), .slice (some ⟨sb, 0, none⟩) n cs] W2 fun e W3 => ∃ ta tn tc z, e = .returned (.tuple #[.slice ta tn tc, .int .i64 z]) ∧ Fz w2 W3 sb cs f k m n T q (.slice ta tn tc) (.slice ba n bc) tn z := by
  obtain ⟨v1, v2, v3, v4, v5, v6, v7⟩ := h.val
  have hwW : Lb W (.slice aw n cw) n (fun _ => T) V := h.whole.below h.rp.bel
  refine (apart_v n T q _ cs aw cw ln G V (Pd T ln V G) W (by omega) v5 v6 v7 h.lb hwW h.rp.lens (fun x hx => pd_iff)).mono ?_
  rintro e W1 ⟨b, v, lo, hlo, rfl, hb, hG, hW1⟩
  have hbf : b = false := by
    cases e : b with
    | false => rfl
    | true => exact absurd (hb.1 e) hn
  rw [hbf]
  refine ⟨v, rfl, ?_⟩
  have h1 := h.below hW1
  refine (ttwin _ n ln G W1 h1.lb (by omega) (fun i hi => by rcases h.rp.lens i hi with e | e <;> rw [e] <;> omega)).mono ?_
  rintro e W2 ⟨bv, C2, B2, T2, rfl, hT, hTe, hW2⟩
  obtain ⟨ba, bc, rfl⟩ := lb_form8 hT.lb
  refine ⟨ba, bc, rfl, ?_⟩
  have h2 := h1.below hW2
  obtain ⟨p1, p2, p3⟩ := part_yes19 v1 v2 v3 v4 v5 v6 h.rp.lens h.few
  refine (shards_okh19 f k m n T sb cs B ln C va vc G W2 v1 h2.rp.list h.caps.1 h.caps.2 p1 p2 p3 v2 v3 v4 v5 v6 (by omega) h.rp.lens h.few).mono ?_
  rintro e W3 (⟨tv, F, rfl, hO⟩ | ⟨rfl, hb3, -⟩)
  · obtain ⟨Q, hQ, hQ2⟩ := hO.told
    obtain ⟨ta, tc, rfl⟩ := hQ.form
    refine ⟨ta, _, tc, 0, rfl, .inr ⟨rfl, ?_⟩⟩
    obtain ⟨R', C', G', hL, hR⟩ := hO.list
    have hlow : ∀ x, (x = sb ∨ ∃ y, y < n ∧ ln y ≠ 0 ∧ x = B y) → w2.heap.size ≤ x ∧ x < W1.heap.size := fun x e => by
      rcases e with e | ⟨y, hy, h0, e⟩
      · have := h1.rp.list.row.lt; have := h.rp.hs; omega
      · have := (h1.rp.list.rows y hy h0).lt; have := h.rp.lo y hy h0; omega
    have hb23 : Below w2.heap.size w2 W3 := h2.rp.bel.trans (Ke.below hO.ke (fun x e => (hlow x e).1) h2.rp.bel.size)
    have hbl : Lb W3 (.slice ba n bc) n ln T2 := hT.keep hO.ke (fun x e => (hlow x e).2)
    have hcell : W3.cell? ⟨sb, 0, none⟩ = some (.slice (some ⟨R' 0, 0, none⟩) T (C' 0)) := hL.row.cell (by omega)
    have hLk : Lb (W3.drewN 1) (.slice (some ⟨sb, 0, none⟩) k cs) k (fun _ => T) G' := Lb.below (lwh_lb_t (hL.cut (show k ≤ n by omega)) (Nat.le_trans (show k ≤ n by omega) h.caps.1) h.caps.2) (below_drewN (Below.refl _ _) 1)
    refine ⟨hb23, ⟨_, _, hcell⟩, right_yes_t f k T _ cs G' (W3.drewN 1) v1 v2 (by omega) v6 hLk, ?_⟩
    have hk3 : k + m ≤ 256 := by omega
    refine (word_v f k m T _ cs G' (W3.drewN 1) v1 v2 v3 hk3 v6 v7 hLk).mono ?_
    rintro e X2 ⟨wv, C5, B5, G5, rfl, hW5, hW5e, hb5⟩
    rw [← v4] at hW5 hW5e
    obtain ⟨wa, wc, rfl⟩ := lb_form8 hW5.lb
    have b3X : Below W3.heap.size W3 X2 := (below_drewN (Below.refl _ _) 1).trans hb5
    refine ⟨wa, wc, rfl, b3X, ?_⟩
    have hLX : Lb X2 (.slice (some ⟨sb, 0, none⟩) n cs) n (fun _ => T) G' := Lb.below (lwh_lb_t hL h.caps.1 h.caps.2) b3X
    refine (same_t _ cs wa wc n (fun _ => T) G' G5 X2 hLX hW5.lb (by omega) (fun x hx t ht => ?_)).mono ?_
    · rw [hW5e x hx t ht]
      unfold wd
      by_cases e : x < k
      · rw [if_pos e]
      · rw [if_neg e]
        have hcw := poly_cw19 (n := n) (v := fun x => cv19 f k (F t) x) v1 (by omega) v5 (hO.pol t ht).1 (hO.pol t ht).2.1 (fun x => rfl) x hx
        rw [(hR x hx).1 t ht]
        refine Eq.trans hcw ?_
        unfold sm19f
        exact sx_congr (fun i hi => by (try dsimp only); rw [(hR i (by omega)).1 t ht])
    · rintro e X3 ⟨rfl, q3, rfl⟩
      have b3Y : Below W3.heap.size W3 (X2.drewN q3) := below_drewN b3X q3
      refine ⟨rfl, b3Y, ?_⟩
      have hT2 : ∀ x, x < n → ln x ≠ 0 → ∀ z, z < T → T2 x z = G x z := fun x hx h0 z hz => hTe x hx z (by rw [(h.rp.lens x hx).resolve_right h0]; exact hz)
      refine (apart_v n T q ba bc _ cs ln T2 G' (Pd T ln G' T2) (X2.drewN q3) (by omega) v5 v6 v7 (hbl.below b3Y) (hLX.below (below_drewN (Below.refl _ _) q3)) h.rp.lens (fun x hx => pd_iff)).mono ?_
      rintro e X4 ⟨b9, v9, lo9, hlo9, rfl, hb9, hG9, hX4⟩
      have hb9t : b9 = true := hb9.2 (fun z hz => by
        have h9 := (hO.pol z hz).2.2
        have e9 : cnb (fun y => Dv n ln G' T2 y z) n = cnb (fun x => pre19 n ln x && decide (cv19 f k (F z) x ≠ G x z)) n := cnb_congr (fun x hx => by
          unfold Dv
          cases hp : pre19 n ln x with
          | false => rfl
          | true =>
            have h0 := (pre19_iff.1 hp).2
            rw [hT2 x hx h0 z hz, (hR x hx).1 z hz])
        rw [e9, hq]
        omega)
      rw [hb9t]
      have eP : ∀ x, x < n → Pd T ln G' T2 x = Q x := fun x hx => by
        have a1 : Pd T ln G' T2 x = true ↔ Q x = true := by
          rw [pd_iff, hQ2 x hx]
          constructor
          · rintro ⟨h0, z, hz, h9⟩
            exact ⟨h0, z, hz, by rw [← (hR x hx).1 z hz, ← hT2 x hx h0 z hz]; exact h9⟩
          · rintro ⟨h0, z, hz, h9⟩
            exact ⟨h0, z, hz, by rw [(hR x hx).1 z hz, hT2 x hx h0 z hz]; exact h9⟩
        cases c1 : Pd T ln G' T2 x <;> cases c2 : Q x <;> simp_all
      rw [cnb_congr eP, fsel_congr eP] at hG9
      obtain ⟨a3, c3, rfl⟩ := hG9.form
      refine ⟨a3, c3, rfl, ?_⟩
      have b3Z : Below W3.heap.size W3 X4 := b3Y.trans (hX4.mono b3Y.size)
      refine (ints_t ta tc a3 c3 _ _ _ X4 (hQ.qi.below b3Z) hG9.qi (fun i hi => rfl)).mono ?_
      rintro e X5 ⟨rfl, q5, rfl⟩
      exact ⟨rfl, below_drewN (hb23.trans (b3Z.mono hb23.size)) q5⟩
  · refine ⟨none, 0, 0, 190, rfl, .inl ⟨rfl, ?_⟩⟩
    have h3 := h2.below hb3
    refine (same_t _ cs ba bc n ln G T2 W3 h3.lb (hT.lb.below hb3) (by omega) (fun i hi j hj => (hTe i hi j hj).symm)).mono ?_
    rintro e W4 ⟨rfl, q4, rfl⟩
    exact ⟨rfl, below_drewN h3.rp.bel q4⟩
end
end Go.Proofs.YtlblkckglelbdaaGreat
namespace Go.Proofs.YtlblkckglelbdaaGreat
open Go.RowKit Gf2
set_option linter.unusedVariables false

-- WholeMends: the first call, over three rows of two bytes
theorem lit2_t (W : World) (s t : Nat) (hs : s < 256) (ht : t < 256) : Rw (W.alloc (.cells #[.int .u8 (s : Int), .int .u8 (t : Int)] 5)) W.heap.size 2 (fun i => if i = 0 then s else t) := by
  refine ⟨by decide, fun i hi => by by_cases e : i = 0 <;> simp [e, hs, ht], _, heap_alloc_new _ _, rfl, fun i hi => ?_⟩
  have : i = 0 ∨ i = 1 := by omega
  rcases this with rfl | rfl <;> rfl
/-- three rows of two bytes and the list of them, in new memory. -/
def lt3 (w : World) (A : Nat → Nat → Nat) : World :=
  (((w.alloc (.cells #[.int .u8 (A 0 0 : Nat), .int .u8 (A 0 1 : Nat)] 5)).alloc (.cells #[.int .u8 (A 1 0 : Nat), .int .u8 (A 1 1 : Nat)] 5)).alloc (.cells #[.int .u8 (A 2 0 : Nat), .int .u8 (A 2 1 : Nat)] 5)).alloc
    (.cells #[.slice (some ⟨w.heap.size, 0, none⟩) 2 2, .slice (some ⟨w.heap.size + 1, 0, none⟩) 2 2, .slice (some ⟨w.heap.size + 2, 0, none⟩) 2 2] 27)
theorem lt3_lw (w : World) (A : Nat → Nat → Nat) (hA : ∀ x, x < 3 → ∀ z, z < 2 → A x z < 256) :
    Lwh19 (lt3 w A) (w.heap.size + 3) 3 (fun x => w.heap.size + x) (fun _ => 2) (fun _ => 2) (fun x z => if z = 0 then A x 0 else A x 1) ∧ Below w.heap.size w (lt3 w A) ∧ (lt3 w A).heap.size = w.heap.size + 4 := by
  unfold lt3
  obtain ⟨w1, h1⟩ : ∃ w1, w.alloc (.cells #[.int .u8 (A 0 0 : Nat), .int .u8 (A 0 1 : Nat)] 5) = w1 := ⟨_, rfl⟩
  have r0 := lit2_t w (A 0 0) (A 0 1) (hA 0 (by decide) 0 (by decide)) (hA 0 (by decide) 1 (by decide))
  have b1 : Below w.heap.size w (w.alloc (.cells #[.int .u8 (A 0 0 : Nat), .int .u8 (A 0 1 : Nat)] 5)) := (Below.refl _ _).alloc (Nat.le_refl _) _
  have s1 : (w.alloc (.cells #[.int .u8 (A 0 0 : Nat), .int .u8 (A 0 1 : Nat)] 5)).heap.size = w.heap.size + 1 := by simp
  rw [h1] at r0 b1 s1 ⊢
  clear h1
  obtain ⟨w2, h2⟩ : ∃ w2, w1.alloc (.cells #[.int .u8 (A 1 0 : Nat), .int .u8 (A 1 1 : Nat)] 5) = w2 := ⟨_, rfl⟩
  have r1 := lit2_t w1 (A 1 0) (A 1 1) (hA 1 (by decide) 0 (by decide)) (hA 1 (by decide) 1 (by decide))
  have b2 : Below w1.heap.size w1 (w1.alloc (.cells #[.int .u8 (A 1 0 : Nat), .int .u8 (A 1 1 : Nat)] 5)) := (Below.refl _ _).alloc (Nat.le_refl _) _
  have s2 : (w1.alloc (.cells #[.int .u8 (A 1 0 : Nat), .int .u8 (A 1 1 : Nat)] 5)).heap.size = w1.heap.size + 1 := by simp
  rw [h2] at r1 b2 s2 ⊢
  clear h2
  obtain ⟨w3, h3⟩ : ∃ w3, w2.alloc (.cells #[.int .u8 (A 2 0 : Nat), .int .u8 (A 2 1 : Nat)] 5) = w3 := ⟨_, rfl⟩
  have r2 := lit2_t w2 (A 2 0) (A 2 1) (hA 2 (by decide) 0 (by decide)) (hA 2 (by decide) 1 (by decide))
  have b3 : Below w2.heap.size w2 (w2.alloc (.cells #[.int .u8 (A 2 0 : Nat), .int .u8 (A 2 1 : Nat)] 5)) := (Below.refl _ _).alloc (Nat.le_refl _) _
  have s3 : (w2.alloc (.cells #[.int .u8 (A 2 0 : Nat), .int .u8 (A 2 1 : Nat)] 5)).heap.size = w2.heap.size + 1 := by simp
  rw [h3] at r2 b3 s3 ⊢
  clear h3
  have b4 : Below w3.heap.size w3 (w3.alloc (.cells #[.slice (some ⟨w.heap.size, 0, none⟩) 2 2, .slice (some ⟨w.heap.size + 1, 0, none⟩) 2 2, .slice (some ⟨w.heap.size + 2, 0, none⟩) 2 2] 27)) := (Below.refl _ _).alloc (Nat.le_refl _) _
  have hl : (w3.alloc (.cells #[.slice (some ⟨w.heap.size, 0, none⟩) 2 2, .slice (some ⟨w.heap.size + 1, 0, none⟩) 2 2, .slice (some ⟨w.heap.size + 2, 0, none⟩) 2 2] 27)).heap[w3.heap.size]? = some (.cells #[.slice (some ⟨w.heap.size, 0, none⟩) 2 2, .slice (some ⟨w.heap.size + 1, 0, none⟩) 2 2, .slice (some ⟨w.heap.size + 2, 0, none⟩) 2 2] 27 (0, 0)) := heap_alloc_new _ _
  have s4 : (w3.alloc (.cells #[.slice (some ⟨w.heap.size, 0, none⟩) 2 2, .slice (some ⟨w.heap.size + 1, 0, none⟩) 2 2, .slice (some ⟨w.heap.size + 2, 0, none⟩) 2 2] 27)).heap.size = w3.heap.size + 1 := by simp
  generalize w3.alloc (.cells #[.slice (some ⟨w.heap.size, 0, none⟩) 2 2, .slice (some ⟨w.heap.size + 1, 0, none⟩) 2 2, .slice (some ⟨w.heap.size + 2, 0, none⟩) 2 2] 27) = w4 at *
  have e1 : w1.heap.size = w.heap.size + 1 := s1
  have e2 : w2.heap.size = w.heap.size + 2 := by omega
  have e3 : w3.heap.size = w.heap.size + 3 := by omega
  rw [e3] at hl
  rw [e1] at r1
  rw [e2] at r2
  refine ⟨⟨RowH.of_cells hl (Nat.le_refl 3) (fun i hi => ?_), fun x hx => ?_, fun _ _ => by decide, fun x y _ _ h e => by omega, fun x hx => by omega⟩, ((b1.trans (b2.mono (by omega))).trans (b3.mono (by omega))).trans (b4.mono (by omega)), by omega⟩
  · rcases (show i = 0 ∨ i = 1 ∨ i = 2 by omega) with rfl | rfl | rfl <;> rfl
  · rcases (show x = 0 ∨ x = 1 ∨ x = 2 by omega) with rfl | rfl | rfl
    · exact rw_below (rw_below (rw_below r0 b2) b3) b4
    · exact rw_below (rw_below r1 b3) b4
    · exact rw_below r2 b4
def tb1 (x z : Nat) : Nat := if z = 0 then (if x = 2 then 6 else 5) else (if x = 0 then 1 else 2)
def tb2 (x z : Nat) : Nat := if z = 0 then 5 else 2
/-- what stands behind the first call. -/
structure On19 (w W : World) (v : Value) (sb : Nat) : Prop where
  told : Qi W v 2 (fun i => if i = 0 then 0 else 2)
  list : Lb W (.slice (some ⟨sb, 0, none⟩) 3 3) 3 (fun _ => 2) tb2
  bel : Below w.heap.size w W
theorem On19.below {w W W' : World} {v : Value} {sb : Nat} (h : On19 w W v sb) (hb : Below W.heap.size W W') : On19 w W' v sb := ⟨h.told.below hb, h.list.below hb, h.bel.trans (hb.mono h.bel.size)⟩
theorem one19 (w : World) : Calls Tryz.prog 5 #[.int .i64 0, .int .i64 1, .int .i64 2, .slice (some ⟨w.heap.size + 3, 0, none⟩) 3 3] (lt3 w tb1) fun e W => ∃ v, e = .returned (.tuple #[v, .int .i64 0]) ∧ On19 w W v (w.heap.size + 3) := by
  obtain ⟨h1, h2, h3⟩ := lt3_lw w tb1 (fun x hx z hz => by unfold tb1; split <;> split <;> decide)
  have hr : Rq19 w (w.heap.size + 3) (lt3 w tb1) 3 2 (fun x => w.heap.size + x) (fun _ => 2) (fun _ => 2) (fun x => some ⟨w.heap.size + x, 0, none⟩) (fun _ => 2) (fun x z => if z = 0 then tb1 x 0 else tb1 x 1) := ⟨by omega, h1.lx, fun x hx _ => by omega, fun x hx => .inl rfl, h2⟩
  have e0 : cnb (emp (fun _ => 2)) 3 = 0 := by decide
  have hN : Nq19 w (w.heap.size + 3) (lt3 w tb1) 0 1 2 3 2 (fun x => w.heap.size + x) (fun _ => 2) (fun _ => 2) (fun x => some ⟨w.heap.size + x, 0, none⟩) (fun _ => 2) (fun x z => if z = 0 then tb1 x 0 else tb1 x 1) (fun x z => tb2 x z) (fun x => decide (x ≠ 1)) := by
    refine ⟨hr, by decide, by rw [e0]; decide, fun z hz x hx => by unfold tb2; split <;> decide, fun z hz => ?_, fun z hz => ?_, fun x hx => ?_⟩
    · have h9 : ∀ c, c < 256 → Cw19 0 1 3 (fun _ => c) := fun c hc => by
        have h8 := col_cw19 (f := 0) (k := 1) (n := 3) (sd := fun _ => c) (by decide) (by decide) (by decide) (fun _ _ => hc)
        have e : ∀ x, col19 0 1 (fun _ => c) x = c := fun x => by
          unfold col19
          rw [if_pos rfl]
          show pe 285 x 1 (fun _ => c) = c
          show 0 ^^^ fm 285 c (fp 285 x 0) = c
          rw [Nat.zero_xor]
          exact fld8.fm_one hc
        intro x hx
        have := h8 x hx
        simp only [e] at this
        exact this
      have : (fun x => tb2 x z) = (fun _ => if z = 0 then 5 else 2) := rfl
      rw [this]
      exact h9 _ (by split <;> decide)
    · rw [e0]
      rcases (show z = 0 ∨ z = 1 by omega) with rfl | rfl <;> decide
    · rcases (show x = 0 ∨ x = 1 ∨ x = 2 by omega) with rfl | rfl | rfl
      · exact ⟨fun _ => ⟨by decide, 1, by decide, by decide⟩, fun _ => by decide⟩
      · refine ⟨fun h => absurd h (by decide), fun ⟨_, z, hz, h⟩ => ?_⟩
        rcases (show z = 0 ∨ z = 1 by omega) with rfl | rfl <;> exact absurd h (by decide)
      · exact ⟨fun _ => ⟨by decide, 0, by decide, by decide⟩, fun _ => by decide⟩
  refine (shards_nq19 (cs := 3) (Nat.le_refl _) (by decide) hN).mono ?_
  rintro e W ⟨v, he, hG, hb, -, R', C', G', hL, hR⟩
  refine ⟨v, he, hG.qi.congr (fun i hi => ?_), Ll.congr (lwh_lb_t hL (Nat.le_refl _) (by decide)) (fun x hx z hz => (hR x hx).1 z hz), hb⟩
  rcases (show i = 0 ∨ i = 1 by have : cnb (fun x => decide (x ≠ 1)) 3 = 2 := by decide
                                omega) with rfl | rfl <;> rfl
theorem on_a {w W : World} {v : Value} {sb : Nat} (h : On19 w W v sb) : ∃ ta tc, v = .slice ta 2 tc ∧
    Calls Tryz.prog 6 #[.slice ta 2 tc, .slice (some ⟨W.heap.size, 0, none⟩) 2 2] (W.alloc (.cells #[.int .i64 0, .int .i64 2] 3)) fun e W4 => e = .returned (.bool true) ∧
    Calls Tryz.prog 7 #[.slice (some ⟨sb, 0, none⟩) 3 3, .slice (some ⟨W4.heap.size + 3, 0, none⟩) 3 3] (lt3 W4 tb2) fun e W5 => e = .returned (.bool true) ∧ Below w.heap.size w W5 := by
  obtain ⟨-, -, ta, tc, rfl, -⟩ := h.told
  refine ⟨ta, tc, rfl, ?_⟩
  have bA : Below W.heap.size W (W.alloc (.cells #[.int .i64 0, .int .i64 2] 3)) := (Below.refl _ _).alloc (Nat.le_refl _) _
  have hr : Ri (W.alloc (.cells #[.int .i64 0, .int .i64 2] 3)) W.heap.size 2 (fun i => if i = 0 then 0 else 2) := ⟨by decide, trivial, _, heap_alloc_new _ _, rfl, fun i hi => by
    rcases (show i = 0 ∨ i = 1 by omega) with rfl | rfl <;> rfl⟩
  have hA := h.below bA
  generalize W.alloc (.cells #[.int .i64 0, .int .i64 2] 3) = WA at *
  refine (ints_t ta tc _ 2 2 _ _ WA hA.told (hr.qi (Nat.le_refl _) (Nat.le_refl _) (by decide) (fun _ _ => rfl)) (fun _ _ => rfl)).mono ?_
  rintro e W4 ⟨rfl, q, rfl⟩
  have h4 : On19 w (WA.drewN q) (.slice ta 2 tc) sb := hA.below (below_drewN (Below.refl _ _) q)
  generalize WA.drewN q = W4 at *
  refine ⟨rfl, ?_⟩
  obtain ⟨l1, l2, l3⟩ := lt3_lw W4 tb2 (fun x hx z hz => by unfold tb2; split <;> decide)
  have h5 := h4.below l2
  refine (same_t _ 3 _ 3 3 (fun _ => 2) tb2 (fun x z => if z = 0 then tb2 x 0 else tb2 x 1) _ h5.list (lwh_lb_t l1 (Nat.le_refl _) (by decide)) (by decide) (fun x hx z hz => ?_)).mono ?_
  · rcases (show z = 0 ∨ z = 1 by omega) with rfl | rfl <;> rfl
  · rintro e W5 ⟨rfl, q5, rfl⟩
    exact ⟨rfl, below_drewN h5.bel q5⟩
end Go.Proofs.YtlblkckglelbdaaGreat
namespace Go.Proofs.YtlblkckglelbdaaGreat
open Go.RowKit Gf2
set_option linter.unusedVariables false

-- WholeMends: the codeword and its copy, where the loops begin; a shard is lost, a byte turned
/-- an integer as an unsigned one. -/
def uv (v : Int) : Nat := (v % 18446744073709551616).toNat
theorem uw_t (v : Int) : IntKind.u64.wrap v = ((uv v : Nat) : Int) := by
  rw [IntKind.wrap_u64]
  unfold uv
  omega
theorem uw_n (n : Nat) (h : n ≤ 1048576) : IntKind.u64.wrap ((n : Nat) : Int) = ((n : Nat) : Int) := by
  rw [IntKind.wrap_u64]
  omega
theorem tm_t (u n : Nat) : ((u : Nat) : Int).tmod ((n : Nat) : Int) = ((u % n : Nat) : Int) := rfl
theorem uw_idx (v : Int) (n : Nat) (h : n ≤ 1048576) (h0 : 1 ≤ n) : wrap64 ((IntKind.u64.wrap v).tmod (IntKind.u64.wrap ((n : Nat) : Int))) = ((uv v % n : Nat) : Int) ∧ uv v % n < n := by
  have h1 := Nat.mod_lt (uv v) (show 0 < n by omega)
  refine ⟨?_, h1⟩
  rw [uw_t, uw_n n h, tm_t]
  generalize uv v % n = a at *
  unfold wrap64
  omega
theorem wd_cw {f k n z T : Nat} {D V : Nat → Nat → Nat} (hk : k ≤ n) (hV : ∀ x, x < n → V x z = wd f k D x z) (hD : ∀ x, x < k → D x z < 256) : Cw19 f k n (fun x => V x z) := by
  intro x hx
  show V x z = sx k (fun i => fm 285 (gen11 f k x i) (V i z))
  have e : sx k (fun i => fm 285 (gen11 f k x i) (V i z)) = sx k (fun i => fm 285 (gen11 f k x i) (D i z)) := sx_congr (fun i hi => by
    rw [hV i (by omega)]
    unfold wd
    rw [if_pos hi])
  rw [e, hV x hx]
  unfold wd
  by_cases h : x < k
  · rw [if_pos h]
    exact (gen_top19 (v := fun i => D i z) h (hD x h)).symm
  · rw [if_neg h]
    rfl
theorem gl_lh {lo n : Nat} {W : World} {v : Value} {ln C B : Nat → Nat} {S : Nat → Nat → Nat} (h : Gl8 lo W v n ln C B S) (hn : 1 ≤ n) : ∃ sb cs, v = .slice (some ⟨sb, 0, none⟩) n cs ∧ n ≤ cs ∧ cs ≤ big ∧ lo ≤ sb ∧ Lwh19 W sb n B ln C S := by
  obtain ⟨h1, h2 | ⟨g, cap, cur, rfl, hb, hg, r1, r2, r3, r4⟩⟩ := h.list
  · omega
  · refine ⟨g, cap, rfl, r1, by unfold big; unfold maxLen at r2; exact r2, hb, ⟨RowH.of_cells hg (by omega) (fun i hi => ?_), fun x hx => (h.rows x hx).2.2, fun x hx => (h.rows x hx).2.1, h.inj, fun x hx e => h.ne x hx (by rw [e]; rfl)⟩⟩
    have h9 := World.ownsRow.cellAt (j := i) h.list (by omega)
    rw [lv9_get _ hi] at h9
    simpa [World.cell?, hg] using h9
theorem me_start {lo f k m n T cw : Nat} {aw : Option Addr} {W6 W7 : World} {vs : Value} {C6 B6 C7 B7 : Nat → Nat} {G6 T7 D : Nat → Nat → Nat} (val : f ≤ 1 ∧ 1 ≤ k ∧ 1 ≤ m ∧ n = k + m ∧ n ≤ 256 ∧ 1 ≤ T ∧ T ≤ 1048576) (h6 : Gl8 lo W6 (.slice aw n cw) n (fun _ => T) C6 B6 G6) (hwd : ∀ x, x < n → ∀ t, t < T → G6 x t = wd f k D x t) (hD : ∀ x, x < k → ∀ t, t < T → D x t < 256)
    (h7 : Gl8 W6.heap.size W7 vs n (fun _ => T) C7 B7 T7) (hTe : ∀ i, i < n → ∀ j, j < T → T7 i j = G6 i j) (hb : Below W6.heap.size W6 W7) :
    ∃ sb cs, vs = .slice (some ⟨sb, 0, none⟩) n cs ∧ Me W6 sb cs W7 f k m n T aw cw B7 (fun _ => T) C7 (fun x => some ⟨B7 x, 0, none⟩) C7 T7 G6 ∧ cnb (emp (fun _ => T)) n = 0 := by
  obtain ⟨v1, v2, v3, v4, v5, v6, v7⟩ := val
  obtain ⟨sb, cs, rfl, hc1, hc2, hlo, hL⟩ := gl_lh h7 (by omega)
  have e0 : cnb (emp (fun _ => T)) n = 0 := cnb_zero (fun i _ => by
    show (T == 0) = false
    simp; omega)
  refine ⟨sb, cs, rfl, ⟨⟨hlo, hL.lx, fun x hx _ => (h7.rows x hx).1, fun _ _ => .inl rfl, hb⟩, ⟨v1, v2, v3, v4, v5, v6, v7⟩, ⟨hc1, hc2⟩, by rw [e0]; omega, fun x hx e => by omega, h6.lb, fun z hz x hx => ?_, fun z hz => wd_cw (T := T) (D := D) (by omega) (fun x hx => hwd x hx z hz) (fun x hx => hD x hx z hz)⟩, e0⟩
  rw [hwd x hx z hz]
  unfold wd
  split
  · exact hD x (by assumption) z hz
  · exact sm19f_lt _ _ _ _ _
section
variable {w2 W W' : World} {sb cs f k m n T : Nat} {aw : Option Addr} {cw : Nat} {B ln C : Nat → Nat} {va : Nat → Option Addr} {vc : Nat → Nat} {G V : Nat → Nat → Nat}
theorem Me.lose (h : Me w2 sb cs W f k m n T aw cw B ln C va vc G V) {a : Nat} (ha : a < n) (h0 : ln a ≠ 0) (hf : cnb (emp ln) n < m) :
    Me w2 sb cs (W.setCell ⟨sb, a, none⟩ (.slice none 0 0)) f k m n T aw cw B (fun x => if x = a then 0 else ln x) C (fun x => if x = a then none else va x) (fun x => if x = a then 0 else vc x) G V ∧ cnb (emp (fun x => if x = a then 0 else ln x)) n = cnb (emp ln) n + 1 := by
  have e := Rq19.emp_ (n := n) (ln := ln) ha h0
  refine ⟨⟨h.rp.lose ha, h.val, h.caps, by rw [e]; omega, fun x hx e9 => ?_, h.whole, h.byt, h.cw⟩, e⟩
  (try dsimp only at e9 ⊢)
  by_cases e2 : x = a
  · rw [if_pos e2]
  · rw [if_neg e2] at e9 ⊢
    exact h.vz x hx e9
theorem Me.turn (h : Me w2 sb cs W f k m n T aw cw B ln C va vc G V) {a t y : Nat} (ha : a < n) (h0 : ln a ≠ 0) (hy : y < 256) :
    Me w2 sb cs (W.setCell ⟨B a, t, none⟩ (.int .u8 (y : Nat))) f k m n T aw cw B ln C va vc (fun x z => if x = a ∧ z = t then y else G x z) V :=
  ⟨h.rp.turn ha h0 hy, h.val, h.caps, h.few, h.vz, h.whole, h.byt, h.cw⟩
end
end Go.Proofs.YtlblkckglelbdaaGreat
