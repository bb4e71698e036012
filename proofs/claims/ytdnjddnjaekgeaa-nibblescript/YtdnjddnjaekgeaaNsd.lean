import Derived.Test.YtdnjddnjaekgeaaNsc
import Derived.Test.YtdnjddnjaekgeaaNbf
namespace Go.Proofs.Ytdnjddnjaekgeaa
open Go.RowKit Gf2
set_option linter.unusedVariables false

theorem rb_kp {W W' : World} {a : Option Addr} {n C g : Nat} {S : Nat → Nat} (h : Rb W (.slice a n C) n S) (hk : Kp g W W') (hg : ∀ b o, a = some ⟨b, o, none⟩ → 0 < n → b ≠ g) : Rb W' (.slice a n C) n S := by
  obtain ⟨b1, b2, a', c', b3, b5, b6, b4⟩ := h
  cases b3
  refine ⟨b1, b2, a, C, rfl, b5, b6, fun h0 => ?_⟩
  obtain ⟨b, o, e, hl, hc⟩ := b4 h0
  exact ⟨b, o, e, Nat.lt_of_lt_of_le hl hk.size, fun i hi => (hk.cell hl (hg b o e h0)).trans (hc i hi)⟩
/-- the slices at work: have's rows, want's lists. -/
structure Sc (w1 W : World) (hb wb K : Nat) (n : Nat → Nat) (Bh : Nat → Nat) (V U : Nat → Nat → Nat) : Prop where
  bel : Below w1.heap.size w1 W
  hc : ∀ r, r < K → W.cell? ⟨hb, r, none⟩ = some (.slice (some ⟨Bh r, 0, none⟩) (n r) (n r))
  rows : ∀ r, r < K → w1.heap.size ≤ Bh r ∧ Rw W (Bh r) (n r) (V r)
  inj : ∀ r s, r < K → s < K → r ≠ s → Bh r ≠ Bh s
  wc : ∀ r, r < K → ∃ a C, W.cell? ⟨wb, r, none⟩ = some (.slice a (n r) C) ∧ Rb W (.slice a (n r) C) (n r) (U r) ∧ ∀ g o, a = some ⟨g, o, none⟩ → 0 < n r → g ≠ wb ∧ ∀ s, s < K → g ≠ Bh s
  fz : ∀ r, r < K → W.frozen? ⟨wb, r, none⟩ = false
  hlt : hb < W.heap.size
  wlt : wb < W.heap.size
  wlo : w1.heap.size ≤ wb
  hne : hb ≠ wb
  bne : ∀ r, r < K → Bh r ≠ hb ∧ Bh r ≠ wb
theorem frozen_block {W W' : World} {b r : Nat} (e : W'.heap[b]? = W.heap[b]?) : W'.frozen? ⟨b, r, none⟩ = W.frozen? ⟨b, r, none⟩ := World.frozen?_of_block (a := ⟨b, r, none⟩) e

section
variable {w1 W W' : World} {hb wb K : Nat} {n : Nat → Nat} {Bh : Nat → Nat} {V U : Nat → Nat → Nat}
theorem Sc.turn (h : Sc w1 W hb wb K n Bh V U) {t : Nat} {F : Nat → Nat} (ht : t < K) (hk : Kp (Bh t) W W') (hr : Rw W' (Bh t) (n t) F) : Sc w1 W' hb wb K n Bh (upn V t F) U := by
  have n1 := (h.bne t ht).1
  have n2 := (h.bne t ht).2
  refine ⟨h.bel.trans (hk.below (h.rows t ht).1 h.bel.size), fun r hr' => (hk.cell h.hlt (fun e => n1 e.symm)).trans (h.hc r hr'), fun r hr' => ⟨(h.rows r hr').1, ?_⟩, h.inj, fun r hr' => ?_, fun r hr' => ?_, Nat.lt_of_lt_of_le h.hlt hk.size, Nat.lt_of_lt_of_le h.wlt hk.size, h.wlo, h.hne, h.bne⟩
  · by_cases e : r = t
    · subst e; rw [upn_same]; exact hr
    · rw [upn_other _ _ e]
      exact hk.rw_ (h.rows r hr').2 (h.inj r t hr' ht e)
  · obtain ⟨a, C, c1, c2, c3⟩ := h.wc r hr'
    exact ⟨a, C, (hk.cell h.wlt (fun e => n2 e.symm)).trans c1, rb_kp c2 hk (fun b o e h0 => (c3 b o e h0).2 t ht), c3⟩
  · rw [frozen_block (hk.2 wb h.wlt (fun e => n2 e.symm))]
    exact h.fz r hr'
theorem Sc.still (h : Sc w1 W hb wb K n Bh V U) (hk : Below W.heap.size W W') : Sc w1 W' hb wb K n Bh V U := by
  refine ⟨h.bel.trans (hk.mono h.bel.size), fun r hr' => (hk.cell (p := ⟨hb, r, none⟩) h.hlt).trans (h.hc r hr'), fun r hr' => ⟨(h.rows r hr').1, rw_below (h.rows r hr').2 hk⟩, h.inj, fun r hr' => ?_, fun r hr' => ?_, Nat.lt_of_lt_of_le h.hlt hk.size, Nat.lt_of_lt_of_le h.wlt hk.size, h.wlo, h.hne, h.bne⟩
  · obtain ⟨a, C, c1, c2, c3⟩ := h.wc r hr'
    exact ⟨a, C, (hk.cell (p := ⟨wb, r, none⟩) h.wlt).trans c1, c2.below hk, c3⟩
  · rw [frozen_block (hk.block wb h.wlt)]
    exact h.fz r hr'
theorem Sc.drewN (h : Sc w1 W hb wb K n Bh V U) (m : Nat) : Sc w1 (W.drewN m) hb wb K n Bh V U := h.still (below_drewN (Below.refl _ _) m)
theorem Sc.drew (h : Sc w1 W hb wb K n Bh V U) : Sc w1 W.drew hb wb K n Bh V U := h.still (Below.refl _ _).drew
/-- want's list t becomes another. -/
theorem Sc.put (h : Sc w1 W hb wb K n Bh V U) {t : Nat} (ht : t < K) {a : Option Addr} {C : Nat} {T : Nat → Nat} (hv : Rb W (.slice a (n t) C) (n t) T) (hd : ∀ g o, a = some ⟨g, o, none⟩ → 0 < n t → g ≠ wb ∧ ∀ s, s < K → g ≠ Bh s) :
    Sc w1 (W.setCell ⟨wb, t, none⟩ (.slice a (n t) C)) hb wb K n Bh V (upn U t T) := by
  have ko : Only wb W (W.setCell ⟨wb, t, none⟩ (.slice a (n t) C)) := (Only.refl wb W).setCell t _
  have hk := ko.kp
  refine ⟨h.bel.trans (hk.below h.wlo h.bel.size), fun r hr' => (hk.cell h.hlt h.hne).trans (h.hc r hr'), fun r hr' => ⟨(h.rows r hr').1, hk.rw_ (h.rows r hr').2 (h.bne r hr').2⟩, h.inj, fun r hr' => ?_, fun r hr' => ?_, Nat.lt_of_lt_of_le h.hlt hk.size, Nat.lt_of_lt_of_le h.wlt hk.size, h.wlo, h.hne, h.bne⟩
  · by_cases e : r = t
    · subst e
      rw [upn_same]
      obtain ⟨a0, C0, c1, -⟩ := h.wc r hr'
      refine ⟨a, C, World.cell?_setCell_same _ _ _ c1, rb_kp hv hk (fun b o e h0 => (hd b o e h0).1), hd⟩
    · rw [upn_other _ _ e]
      obtain ⟨a0, C0, c1, c2, c3⟩ := h.wc r hr'
      refine ⟨a0, C0, (World.cell?_setCell_other _ _ _ _ (by intro h; simp only [Addr.mk.injEq] at h; omega)).trans c1, rb_kp c2 hk (fun b o e h0 => (c3 b o e h0).1), c3⟩
  · rw [World.frozen?_setCell]
    exact h.fz r hr'

/-- the error's number of a call on the lists t and s. -/
def er6 (n : Nat → Nat) (t s : Nat) : Int := if n t = n s then 0 else 6
/-- the lists behind it. -/
def nx6 (f : Nat → Nat → Nat) (n : Nat → Nat) (t s : Nat) (V : Nat → Nat → Nat) : Nat → Nat → Nat := if n t = n s then upn V t (fun i => f (V t i) (V s i)) else V

theorem sc_mul {p : Addr} {lo hi : Nat} (h : Sc w1 W hb wb K n Bh V U) (hk : Nk w1 p lo hi) (t s c : Nat) (ht : t < K) (hs : s < K) (hc : c < 256) :
    Calls Try.prog 14 #[.pointer (some p), .int .u8 (c : Int), .slice (some ⟨Bh t, 0, none⟩) (n t) (n t), .slice (some ⟨Bh s, 0, none⟩) (n s) (n s)] W fun e w' =>
      e = .returned (.int .i64 (er6 n t s)) ∧ Sc w1 w' hb wb K n Bh (nx6 (fun _ x => fm 285 c x) n t s V) U ∧ Kp (Bh t) W w' := by
  have hk' := nk_below hk h.bel
  have hr := (h.rows t ht).2
  have hlo := (h.rows t ht).1
  have hh := hk.hi
  by_cases e : n t = n s
  · unfold er6 nx6
    rw [if_pos e, if_pos e, ← e]
    by_cases ets : t = s
    · subst ets
      refine (nmul_gen p lo hi c (n t) (Bh t) 0 (n t) (V t) (fun F i => F (0 + i)) _ _ (n t) (n t) W hk' hc hr.1 (.inr (by omega)) hr (fun _ => ⟨rfl, by omega⟩) (fun h0 => Rdk.row rfl (by omega))).mono fun e w' ⟨a1, a2, a3⟩ => ⟨a1, h.turn ht a2 ?_, a2⟩
      exact a3.congr (fun i hi => by rw [goes_same]; have := pl_in (F := V t) (o := 0) (S := fun i => fm 285 c (V t (0 + i))) hi; simp only [Nat.zero_add] at this ⊢; exact this)
    · have hs2 := (h.rows s hs).2
      refine (nmul_gen p lo hi c (n t) (Bh t) 0 (n t) (V t) (fun _ => V s) _ _ (n t) (n t) W hk' hc hr.1 (.inr (by omega)) hr (fun _ => ⟨rfl, by omega⟩) (fun h0 => Fk.reads ⟨fun i hi => hs2.2.1 i (by omega), fun _ => ⟨Bh s, 0, rfl, h.inj s t hs ht (fun e => ets e.symm), hs2.lt, fun i hi => by rw [Nat.zero_add]; exact hs2.2.2.cell (by omega)⟩⟩ h0)).mono fun e w' ⟨a1, a2, a3⟩ => ⟨a1, h.turn ht a2 ?_, a2⟩
      exact a3.congr (fun i hi => by rw [goes_far]; have := pl_in (F := V t) (o := 0) (S := fun i => fm 285 c (V s i)) hi; rwa [Nat.zero_add] at this)
  · unfold er6 nx6
    rw [if_neg e, if_neg e]
    exact (nmul_lens p lo hi c (n t) (n s) _ _ _ _ W hk' e).mono fun e w' ⟨a1, a2⟩ => ⟨a1, by rw [a2]; exact h, by rw [a2]; exact Kp.refl _ _⟩
theorem sc_add {p : Addr} {lo hi : Nat} (h : Sc w1 W hb wb K n Bh V U) (hk : Nk w1 p lo hi) (t s c : Nat) (ht : t < K) (hs : s < K) (hc : c < 256) :
    Calls Try.prog 16 #[.pointer (some p), .int .u8 (c : Int), .slice (some ⟨Bh t, 0, none⟩) (n t) (n t), .slice (some ⟨Bh s, 0, none⟩) (n s) (n s)] W fun e w' =>
      e = .returned (.int .i64 (er6 n t s)) ∧ Sc w1 w' hb wb K n Bh (nx6 (fun d x => d ^^^ fm 285 c x) n t s V) U ∧ Kp (Bh t) W w' := by
  have hk' := nk_below hk h.bel
  have hr := (h.rows t ht).2
  have hlo := (h.rows t ht).1
  have hh := hk.hi
  by_cases e : n t = n s
  · unfold er6 nx6
    rw [if_pos e, if_pos e, ← e]
    by_cases ets : t = s
    · subst ets
      refine (nadd_gen p lo hi c (n t) (Bh t) 0 (n t) (V t) (fun F i => F (0 + i)) _ _ (n t) (n t) W hk' hc hr.1 (.inr (by omega)) hr (fun _ => ⟨rfl, by omega⟩) (fun h0 => Rdk.row rfl (by omega))).mono fun e w' ⟨a1, a2, a3⟩ => ⟨a1, h.turn ht a2 ?_, a2⟩
      exact a3.congr (fun i hi => by rw [goes_same]; have := pl_in (F := V t) (o := 0) (S := fun i => V t (0 + i) ^^^ fm 285 c (V t (0 + i))) hi; simp only [Nat.zero_add] at this ⊢; exact this)
    · have hs2 := (h.rows s hs).2
      refine (nadd_gen p lo hi c (n t) (Bh t) 0 (n t) (V t) (fun _ => V s) _ _ (n t) (n t) W hk' hc hr.1 (.inr (by omega)) hr (fun _ => ⟨rfl, by omega⟩) (fun h0 => Fk.reads ⟨fun i hi => hs2.2.1 i (by omega), fun _ => ⟨Bh s, 0, rfl, h.inj s t hs ht (fun e => ets e.symm), hs2.lt, fun i hi => by rw [Nat.zero_add]; exact hs2.2.2.cell (by omega)⟩⟩ h0)).mono fun e w' ⟨a1, a2, a3⟩ => ⟨a1, h.turn ht a2 ?_, a2⟩
      exact a3.congr (fun i hi => by rw [goes_far]; have := pl_in (F := V t) (o := 0) (S := fun i => V t (0 + i) ^^^ fm 285 c (V s i)) hi; simp only [Nat.zero_add] at this ⊢; exact this)
  · unfold er6 nx6
    rw [if_neg e, if_neg e]
    exact (nadd_lens p lo hi c (n t) (n s) _ _ _ _ W hk' e).mono fun e w' ⟨a1, a2⟩ => ⟨a1, by rw [a2]; exact h, by rw [a2]; exact Kp.refl _ _⟩

/-- what the document's call answers: a list of its own. -/
def New6 (W w' : World) (m : Nat) (a : Option Addr) (C : Nat) (T : Nat → Nat) : Prop := Below W.heap.size W w' ∧ Rb w' (.slice a m C) m T ∧ ∀ g o, a = some ⟨g, o, none⟩ → 0 < m → W.heap.size ≤ g
theorem new_of_gw {w' : World} {v : Value} {m : Nat} {T : Nat → Nat} (h : Gw W w' v m T) : ∃ a C, v = .slice a m C ∧ New6 W w' m a C T := by
  have hr := h.rb
  rcases h.2 with ⟨rfl, rfl⟩ | ⟨g, C, F, rfl, a2, a3, a4, a5⟩
  · exact ⟨_, _, rfl, h.1, hr, fun g o e => by cases e⟩
  · exact ⟨_, _, rfl, h.1, hr, fun g' o e h0 => by cases e; exact a3⟩
theorem sc_refMul (c t s : Nat) {a a' : Option Addr} {C C' : Nat} (hc : c < 256) (hu : Rb W (.slice a (n t) C) (n t) (U t)) (hv : Rb W (.slice a' (n s) C') (n s) (U s)) (hn : n t ≤ 140737488351232) :
    Calls Try.prog 17 #[.int .u8 (c : Int), .slice a (n t) C, .slice a' (n s) C'] W fun e w' => ∃ a2 C2, e = .returned (.tuple #[.slice a2 (n t) C2, .int .i64 (er6 n t s)]) ∧ New6 W w' (n t) a2 C2 (nx6 (fun _ x => fm 285 c x) n t s U t) := by
  by_cases e : n t = n s
  · unfold er6 nx6
    rw [if_pos e, if_pos e, upn_same]
    rw [← e] at hv ⊢
    refine (refMul6_any c (n t) _ _ (U t) (U s) W hc hu hv hn).mono fun e w' ⟨r, a1, a2⟩ => ?_
    obtain ⟨a3, C3, rfl, h3⟩ := new_of_gw a2
    exact ⟨a3, C3, a1, h3⟩
  · unfold er6 nx6
    rw [if_neg e, if_neg e]
    exact (refMul6_lens c (n t) (n s) _ _ (U t) (U s) W hu hv hn e).mono fun e w' ⟨g, C3, a1, a2⟩ => ⟨_, C3, a1, a2.2.2.1, own8_rb a2, fun g' o e h0 => by cases e; exact a2.2.1⟩
theorem sc_refAdd (c t s : Nat) {a a' : Option Addr} {C C' : Nat} (hc : c < 256) (hu : Rb W (.slice a (n t) C) (n t) (U t)) (hv : Rb W (.slice a' (n s) C') (n s) (U s)) (hn : n t ≤ 140737488351232) :
    Calls Try.prog 18 #[.int .u8 (c : Int), .slice a (n t) C, .slice a' (n s) C'] W fun e w' => ∃ a2 C2, e = .returned (.tuple #[.slice a2 (n t) C2, .int .i64 (er6 n t s)]) ∧ New6 W w' (n t) a2 C2 (nx6 (fun d x => d ^^^ fm 285 c x) n t s U t) := by
  by_cases e : n t = n s
  · unfold er6 nx6
    rw [if_pos e, if_pos e, upn_same]
    rw [← e] at hv ⊢
    refine (refAdd6_any c (n t) _ _ (U t) (U s) W hc hu hv hn).mono fun e w' ⟨r, a1, a2⟩ => ?_
    obtain ⟨a3, C3, rfl, h3⟩ := new_of_gw a2
    exact ⟨a3, C3, a1, h3⟩
  · unfold er6 nx6
    rw [if_neg e, if_neg e]
    exact (refAdd6_lens c (n t) (n s) _ _ (U t) (U s) W hu hv hn e).mono fun e w' ⟨g, C3, a1, a2⟩ => ⟨_, C3, a1, a2.2.2.1, own8_rb a2, fun g' o e h0 => by cases e; exact a2.2.1⟩
/-- the new list in its place. -/
theorem Sc.lay (h : Sc w1 W hb wb K n Bh V U) {w' : World} {t s : Nat} (ht : t < K) {a : Option Addr} {C : Nat} {f : Nat → Nat → Nat} (hN : New6 W w' (n t) a C (nx6 f n t s U t)) :
    Sc w1 (w'.setCell ⟨wb, t, none⟩ (.slice a (n t) C)) hb wb K n Bh V (nx6 f n t s U) := by
  obtain ⟨h1, h2, h3⟩ := hN
  have h' := (h.still h1).put ht h2 (fun g o e h0 => by
    have l := h3 g o e h0
    have := h.wlt
    exact ⟨by omega, fun s hs e => by have := (h.rows s hs).2.lt; omega⟩)
  have e : upn U t (nx6 f n t s U t) = nx6 f n t s U := by
    funext j
    by_cases e : j = t
    · subst e; rw [upn_same]
    · rw [upn_other _ _ e]
      unfold nx6
      split
      · rw [upn_other _ _ e]
      · rfl
  rw [e] at h'
  exact h'
theorem sc_equal (h : Sc w1 W hb wb K n Bh V U) (j : Nat) (hj : j < K) (he : ∀ r, r < K → ∀ i, i < n r → V r i = U r i) :
    ∃ a C, W.cell? ⟨wb, j, none⟩ = some (.slice a (n j) C) ∧ ∀ m, Calls Try.prog 12 #[.slice (some ⟨Bh j, 0, none⟩) (n j) (n j), .slice a (n j) C] (W.drewN m) fun e w' => e = .returned (.bool true) ∧ ∃ k, w' = (W.drewN m).drewN k := by
  obtain ⟨a, C, c1, c2, -⟩ := h.wc j hj
  have hr := (h.rows j hj).2
  refine ⟨a, C, c1, fun m => (equal6_true _ _ (n j) (U j) (W.drewN m) ((hr.rb0.drewN m).congr (he j hj)) (c2.drewN m)).mono fun e w' ⟨a1, k, a2⟩ => ⟨a1, k, a2⟩⟩
theorem Pa.sc {w1 W : World} {hv wv : Value} {K : Nat} {n : Nat → Nat} {S : Nat → Nat → Nat} {Bh Bw : Nat → Nat} (h : Pa w1 W hv wv K K n S Bh Bw) (hK : 0 < K) :
    ∃ hb ch wb cw, hv = .slice (some ⟨hb, 0, none⟩) K ch ∧ wv = .slice (some ⟨wb, 0, none⟩) K cw ∧ Sc w1 W hb wb K n Bh S S := by
  obtain ⟨hb, ch, rfl, h1, h2⟩ := h.oh.form hK
  obtain ⟨wb, cw, rfl, k1, k2⟩ := h.ow.form hK
  refine ⟨hb, ch, wb, cw, rfl, rfl, h.bel, fun r hr => ?_, h.rh, h.ih, fun r hr => ⟨some ⟨Bw r, 0, none⟩, n r, ?_, (h.rw r hr).2.rb0, fun g o e h0 => ?_⟩, fun r hr => h.ow.frozenAt r, h2, k2, k1, fun e => h.df hb rfl (by rw [e]; rfl), fun r hr => ⟨fun e => h.hh r hr (by rw [e]; rfl), fun e => h.wh r hr (by rw [e]; rfl)⟩⟩
  · rw [h.oh.cellAt r (by omega), lis_get _ hr]; rfl
  · rw [h.ow.cellAt r (by omega), lis_get _ hr]; rfl
  · cases e
    exact ⟨fun e => h.ww r hr (by rw [e]; rfl), fun s hs e => h.far s r hs hr e.symm⟩
theorem nx6_congr {f : Nat → Nat → Nat} {t s : Nat} (ht : t < K) (hs : s < K) (he : ∀ r, r < K → ∀ i, i < n r → V r i = U r i) : ∀ r, r < K → ∀ i, i < n r → nx6 f n t s V r i = nx6 f n t s U r i := by
  intro r hr i hi
  unfold nx6
  split
  · rename_i e
    by_cases er : r = t
    · subst er
      rw [upn_same, upn_same, he r hr i hi, he s hs i (by omega)]
    · rw [upn_other _ _ er, upn_other _ _ er, he r hr i hi]
  · exact he r hr i hi
end
end Go.Proofs.Ytdnjddnjaekgeaa
