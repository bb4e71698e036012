import Derived.Test.YtaoapplbcgflmaaGreatMsbw
namespace Go.Proofs.YtaoapplbcgflmaaGreat
open Go.RowKit Gf2
set_option linter.unusedVariables false

-- layer 17: McodeTurns, the new data laid
theorem if_iff17 {α : Type} {a b : Prop} [Decidable a] [Decidable b] (h : a ↔ b) (x y : α) : (if a then x else y) = (if b then x else y) := by
  by_cases c : a
  · rw [if_pos c, if_pos (h.1 c)]
  · rw [if_neg c, if_neg (fun k => c (h.2 k))]
structure Fs17 (w9 wr : World) (g7 g8 k km l : Nat) (Q : Nat → Bool) (Fr : Nat → Nat → Nat) (C9 B9 : Nat → Nat) (j : Nat) (FB NB NC : Nat → Nat) (NT : Nat → Nat → Nat) : Prop where
  fl : wr.rowIs g7 27 k (fun i => if i < j ∧ Q i = true then .slice (some ⟨FB i, 0, none⟩) l l else .slice none 0 0)
  nl : wr.rowIs g8 27 km (fun i => if i < j ∧ Q i = true then .slice (some ⟨NB i, 0, none⟩) l (NC i) else .slice (some ⟨B9 i, 0, none⟩) l (C9 i))
  fr : ∀ i, i < j → Q i = true → w9.heap.size ≤ FB i ∧ Rw wr (FB i) l (Fr i)
  nr : ∀ i, i < j → Q i = true → w9.heap.size ≤ NB i ∧ l ≤ NC i ∧ Rw wr (NB i) (NC i) (NT i) ∧ ∀ t, t < l → NT i t = Fr i t
  nj : ∀ i i', i < j → i' < j → Q i = true → Q i' = true → NB i = NB i' → i = i'
  ke : Ke (fun x => x = g7 ∨ x = g8) w9 wr
section
variable {w9 wr wf w1 : World} {g7 g8 k km l j : Nat} {Q : Nat → Bool} {Fr : Nat → Nat → Nat} {C9 B9 FB NB NC : Nat → Nat} {NT : Nat → Nat → Nat}
theorem Fs17.start (hfl : w9.rowIs g7 27 k (fun _ => .slice none 0 0)) (hnl : w9.rowIs g8 27 km (fun i => .slice (some ⟨B9 i, 0, none⟩) l (C9 i))) : Fs17 w9 w9 g7 g8 k km l Q Fr C9 B9 0 (fun _ => 0) (fun _ => 0) (fun _ => 0) (fun _ _ => 0) :=
  ⟨hfl.congr (fun i _ => (if_neg (fun h => Nat.not_lt_zero _ h.1)).symm), hnl.congr (fun i _ => (if_neg (fun h => Nat.not_lt_zero _ h.1)).symm), fun i hi => absurd hi (Nat.not_lt_zero _), fun i hi => absurd hi (Nat.not_lt_zero _), fun i i' hi => absurd hi (Nat.not_lt_zero _), Ke.refl _ _⟩
theorem Fs17.skip (h : Fs17 w9 wr g7 g8 k km l Q Fr C9 B9 j FB NB NC NT) (hq : Q j = false) : Fs17 w9 wr g7 g8 k km l Q Fr C9 B9 (j + 1) FB NB NC NT := by
  have hc : ∀ i, (i < j ∧ Q i = true) ↔ (i < j + 1 ∧ Q i = true) := fun i => ⟨fun x => ⟨by omega, x.2⟩, fun x => by
    rcases Nat.lt_or_ge i j with h | h
    · exact ⟨h, x.2⟩
    · have e : i = j := by omega
      have := x.2
      rw [e, hq] at this
      cases this⟩
  exact ⟨h.fl.congr (fun i _ => if_iff17 (hc i) _ _), h.nl.congr (fun i _ => if_iff17 (hc i) _ _), fun i hi hqi => h.fr i ((hc i).2 ⟨hi, hqi⟩).1 hqi, fun i hi hqi => h.nr i ((hc i).2 ⟨hi, hqi⟩).1 hqi, fun i i' hi hi' q q' => h.nj i i' ((hc i).2 ⟨hi, q⟩).1 ((hc i').2 ⟨hi', q'⟩).1 q q', h.ke⟩
theorem Fs17.next (h : Fs17 w9 wr g7 g8 k km l Q Fr C9 B9 j FB NB NC NT) (hj : j < k) (hkm : k ≤ km) (hq : Q j = true) (h7 : g7 < w9.heap.size) (h8 : g8 < w9.heap.size) (h78 : g7 ≠ g8)
    (hbf : Below wr.heap.size wr wf) {gf : Nat} (hgf : wr.heap.size ≤ gf) (hRf : Rw wf gf l (Fr j)) {gn cn : Nat} {F : Nat → Nat} (hC : l ≤ cn) (hgn : (wf.setCell ⟨g7, j, none⟩ (.slice (some ⟨gf, 0, none⟩) l l)).heap.size ≤ gn) (hR : Rw w1 gn cn F) (hF : ∀ t, t < l → F t = Fr j t) (hb1 : Below (wf.setCell ⟨g7, j, none⟩ (.slice (some ⟨gf, 0, none⟩) l l)).heap.size (wf.setCell ⟨g7, j, none⟩ (.slice (some ⟨gf, 0, none⟩) l l)) w1) :
    Fs17 w9 (w1.setCell ⟨g8, j, none⟩ (.slice (some ⟨gn, 0, none⟩) l cn)) g7 g8 k km l Q Fr C9 B9 (j + 1) (up17 FB j gf) (up17 NB j gn) (up17 NC j cn) (up17 NT j F) := by
  have hs9 := h.ke.size
  have hsf := hbf.size
  have o2 : Only g7 wf (wf.setCell ⟨g7, j, none⟩ (.slice (some ⟨gf, 0, none⟩) l l)) := (Only.refl _ _).setCell _ _
  have o4 : Only g8 w1 (w1.setCell ⟨g8, j, none⟩ (.slice (some ⟨gn, 0, none⟩) l cn)) := (Only.refl _ _).setCell _ _
  have hs2 := o2.2.1
  have k1 : Ke (fun x => x = g7 ∨ x = g8) wr wf := ke_below hbf _
  have k2 : Ke (fun x => x = g7 ∨ x = g8) wf (wf.setCell ⟨g7, j, none⟩ (.slice (some ⟨gf, 0, none⟩) l l)) := o2.kp.ke.mono (fun _ _ e => .inl e)
  have k3 : Ke (fun x => x = g7 ∨ x = g8) (wf.setCell ⟨g7, j, none⟩ (.slice (some ⟨gf, 0, none⟩) l l)) w1 := ke_below hb1 _
  have k4 : Ke (fun x => x = g7 ∨ x = g8) w1 (w1.setCell ⟨g8, j, none⟩ (.slice (some ⟨gn, 0, none⟩) l cn)) := o4.kp.ke.mono (fun _ _ e => .inr e)
  have ka := ((k1.trans k2).trans k3).trans k4
  have f1 := ((h.fl.of_block (hbf.block _ (by omega))).set j (.slice (some ⟨gf, 0, none⟩) l l))
  have f2 := (f1.of_block (hb1.block _ (by omega))).of_block (o4.2.2 _ h78)
  have n1 := ((h.nl.of_block (hbf.block _ (by omega))).of_block (o2.2.2 _ (Ne.symm h78))).of_block (hb1.block _ (by omega))
  have n2 := n1.set j (.slice (some ⟨gn, 0, none⟩) l cn)
  refine ⟨f2.congr (fun i hi => ?_), n2.congr (fun i hi => ?_), fun i hi hqi => ?_, fun i hi hqi => ?_, fun i i' hi hi' q q' e => ?_, h.ke.trans ka⟩
  · show (if i = j then _ else _) = _
    by_cases e : i = j
    · subst e; rw [if_pos rfl, if_pos ⟨Nat.lt_succ_self _, hq⟩, up17_at]
    · rw [if_neg e, up17_ne _ _ e]
      exact if_iff17 ⟨fun x => ⟨by omega, x.2⟩, fun x => ⟨by omega, x.2⟩⟩ _ _
  · show (if i = j then _ else _) = _
    by_cases e : i = j
    · subst e; rw [if_pos rfl, if_pos ⟨Nat.lt_succ_self _, hq⟩, up17_at, up17_at]
    · rw [if_neg e, up17_ne _ _ e, up17_ne _ _ e]
      exact if_iff17 ⟨fun x => ⟨by omega, x.2⟩, fun x => ⟨by omega, x.2⟩⟩ _ _
  · by_cases e : i = j
    · subst e
      rw [up17_at]
      have ne : ¬ (gf = g7 ∨ gf = g8) := by omega
      exact ⟨by omega, k4.rw_ (k3.rw_ (k2.rw_ hRf ne) ne) ne⟩
    · rw [up17_ne _ _ e]
      obtain ⟨r1, r2⟩ := h.fr i (by omega) hqi
      exact ⟨r1, ka.rw_ r2 (by omega)⟩
  · by_cases e : i = j
    · subst e
      rw [up17_at, up17_at, up17_at]
      exact ⟨by omega, hC, k4.rw_ hR (by omega), hF⟩
    · rw [up17_ne _ _ e, up17_ne _ _ e, up17_ne _ _ e]
      obtain ⟨r1, r2, r3, r4⟩ := h.nr i (by omega) hqi
      exact ⟨r1, r2, ka.rw_ r3 (by omega), r4⟩
  · by_cases e1 : i = j
    · by_cases e2 : i' = j
      · omega
      · rw [e1, up17_at, up17_ne _ _ e2] at e
        have := (h.nr i' (by omega) q').2.2.1.lt
        omega
    · by_cases e2 : i' = j
      · rw [e2, up17_at, up17_ne _ _ e1] at e
        have := (h.nr i (by omega) q).2.2.1.lt
        omega
      · rw [up17_ne _ _ e1, up17_ne _ _ e2] at e
        exact h.nj i i' (by omega) (by omega) q q' e
end
/-- a list of rows that may lack, as the law lays it. -/
theorem Fs17.fresh {w9 wr : World} {g7 g8 k km l : Nat} {Q : Nat → Bool} {Fr : Nat → Nat → Nat} {C9 B9 FB NB NC : Nat → Nat} {NT : Nat → Nat → Nat} {E : Nat → Prop} (h : Fs17 w9 wr g7 g8 k km l Q Fr C9 B9 k FB NB NC NT) (hk : k ≤ big) (hl : l ≤ big) (h7 : ¬ E g7) (h9 : ∀ x, w9.heap.size ≤ x → ¬ E x) : Ll E wr (.slice (some ⟨g7, 0, none⟩) k k) k (fun i => if Q i = true then l else 0) Fr := by
  refine ⟨_, ⟨hk, _, _, rfl, Nat.le_refl _, hk, fun h0 => ⟨_, _, rfl, ⟨h.fl.lt, h7⟩, fun i hi => by rw [Nat.zero_add]; exact h.fl.cell hi⟩⟩, fun i hi => ?_⟩
  dsimp only
  cases hq : Q i
  · rw [if_neg (fun x => Bool.noConfusion x.2), if_neg (by decide)]
    exact ⟨by unfold big; omega, fun t ht => absurd ht (Nat.not_lt_zero _), _, _, rfl, Nat.le_refl _, by unfold big; omega, fun h0 => absurd h0 (Nat.lt_irrefl _)⟩
  · rw [if_pos ⟨hi, rfl⟩, if_pos rfl]
    obtain ⟨r1, r2⟩ := h.fr i hi hq
    exact r2.re (Nat.le_refl _) (Nat.le_refl _) hl (h9 _ r1)
/-- the copy whose data rows are new. -/
theorem Fs17.now {w8 w9 wr : World} {g7 k m l : Nat} {Q : Nat → Bool} {Fr T9 : Nat → Nat → Nat} {C9 B9 FB NB NC : Nat → Nat} {NT : Nat → Nat → Nat} (h : Fs17 w9 wr g7 w8.heap.size k (k + m) l Q Fr C9 B9 k FB NB NC NT) (h7 : g7 < w8.heap.size)
    (hn : Cs w8.heap.size w9.heap.size w9 (.slice (some ⟨w8.heap.size, 0, none⟩) (k + m) (k + m)) (k + m) (fun _ => l) C9 B9 T9) :
    Cs w8.heap.size wr.heap.size wr (.slice (some ⟨w8.heap.size, 0, none⟩) (k + m) (k + m)) (k + m) (fun _ => l) (fun i => if i < k ∧ Q i = true then NC i else C9 i) (fun i => if i < k ∧ Q i = true then NB i else B9 i) (fun i => if i < k ∧ Q i = true then NT i else T9 i) := by
  have hs := h.ke.size
  have h89 := h.nl.lt
  have hne : ∀ i, i < k + m → B9 i ≠ w8.heap.size := fun i hi => hn.ne hi
  refine ⟨hn.mb, Nat.le_refl _, ⟨_, _, rfl, Nat.le_refl _, hn.mb, fun h0 => ⟨_, rfl, Nat.le_refl _, h89, fun i hi => ?_, fun i hi => ?_⟩⟩, fun i hi => ?_, fun i i' hi hi' e => ?_⟩
  · by_cases c : i < k ∧ Q i = true
    · rw [if_pos c]
      have := h.nr i c.1 c.2
      have := (hn.row i hi).1
      have := hn.hw
      have := (hn.row i hi).2.1
      omega
    · rw [if_neg c]; exact hne i hi
  · rw [h.nl.cell hi]
    by_cases c : i < k ∧ Q i = true
    · rw [if_pos c, if_pos c, if_pos c]
    · rw [if_neg c, if_neg c, if_neg c]
  · obtain ⟨r1, r2, r3, r4⟩ := hn.row i hi
    by_cases c : i < k ∧ Q i = true
    · rw [if_pos c, if_pos c, if_pos c]
      obtain ⟨n1, n2, n3, n4⟩ := h.nr i c.1 c.2
      exact ⟨by omega, n3.lt, n2, n3⟩
    · rw [if_neg c, if_neg c, if_neg c]
      exact ⟨r1, by omega, r3, h.ke.rw_ r4 (by have := hne i hi; omega)⟩
  · have e : (if i < k ∧ Q i = true then NB i else B9 i) = (if i' < k ∧ Q i' = true then NB i' else B9 i') := e
    by_cases c : i < k ∧ Q i = true
    · by_cases c' : i' < k ∧ Q i' = true
      · rw [if_pos c, if_pos c'] at e
        exact h.nj i i' c.1 c'.1 c.2 c'.2 e
      · rw [if_pos c, if_neg c'] at e
        have := h.nr i c.1 c.2
        have := (hn.row i' hi').2.1
        omega
    · by_cases c' : i' < k ∧ Q i' = true
      · rw [if_neg c, if_pos c'] at e
        have := h.nr i' c'.1 c'.2
        have := (hn.row i hi).2.1
        omega
      · rw [if_neg c, if_neg c'] at e
        exact hn.inj i i' hi hi' e
end Go.Proofs.YtaoapplbcgflmaaGreat
namespace Go.Proofs.YtaoapplbcgflmaaGreat
open Go.RowKit Gf2
set_option linter.unusedVariables false

-- layer 17: McodeSpans, the missing ones
/-- one int more, and what else turns. -/
theorem app_gk {lo : Nat} {W : World} {v : Value} {L : Nat} {S : Nat → Int} (h : Gj lo W v L S) (hlo : lo ≤ W.heap.size) (t : Int) (hL : (L + 1) * 8 ≤ 140737488355328) :
    ∃ w' v', (Builtin.append_ #[40, 40] 40 #[v, .slice (some ⟨W.heap.size, 0, none⟩) 1 1]).run Tryz.prog (W.alloc (.cells #[.int .i64 t] 3)) = .ok v' w' ∧ Gj lo w' v' (L + 1) (fun i => if i < L then S i else t) ∧ Ke (fun x => lo ≤ x ∧ ∃ C F, Ri W x C F) W w' := by
  have hb0 : Below W.heap.size W (W.alloc (.cells #[.int .i64 t] 3)) := (Below.refl _ _).alloc (Nat.le_refl _) _
  have hsz : (W.alloc (.cells #[.int .i64 t] 3)).heap.size = W.heap.size + 1 := by simp
  have hcell : ∀ i, i < 1 → (W.alloc (.cells #[.int .i64 t] 3)).cell? ⟨W.heap.size, 0 + i, none⟩ = some (.int .i64 ((fun _ => t) i)) := by
    intro i hi
    obtain rfl : i = 0 := by omega
    rw [cell_of_row _ W.heap.size (0 + 0) _ _ _ (heap_alloc_new _ _)]
    rfl
  rcases h with ⟨rfl, rfl⟩ | ⟨g, C, F, rfl, a2, a3, a4, a5⟩
  · obtain ⟨w', C', F', hrun, hC, hR, hF, hs, hb⟩ := appi_nil (W.alloc (.cells #[.int .i64 t] 3)) (x := some ⟨W.heap.size, 0, none⟩) (n := 1) (cx := 1) (S := fun _ => t) (by decide) ⟨_, _, rfl, hcell⟩ (by omega)
    refine ⟨w', _, hrun, .inr ⟨_, C', F', rfl, hC, by omega, hR, fun i hi => ?_⟩, (ke_below hb0 _).trans (ke_below hb _)⟩
    rw [hF i (by omega)]
    show t = if i < 0 then S i else t
    rw [if_neg (Nat.not_lt_zero _)]
  · obtain ⟨w', g', C', F', hrun, hC, hR, hF1, hF2, hcase⟩ := appi (W.alloc (.cells #[.int .i64 t] 3)) (g := g) (C := C) (L := L) (a4.below hb0) a2 (x := some ⟨W.heap.size, 0, none⟩) (n := 1) (cx := 1) (S := fun _ => t) (fun _ => ⟨_, _, rfl, hcell⟩) hL
    refine ⟨w', _, hrun, .inr ⟨g', C', F', rfl, hC, ?_, hR, fun i hi => ?_⟩, (ke_below hb0 _).trans ?_⟩
    · rcases hcase with ⟨rfl, ho⟩ | ⟨rfl, -, hb⟩
      · exact a3
      · omega
    · dsimp only
      by_cases e : i < L
      · rw [if_pos e, hF1 i e]; exact a5 i e
      · rw [if_neg e, show i = L + 0 by omega]
        exact hF2 0 (by decide)
    · rcases hcase with ⟨rfl, ho⟩ | ⟨rfl, -, hb⟩
      · exact ho.kp.ke.mono (fun x _ e => by rw [e]; exact ⟨a3, C, F, a4⟩)
      · exact ke_below hb _
/-- a row of ints is no row of bytes, nor a list of lists. -/
theorem ri_rw17 {w : World} {g C D : Nat} {F : Nat → Int} {G : Nat → Nat} (h : Ri w g C F) (k : Rw w g D G) : False := by
  obtain ⟨A, hA, -⟩ := h.2.2
  obtain ⟨B, hB, -⟩ := k.2.2
  rw [hA] at hB
  cases hB
structure Ms17 (w9 wr : World) (ga km l : Nat) (Q : Nat → Bool) (C9 B9 : Nat → Nat) (j : Nat) (mv : Value) (NB : Nat → Nat) : Prop where
  al : wr.rowIs ga 27 km (fun i => if i < j ∧ Q i = true then .slice (some ⟨NB i, 0, none⟩) l l else .slice (some ⟨B9 i, 0, none⟩) l (C9 i))
  ar : ∀ i, i < j → Q i = true → w9.heap.size ≤ NB i ∧ Rw wr (NB i) l (fun _ => 0)
  aj : ∀ i i', i < j → i' < j → Q i = true → Q i' = true → NB i = NB i' → i = i'
  mi : Gj w9.heap.size wr mv (ems Q j).length (emz Q j)
  ke : Ke (fun x => x = ga) w9 wr
section
variable {w9 wr w5 w1 : World} {ga km l j : Nat} {Q : Nat → Bool} {C9 B9 NB : Nat → Nat} {mv v5 : Value}
theorem Ms17.start (hal : w9.rowIs ga 27 km (fun i => .slice (some ⟨B9 i, 0, none⟩) l (C9 i))) : Ms17 w9 w9 ga km l Q C9 B9 0 (.slice none 0 0) (fun _ => 0) :=
  ⟨hal.congr (fun i _ => (if_neg (fun h => Nat.not_lt_zero _ h.1)).symm), fun i hi => absurd hi (Nat.not_lt_zero _), fun i i' hi => absurd hi (Nat.not_lt_zero _), Gj.start _ _ _, Ke.refl _ _⟩
theorem Ms17.skip (h : Ms17 w9 wr ga km l Q C9 B9 j mv NB) (hq : Q j = false) : Ms17 w9 wr ga km l Q C9 B9 (j + 1) mv NB := by
  have hc : ∀ i, (i < j ∧ Q i = true) ↔ (i < j + 1 ∧ Q i = true) := fun i => ⟨fun x => ⟨by omega, x.2⟩, fun x => by
    rcases Nat.lt_or_ge i j with h | h
    · exact ⟨h, x.2⟩
    · have e : i = j := by omega
      have := x.2
      rw [e, hq] at this
      cases this⟩
  have e : ems Q (j + 1) = ems Q j := ems_no hq
  have e2 : emz Q (j + 1) = emz Q j := by funext i; unfold emz; rw [e]
  exact ⟨h.al.congr (fun i _ => if_iff17 (hc i) _ _), fun i hi hqi => h.ar i ((hc i).2 ⟨hi, hqi⟩).1 hqi, fun i i' hi hi' q q' => h.aj i i' ((hc i).2 ⟨hi, q⟩).1 ((hc i').2 ⟨hi', q'⟩).1 q q', by rw [e, e2]; exact h.mi, h.ke⟩
theorem Ms17.next (h : Ms17 w9 wr ga km l Q C9 B9 j mv NB) (hj : j < km) (hq : Q j = true) (ha : ga < w9.heap.size) (hl : l ≤ 1000)
    (hG : Gj w9.heap.size w5 v5 ((ems Q j).length + 1) (fun i => if i < (ems Q j).length then emz Q j i else (j : Int))) (hk : Ke (fun x => w9.heap.size ≤ x ∧ ∃ C F, Ri wr x C F) wr w5) (hw1 : w1 = w5.alloc (.cells (madeCells #[.int .u8 0] l) 5)) :
    Ms17 w9 (w1.setCell ⟨ga, j, none⟩ (.slice (some ⟨w5.heap.size, 0, none⟩) l l)) ga km l Q C9 B9 (j + 1) v5 (up17 NB j w5.heap.size) := by
  have hs9 := h.ke.size
  have hs5 := hk.size
  have b1 : Below w5.heap.size w5 w1 := by rw [hw1]; exact (Below.refl _ _).alloc (Nat.le_refl _) _
  have r1 : Rw w1 w5.heap.size l (fun _ => 0) := by rw [hw1]; exact made_rw l (by omega) w5
  have o4 : Only ga w1 (w1.setCell ⟨ga, j, none⟩ (.slice (some ⟨w5.heap.size, 0, none⟩) l l)) := (Only.refl _ _).setCell _ _
  have nal : ¬ (w9.heap.size ≤ ga ∧ ∃ C F, Ri wr ga C F) := fun x => by omega
  have a1 := ((h.al.of_block (hk.2 _ (by omega) nal)).of_block (b1.block _ (by omega))).set j (.slice (some ⟨w5.heap.size, 0, none⟩) l l)
  have hrow : ∀ {g N : Nat} {F : Nat → Nat}, g ≠ ga → Rw wr g N F → Rw (w1.setCell ⟨ga, j, none⟩ (.slice (some ⟨w5.heap.size, 0, none⟩) l l)) g N F := fun hg hr =>
    o4.kp.ke.rw_ ((ke_below b1 (fun _ => False)).rw_ (hk.rw_ hr (fun ⟨_, _, _, x⟩ => ri_rw17 x hr)) (fun e => e)) hg
  refine ⟨a1.congr (fun i hi => ?_), fun i hi hqi => ?_, fun i i' hi hi' q q' e => ?_, ?_, ?_⟩
  · show (if i = j then _ else _) = _
    by_cases e : i = j
    · subst e; rw [if_pos rfl, if_pos ⟨Nat.lt_succ_self _, hq⟩, up17_at]
    · rw [if_neg e, up17_ne _ _ e]
      exact if_iff17 ⟨fun x => ⟨by omega, x.2⟩, fun x => ⟨by omega, x.2⟩⟩ _ _
  · by_cases e : i = j
    · subst e
      rw [up17_at]
      exact ⟨by omega, o4.kp.ke.rw_ r1 (by omega)⟩
    · rw [up17_ne _ _ e]
      obtain ⟨r2, r3⟩ := h.ar i (by omega) hqi
      exact ⟨r2, hrow (by omega) r3⟩
  · by_cases e1 : i = j
    · by_cases e2 : i' = j
      · omega
      · rw [e1, up17_at, up17_ne _ _ e2] at e
        have := (h.ar i' (by omega) q').2.lt
        omega
    · by_cases e2 : i' = j
      · rw [e2, up17_at, up17_ne _ _ e1] at e
        have := (h.ar i (by omega) q).2.lt
        omega
      · rw [up17_ne _ _ e1, up17_ne _ _ e2] at e
        exact h.aj i i' (by omega) (by omega) q q' e
  · have e := ems_len_yes (P := Q) (k := j) hq
    rw [e]
    refine ((hG.congr (fun i hi => emz_step (P := Q) (k := j) hq i (by rw [e]; exact hi))).below b1).keep o4.kp.ke (fun x hx e => by omega)
  · have kz : Ke (fun x => x = ga) w5 (w1.setCell ⟨ga, j, none⟩ (.slice (some ⟨w5.heap.size, 0, none⟩) l l)) := (ke_below b1 _).trans o4.kp.ke
    refine ⟨(h.ke.1.trans hk.1).trans kz.1, fun x hx hn => ?_⟩
    rw [kz.2 x (by omega) hn, hk.2 x (by omega) (fun e => by omega), h.ke.2 x hx hn]
/-- the copy whose missing rows are new, of noughts. -/
theorem Ms17.now {lo hi : Nat} {T9 : Nat → Nat → Nat} (h : Ms17 w9 wr ga km l Q C9 B9 km mv NB) (hn : Cs lo hi w9 (.slice (some ⟨ga, 0, none⟩) km km) km (fun _ => l) C9 B9 T9) (h0 : 0 < km) :
    Cs lo wr.heap.size wr (.slice (some ⟨ga, 0, none⟩) km km) km (fun _ => l) (fun i => if Q i = true then l else C9 i) (fun i => if Q i = true then NB i else B9 i) (fun i => if Q i = true then (fun _ => 0) else T9 i) := by
  have hs := h.ke.size
  have hw := hn.hw
  obtain ⟨g', cap', e, hc1, hc2, g1, g2, g3, g4⟩ := hn.at17 h0
  cases e
  refine ⟨hn.mb, Nat.le_refl _, ⟨_, _, rfl, Nat.le_refl _, hn.mb, fun _ => ⟨_, rfl, g1, h.al.lt, fun i hi => ?_, fun i hi => ?_⟩⟩, fun i hi => ?_, fun i i' hi hi' e => ?_⟩
  · by_cases c : Q i = true
    · rw [if_pos c]
      have := h.ar i hi c
      omega
    · rw [if_neg c]; exact g3 i hi
  · rw [h.al.cell hi]
    by_cases c : Q i = true
    · rw [if_pos ⟨hi, c⟩, if_pos c, if_pos c]
    · rw [if_neg (fun x => c x.2), if_neg c, if_neg c]
  · obtain ⟨r1, r2, r3, r4⟩ := hn.row i hi
    by_cases c : Q i = true
    · rw [if_pos c, if_pos c, if_pos c]
      obtain ⟨n1, n2⟩ := h.ar i hi c
      exact ⟨by omega, n2.lt, Nat.le_refl _, n2⟩
    · rw [if_neg c, if_neg c, if_neg c]
      exact ⟨r1, by omega, r3, h.ke.rw_ r4 (g3 i hi)⟩
  · have e : (if Q i = true then NB i else B9 i) = (if Q i' = true then NB i' else B9 i') := e
    by_cases c : Q i = true
    · by_cases c' : Q i' = true
      · rw [if_pos c, if_pos c'] at e
        exact h.aj i i' hi hi' c c' e
      · rw [if_pos c, if_neg c'] at e
        have := h.ar i hi c
        have := (hn.row i' hi').2.1
        omega
    · by_cases c' : Q i' = true
      · rw [if_neg c, if_pos c'] at e
        have := h.ar i' hi' c'
        have := (hn.row i hi).2.1
        omega
      · rw [if_neg c, if_neg c'] at e
        exact hn.inj i i' hi hi' e
end
end Go.Proofs.YtaoapplbcgflmaaGreat
