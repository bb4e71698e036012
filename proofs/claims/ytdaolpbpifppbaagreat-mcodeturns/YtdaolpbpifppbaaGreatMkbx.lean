import Derived.Test.YtdaolpbpifppbaaGreatMkbw
namespace Go.Proofs.YtdaolpbpifppbaaGreat
open Go.RowKit Gf2
set_option linter.unusedVariables false

-- layer 17: McodeTurns, the calls ahead of its loop
/-- what there is ahead of the loop that lays the new data. -/
structure Tu17 (W w2 w3 w4 w5 w6 w7 w8 w9 : World) (c : Nat) (f : Int) (k m b l : Nat) (S0 : Nat → Nat → Nat) (P : Nat → Bool) : Prop where
  ss : ∃ C B, Cs w2.heap.size w3.heap.size w9 (.slice (some ⟨w2.heap.size, 0, none⟩) (k + m) (k + m)) (k + m) (fun _ => l) C B (enc17 f k 0 l S0)
  od : ∃ C B T, Cs w3.heap.size w4.heap.size w9 (.slice (some ⟨w3.heap.size, 0, none⟩) (k + m) (k + m)) (k + m) (fun _ => l) C B T ∧ ∀ i, i < k + m → ∀ t, t < l → T i t = S0 i t
  ba : ∃ C B T, Cs w5.heap.size w6.heap.size w9 (.slice (some ⟨w5.heap.size, 0, none⟩) (k + m) (k + m)) (k + m) (fun _ => l) C B T ∧ ∀ i, i < k + m → ∀ t, t < l → T i t = enc17 f k 0 l S0 i t
  pp : w9.rowIs w6.heap.size 4 k (fun i => .bool (P i))
  fl : w9.rowIs w7.heap.size 27 k (fun _ => .slice none 0 0)
  nn : ∃ C B T, Cs w8.heap.size w9.heap.size w9 (.slice (some ⟨w8.heap.size, 0, none⟩) (k + m) (k + m)) (k + m) (fun _ => l) C B T ∧ (∀ i, i < k + m → ∀ t, t < l → T i t = enc17 f k 0 l S0 i t) ∧ w9.rowIs w8.heap.size 27 (k + m) (fun i => .slice (some ⟨B i, 0, none⟩) l (C i))
  co : ∃ Fp, Cd w9 c Fp f k m b 0 [] ∧ ∀ x, Fp x → x < w2.heap.size
  bel : Below W.heap.size W w9
  sz : W.heap.size ≤ w2.heap.size ∧ w2.heap.size ≤ w3.heap.size ∧ w3.heap.size ≤ w4.heap.size ∧ w4.heap.size ≤ w5.heap.size ∧ w5.heap.size ≤ w6.heap.size ∧ w6.heap.size < w7.heap.size ∧ w7.heap.size < w8.heap.size ∧ w8.heap.size ≤ w9.heap.size
set_option maxHeartbeats 2000000 in
theorem turns_a17 {W x w1 w2 : World} {c : Nat} {f : Int} {k m b l cp : Nat} {da : Option Addr} {dn dc : Nat} {pa : Option Addr} {pn pc : Nat} {D : Nat → Nat} {G : Nat → Int} (hb0 : Below W.heap.size W x) (hD : Rb W (.slice da dn dc) dn D) (hdn : dn ≤ 140737488351232) (hG : Qi W (.slice pa pn pc) pn G)
    (k1 : 1 ≤ k) (k2 : k ≤ 20) (m1 : 1 ≤ m) (m2 : m ≤ 12) (hl : l = cul17 dn k) (hcp : cp ≤ k) (hM : Md17 x w1 c f k m b) (b12 : Below w1.heap.size w1 w2) :
    Calls Tryz.prog 12 #[.slice da dn dc, .int .i64 (k : Int), .int .i64 (m : Int), .int .i64 60] w2 fun e w3 => e = .returned (.slice (some ⟨w2.heap.size, 0, none⟩) (k + m) (k + m)) ∧ (∃ g, w3.cell? ⟨w2.heap.size, 0, none⟩ = some (.slice (some ⟨g, 0, none⟩) l l)) ∧
    Calls Tryz.prog 13 #[.slice (some ⟨w2.heap.size, 0, none⟩) (k + m) (k + m)] w3 fun e w4 => e = .returned (.slice (some ⟨w3.heap.size, 0, none⟩) (k + m) (k + m)) ∧
    Calls Tryz.prog 14 #[.pointer (some ⟨c, 0, none⟩), .slice (some ⟨w2.heap.size, 0, none⟩) (k + m) (k + m)] w4 fun e w5 => e = .returned (.int .i64 0) ∧
    Calls Tryz.prog 13 #[.slice (some ⟨w2.heap.size, 0, none⟩) (k + m) (k + m)] w5 fun e w6 => e = .returned (.slice (some ⟨w5.heap.size, 0, none⟩) (k + m) (k + m)) ∧
    Calls Tryz.prog 17 #[.int .i64 (k : Int), .int .i64 (cp : Int), .slice pa pn pc] w6 fun e w7 => e = .returned (.slice (some ⟨w6.heap.size, 0, none⟩) k k) ∧
    ∀ w8, w7.alloc (.cells (madeCells #[.slice none 0 0] k) 27) = w8 →
    w8.heap.size = w7.heap.size + 1 ∧ Calls Tryz.prog 13 #[.slice (some ⟨w2.heap.size, 0, none⟩) (k + m) (k + m)] w8 fun e w9 => e = .returned (.slice (some ⟨w8.heap.size, 0, none⟩) (k + m) (k + m)) ∧ Tu17 W w2 w3 w4 w5 w6 w7 w8 w9 c f k m b l (cuv17 dn k D) (pk17 k (pg17 pn G) cp) := by
  obtain ⟨⟨Fp, ⟨FT, p, lo, hi, rows, t, hC⟩, hFp⟩, b1⟩ := hM
  have hl2 := cul17_in dn k
  rw [← hl] at hl2
  have bW1 := hb0.trans (b1.mono hb0.size)
  have bW2 := bW1.trans (b12.mono bW1.size)
  have hz12 := b12.size
  have hsW := bW2.size
  refine (cut17 (.slice da dn dc) dn k m D w2 (hD.below bW2) k1 (by omega) hdn).mono ?_
  rintro e w3 ⟨rfl, hT⟩
  rw [← hl] at hT
  have hcs := hT.cs (by unfold big; omega)
  refine ⟨rfl, ⟨_, hcs.at_ (by omega)⟩, ?_⟩
  have bW3 := bW2.trans (hT.bel.mono bW2.size)
  have h23 := hT.bel.size
  refine (copied17 _ (k + m) (fun _ => l) (cuv17 dn k D) w3 hcs.lb (by omega) (fun _ _ => by show l ≤ _; omega)).mono ?_
  rintro e w4 ⟨rfl, hQ4⟩
  refine ⟨rfl, ?_⟩
  obtain ⟨Co4, Bo4, To4, ho4, ho4e, -⟩ := hQ4.cs
  have h34 := hQ4.bel.size
  have bW4 := bW3.trans (hQ4.bel.mono bW3.size)
  have hcs4 := hcs.below hQ4.bel
  have hC4 := ((hC.below b12).below hT.bel).below hQ4.bel
  have hd4 : ∀ y, Pb17 k m (fun i => w2.heap.size + 1 + i) y → ¬ Fp y := fun y ⟨r, hr, e⟩ hy => by
    have e' : y = w2.heap.size + 1 + (k + r) := e
    have := hFp y hy
    omega
  have hPb : ∀ y, Pb17 k m (fun i => w2.heap.size + 1 + i) y → w2.heap.size ≤ y ∧ y < w3.heap.size := fun y ⟨r, hr, e⟩ => by
    obtain ⟨r1, r2, -⟩ := hcs.row (k + r) (by omega)
    subst e
    exact ⟨r1, r2⟩
  refine (Encode17 hC4 hcs4 hd4 hl2.1).mono ?_
  rintro e w5 ⟨rfl, hE⟩
  refine ⟨rfl, ?_⟩
  have h45 := hE.ke.size
  have hC5 := hC4.ke hE.ke hd4
  have ho5 := ho4.keep hE.ke (fun y h1 h2 e => by have := hPb y e; omega)
  have bW5 := bW4.trans (hE.ke.below (B := W.heap.size) (fun y e => by have := hPb y e; omega) bW4.size)
  refine (copied17 _ (k + m) (fun _ => l) _ w5 hE.cs.lb (by omega) (fun _ _ => by show l ≤ _; omega)).mono ?_
  rintro e w6 ⟨rfl, hQ6⟩
  refine ⟨rfl, ?_⟩
  obtain ⟨Cb6, Bb6, Tb6, hb6, hb6e, -⟩ := hQ6.cs
  have h56 := hQ6.bel.size
  have bW6 := bW5.trans (hQ6.bel.mono bW5.size)
  refine (pick17 k cp pn G (.slice pa pn pc) w6 (hG.below bW6) k1 (by omega) hcp).mono ?_
  rintro e w7 ⟨rfl, hp7, b67⟩
  refine ⟨rfl, fun w8 hw8 => ?_⟩
  have h67 := hp7.lt
  have b78 : Below w7.heap.size w7 w8 := by rw [← hw8]; exact (Below.refl _ _).alloc (Nat.le_refl _) _
  have h78 : w8.heap.size = w7.heap.size + 1 := by rw [← hw8]; simp
  have hf8 : w8.rowIs w7.heap.size 27 k (fun _ => .slice none 0 0) := by rw [← hw8]; exact World.rowIs_made w7 (.slice none 0 0) k 27
  have b68 := b67.trans (b78.mono b67.size)
  have hs8 := (hE.cs.below hQ6.bel).below b68
  refine ⟨h78, (copied17 _ (k + m) (fun _ => l) _ w8 hs8.lb (by omega) (fun _ _ => by show l ≤ _; omega)).mono ?_⟩
  rintro e w9 ⟨rfl, hQ9⟩
  obtain ⟨Cn9, Bn9, Tn9, hn9, hn9e, hn9r⟩ := hQ9.cs
  have h89 := hQ9.bel.size
  have b69 := b68.trans (hQ9.bel.mono b68.size)
  refine ⟨rfl, ⟨_, _, hs8.below hQ9.bel⟩, ⟨_, _, _, (ho5.below hQ6.bel).below b69, ho4e⟩, ⟨_, _, _, hb6.below b69, hb6e⟩, (hp7.of_block (b78.block _ h67)).of_block (hQ9.bel.block _ (by omega)), hf8.of_block (hQ9.bel.block _ (by omega)), ⟨_, _, _, hn9, hn9e, hn9r⟩, ⟨Fp, ⟨_, _, _, _, _, _, (hC5.below hQ6.bel).below b69⟩, fun y hy => by have := hFp y hy; omega⟩, bW6.trans (b69.mono bW6.size), by omega, by omega, by omega, by omega, by omega, h67, by omega, by omega⟩
end Go.Proofs.YtdaolpbpifppbaaGreat
namespace Go.Proofs.YtdaolpbpifppbaaGreat
open Go.RowKit Gf2
set_option linter.unusedVariables false

-- layer 17: McodeTurns, the new data laid
theorem if_iff17 {α : Type} {a b : Prop} [Decidable a] [Decidable b] (h : a ↔ b) (x y : α) : (if a then x else y) = (if b then x else y) := by
  by_cases c : a
  · rw [if_pos c, if_pos (h.1 c)]
  · rw [if_neg c, if_neg (fun k => c (h.2 k))]
structure Fs17 (w9 wr : World) (g7 g8 k km l : Nat) (Q : Nat → Bool) (Fr : Nat → Nat → Nat) (C9 B9 : Nat → Nat) (j : Nat) (FB NB NC : Nat → Nat) (NT : Nat → Nat → Nat) : Prop where
  fl : wr.rowIs g7 27 k (fun i => if i < j ∧ Q i = true then .slice (some ⟨FB i, 0, none⟩) l l else .slice none 0 0)
  nl : wr.rowIs g8 27 km (fun i => if i < j ∧ Q i = true then .slice (some ⟨NB i, 0, none⟩) l (NC i) else .slice (some ⟨B9 i, 0, none⟩) l (C9 i))
  fr : ∀ i, i < j → Q i = true → w9.heap.size ≤ FB i ∧ Rw wr (FB i) l (Fr i)
  nr : ∀ i, i < j → Q i = true → w9.heap.size ≤ NB i ∧ l ≤ NC i ∧ Rw wr (NB i) (NC i) (NT i) ∧ ∀ t, t < l → NT i t = Fr i t
  nj : ∀ i i', i < j → i' < j → Q i = true → Q i' = true → NB i = NB i' → i = i'
  ke : Ke (fun x => x = g7 ∨ x = g8) w9 wr
section
variable {w9 wr wf w1 : World} {g7 g8 k km l j : Nat} {Q : Nat → Bool} {Fr : Nat → Nat → Nat} {C9 B9 FB NB NC : Nat → Nat} {NT : Nat → Nat → Nat}
theorem Fs17.start (hfl : w9.rowIs g7 27 k (fun _ => .slice none 0 0)) (hnl : w9.rowIs g8 27 km (fun i => .slice (some ⟨B9 i, 0, none⟩) l (C9 i))) : Fs17 w9 w9 g7 g8 k km l Q Fr C9 B9 0 (fun _ => 0) (fun _ => 0) (fun _ => 0) (fun _ _ => 0) :=
  ⟨hfl.congr (fun i _ => (if_neg (fun h => Nat.not_lt_zero _ h.1)).symm), hnl.congr (fun i _ => (if_neg (fun h => Nat.not_lt_zero _ h.1)).symm), fun i hi => absurd hi (Nat.not_lt_zero _), fun i hi => absurd hi (Nat.not_lt_zero _), fun i i' hi => absurd hi (Nat.not_lt_zero _), Ke.refl _ _⟩
theorem Fs17.skip (h : Fs17 w9 wr g7 g8 k km l Q Fr C9 B9 j FB NB NC NT) (hq : Q j = false) : Fs17 w9 wr g7 g8 k km l Q Fr C9 B9 (j + 1) FB NB NC NT := by
  have hc : ∀ i, (i < j ∧ Q i = true) ↔ (i < j + 1 ∧ Q i = true) := fun i => ⟨fun x => ⟨by omega, x.2⟩, fun x => by
    rcases Nat.lt_or_ge i j with h | h
    · exact ⟨h, x.2⟩
    · have e : i = j := by omega
      have := x.2
      rw [e, hq] at this
      cases this⟩
  exact ⟨h.fl.congr (fun i _ => if_iff17 (hc i) _ _), h.nl.congr (fun i _ => if_iff17 (hc i) _ _), fun i hi hqi => h.fr i ((hc i).2 ⟨hi, hqi⟩).1 hqi, fun i hi hqi => h.nr i ((hc i).2 ⟨hi, hqi⟩).1 hqi, fun i i' hi hi' q q' => h.nj i i' ((hc i).2 ⟨hi, q⟩).1 ((hc i').2 ⟨hi', q'⟩).1 q q', h.ke⟩
theorem Fs17.next (h : Fs17 w9 wr g7 g8 k km l Q Fr C9 B9 j FB NB NC NT) (hj : j < k) (hkm : k ≤ km) (hq : Q j = true) (h7 : g7 < w9.heap.size) (h8 : g8 < w9.heap.size) (h78 : g7 ≠ g8)
    (hbf : Below wr.heap.size wr wf) {gf : Nat} (hgf : wr.heap.size ≤ gf) (hRf : Rw wf gf l (Fr j)) {gn cn : Nat} {F : Nat → Nat} (hC : l ≤ cn) (hgn : (wf.setCell ⟨g7, j, none⟩ (.slice (some ⟨gf, 0, none⟩) l l)).heap.size ≤ gn) (hR : Rw w1 gn cn F) (hF : ∀ t, t < l → F t = Fr j t) (hb1 : Below (wf.setCell ⟨g7, j, none⟩ (.slice (some ⟨gf, 0, none⟩) l l)).heap.size (wf.setCell ⟨g7, j, none⟩ (.slice (some ⟨gf, 0, none⟩) l l)) w1) :
    Fs17 w9 (w1.setCell ⟨g8, j, none⟩ (.slice (some ⟨gn, 0, none⟩) l cn)) g7 g8 k km l Q Fr C9 B9 (j + 1) (up17 FB j gf) (up17 NB j gn) (up17 NC j cn) (up17 NT j F) := by
  have hs9 := h.ke.size
  have hsf := hbf.size
  have o2 : Only g7 wf (wf.setCell ⟨g7, j, none⟩ (.slice (some ⟨gf, 0, none⟩) l l)) := (Only.refl _ _).setCell _ _
  have o4 : Only g8 w1 (w1.setCell ⟨g8, j, none⟩ (.slice (some ⟨gn, 0, none⟩) l cn)) := (Only.refl _ _).setCell _ _
  have hs2 := o2.2.1
  have k1 : Ke (fun x => x = g7 ∨ x = g8) wr wf := ke_below hbf _
  have k2 : Ke (fun x => x = g7 ∨ x = g8) wf (wf.setCell ⟨g7, j, none⟩ (.slice (some ⟨gf, 0, none⟩) l l)) := o2.kp.ke.mono (fun _ _ e => .inl e)
  have k3 : Ke (fun x => x = g7 ∨ x = g8) (wf.setCell ⟨g7, j, none⟩ (.slice (some ⟨gf, 0, none⟩) l l)) w1 := ke_below hb1 _
  have k4 : Ke (fun x => x = g7 ∨ x = g8) w1 (w1.setCell ⟨g8, j, none⟩ (.slice (some ⟨gn, 0, none⟩) l cn)) := o4.kp.ke.mono (fun _ _ e => .inr e)
  have ka := ((k1.trans k2).trans k3).trans k4
  have f1 := ((h.fl.of_block (hbf.block _ (by omega))).set j (.slice (some ⟨gf, 0, none⟩) l l))
  have f2 := (f1.of_block (hb1.block _ (by omega))).of_block (o4.2.2 _ h78)
  have n1 := ((h.nl.of_block (hbf.block _ (by omega))).of_block (o2.2.2 _ (Ne.symm h78))).of_block (hb1.block _ (by omega))
  have n2 := n1.set j (.slice (some ⟨gn, 0, none⟩) l cn)
  refine ⟨f2.congr (fun i hi => ?_), n2.congr (fun i hi => ?_), fun i hi hqi => ?_, fun i hi hqi => ?_, fun i i' hi hi' q q' e => ?_, h.ke.trans ka⟩
  · show (if i = j then _ else _) = _
    by_cases e : i = j
    · subst e; rw [if_pos rfl, if_pos ⟨Nat.lt_succ_self _, hq⟩, up17_at]
    · rw [if_neg e, up17_ne _ _ e]
      exact if_iff17 ⟨fun x => ⟨by omega, x.2⟩, fun x => ⟨by omega, x.2⟩⟩ _ _
  · show (if i = j then _ else _) = _
    by_cases e : i = j
    · subst e; rw [if_pos rfl, if_pos ⟨Nat.lt_succ_self _, hq⟩, up17_at, up17_at]
    · rw [if_neg e, up17_ne _ _ e, up17_ne _ _ e]
      exact if_iff17 ⟨fun x => ⟨by omega, x.2⟩, fun x => ⟨by omega, x.2⟩⟩ _ _
  · by_cases e : i = j
    · subst e
      rw [up17_at]
      have ne : ¬ (gf = g7 ∨ gf = g8) := by omega
      exact ⟨by omega, k4.rw_ (k3.rw_ (k2.rw_ hRf ne) ne) ne⟩
    · rw [up17_ne _ _ e]
      obtain ⟨r1, r2⟩ := h.fr i (by omega) hqi
      exact ⟨r1, ka.rw_ r2 (by omega)⟩
  · by_cases e : i = j
    · subst e
      rw [up17_at, up17_at, up17_at]
      exact ⟨by omega, hC, k4.rw_ hR (by omega), hF⟩
    · rw [up17_ne _ _ e, up17_ne _ _ e, up17_ne _ _ e]
      obtain ⟨r1, r2, r3, r4⟩ := h.nr i (by omega) hqi
      exact ⟨r1, r2, ka.rw_ r3 (by omega), r4⟩
  · by_cases e1 : i = j
    · by_cases e2 : i' = j
      · omega
      · rw [e1, up17_at, up17_ne _ _ e2] at e
        have := (h.nr i' (by omega) q').2.2.1.lt
        omega
    · by_cases e2 : i' = j
      · rw [e2, up17_at, up17_ne _ _ e1] at e
        have := (h.nr i (by omega) q).2.2.1.lt
        omega
      · rw [up17_ne _ _ e1, up17_ne _ _ e2] at e
        exact h.nj i i' (by omega) (by omega) q q' e
end
/-- a list of rows that may lack, as the law lays it. -/
theorem Fs17.fresh {w9 wr : World} {g7 g8 k km l : Nat} {Q : Nat → Bool} {Fr : Nat → Nat → Nat} {C9 B9 FB NB NC : Nat → Nat} {NT : Nat → Nat → Nat} {E : Nat → Prop} (h : Fs17 w9 wr g7 g8 k km l Q Fr C9 B9 k FB NB NC NT) (hk : k ≤ big) (hl : l ≤ big) (h7 : ¬ E g7) (h9 : ∀ x, w9.heap.size ≤ x → ¬ E x) : Ll E wr (.slice (some ⟨g7, 0, none⟩) k k) k (fun i => if Q i = true then l else 0) Fr := by
  refine ⟨_, ⟨hk, _, _, rfl, Nat.le_refl _, hk, fun h0 => ⟨_, _, rfl, ⟨h.fl.lt, h7⟩, fun i hi => by rw [Nat.zero_add]; exact h.fl.cell hi⟩⟩, fun i hi => ?_⟩
  dsimp only
  cases hq : Q i
  · rw [if_neg (fun x => Bool.noConfusion x.2), if_neg (by decide)]
    exact ⟨by unfold big; omega, fun t ht => absurd ht (Nat.not_lt_zero _), _, _, rfl, Nat.le_refl _, by unfold big; omega, fun h0 => absurd h0 (Nat.lt_irrefl _)⟩
  · rw [if_pos ⟨hi, rfl⟩, if_pos rfl]
    obtain ⟨r1, r2⟩ := h.fr i hi hq
    exact r2.re (Nat.le_refl _) (Nat.le_refl _) hl (h9 _ r1)
/-- the copy whose data rows are new. -/
theorem Fs17.now {w8 w9 wr : World} {g7 k m l : Nat} {Q : Nat → Bool} {Fr T9 : Nat → Nat → Nat} {C9 B9 FB NB NC : Nat → Nat} {NT : Nat → Nat → Nat} (h : Fs17 w9 wr g7 w8.heap.size k (k + m) l Q Fr C9 B9 k FB NB NC NT) (h7 : g7 < w8.heap.size)
    (hn : Cs w8.heap.size w9.heap.size w9 (.slice (some ⟨w8.heap.size, 0, none⟩) (k + m) (k + m)) (k + m) (fun _ => l) C9 B9 T9) :
    Cs w8.heap.size wr.heap.size wr (.slice (some ⟨w8.heap.size, 0, none⟩) (k + m) (k + m)) (k + m) (fun _ => l) (fun i => if i < k ∧ Q i = true then NC i else C9 i) (fun i => if i < k ∧ Q i = true then NB i else B9 i) (fun i => if i < k ∧ Q i = true then NT i else T9 i) := by
  have hs := h.ke.size
  have h89 := h.nl.lt
  have hne : ∀ i, i < k + m → B9 i ≠ w8.heap.size := fun i hi => hn.ne hi
  refine ⟨hn.mb, Nat.le_refl _, ⟨_, _, rfl, Nat.le_refl _, hn.mb, fun h0 => ⟨_, rfl, Nat.le_refl _, h89, fun i hi => ?_, fun i hi => ?_⟩⟩, fun i hi => ?_, fun i i' hi hi' e => ?_⟩
  · by_cases c : i < k ∧ Q i = true
    · rw [if_pos c]
      have := h.nr i c.1 c.2
      have := (hn.row i hi).1
      have := hn.hw
      have := (hn.row i hi).2.1
      omega
    · rw [if_neg c]; exact hne i hi
  · rw [h.nl.cell hi]
    by_cases c : i < k ∧ Q i = true
    · rw [if_pos c, if_pos c, if_pos c]
    · rw [if_neg c, if_neg c, if_neg c]
  · obtain ⟨r1, r2, r3, r4⟩ := hn.row i hi
    by_cases c : i < k ∧ Q i = true
    · rw [if_pos c, if_pos c, if_pos c]
      obtain ⟨n1, n2, n3, n4⟩ := h.nr i c.1 c.2
      exact ⟨by omega, n3.lt, n2, n3⟩
    · rw [if_neg c, if_neg c, if_neg c]
      exact ⟨r1, by omega, r3, h.ke.rw_ r4 (by have := hne i hi; omega)⟩
  · have e : (if i < k ∧ Q i = true then NB i else B9 i) = (if i' < k ∧ Q i' = true then NB i' else B9 i') := e
    by_cases c : i < k ∧ Q i = true
    · by_cases c' : i' < k ∧ Q i' = true
      · rw [if_pos c, if_pos c'] at e
        exact h.nj i i' c.1 c'.1 c.2 c'.2 e
      · rw [if_pos c, if_neg c'] at e
        have := h.nr i c.1 c.2
        have := (hn.row i' hi').2.1
        omega
    · by_cases c' : i' < k ∧ Q i' = true
      · rw [if_neg c, if_pos c'] at e
        have := h.nr i' c'.1 c'.2
        have := (hn.row i hi).2.1
        omega
      · rw [if_neg c, if_neg c'] at e
        exact hn.inj i i' hi hi' e
end Go.Proofs.YtdaolpbpifppbaaGreat
namespace Go.Proofs.YtdaolpbpifppbaaGreat
open Go.RowKit Gf2
set_option linter.unusedVariables false

-- layer 17: McodeTurns, the calls behind its loop
structure En17 (W w2 w3 w5 w8 wr x4 : World) (g7 k m l : Nat) : Prop where
  a1 : ∃ Z, Lb x4 (.slice (some ⟨w2.heap.size, 0, none⟩) k (k + m)) k (fun _ => l) Z ∧ Lb x4 (.slice (some ⟨w5.heap.size, 0, none⟩) k (k + m)) k (fun _ => l) Z
  a2 : ∃ Z, Lb x4 (.slice (some ⟨w2.heap.size, 0 + k, none⟩) m (k + m - k)) m (fun _ => l) Z ∧ Lb x4 (.slice (some ⟨w8.heap.size, 0 + k, none⟩) m (k + m - k)) m (fun _ => l) Z
  a3 : ∃ n Z, Lb x4 (.slice (some ⟨g7, 0, none⟩) k k) k n Z ∧ Lb x4 (.slice (some ⟨wr.heap.size, 0, none⟩) k k) k n Z ∧ ∀ i, i < k → n i ≤ l
  od : ∃ la ha Ca Ba Ta lb hb Cb Bb Tb lc hc Cc Bc Tc, Cs la ha x4 (.slice (some ⟨w3.heap.size, 0, none⟩) (k + m) (k + m)) (k + m) (fun _ => l) Ca Ba Ta ∧ Cs lb hb x4 (.slice (some ⟨w5.heap.size, 0, none⟩) (k + m) (k + m)) (k + m) (fun _ => l) Cb Bb Tb ∧ Cs lc hc x4 (.slice (some ⟨w8.heap.size, 0, none⟩) (k + m) (k + m)) (k + m) (fun _ => l) Cc Bc Tc ∧ ∀ i t, k ≤ i → i < k + m → t < l → Ta i t = 55 ^^^ Tb i t ^^^ Tc i t
  bel : Below W.heap.size W x4
set_option maxHeartbeats 4000000 in
theorem turns_b17 {W w2 w3 w4 w5 w6 w7 w8 w9 wr : World} {c : Nat} {f : Int} {k m b l : Nat} {S0 Fr : Nat → Nat → Nat} {Q : Nat → Bool} {C9 B9 FB NB NC : Nat → Nat} {NT T9 : Nat → Nat → Nat} (h : Tu17 W w2 w3 w4 w5 w6 w7 w8 w9 c f k m b l S0 Q)
    (hn : Cs w8.heap.size w9.heap.size w9 (.slice (some ⟨w8.heap.size, 0, none⟩) (k + m) (k + m)) (k + m) (fun _ => l) C9 B9 T9) (hne : ∀ i, i < k + m → ∀ t, t < l → T9 i t = enc17 f k 0 l S0 i t)
    (hF : Fs17 w9 wr w7.heap.size w8.heap.size k (k + m) l Q Fr C9 B9 k FB NB NC NT) (k1 : 1 ≤ k) (k2 : k ≤ 20) (m1 : 1 ≤ m) (m2 : m ≤ 12) (l1 : 1 ≤ l) (l2 : l ≤ 60) (h55 : ∀ i t, k ≤ i → S0 i t = 55) :
    Calls Tryz.prog 13 #[.slice (some ⟨w7.heap.size, 0, none⟩) k k] wr fun e x1 => e = .returned (.slice (some ⟨wr.heap.size, 0, none⟩) k k) ∧
    Calls Tryz.prog 14 #[.pointer (some ⟨c, 0, none⟩), .slice (some ⟨w8.heap.size, 0, none⟩) (k + m) (k + m)] x1 fun e x2 => e = .returned (.int .i64 0) ∧
    Calls Tryz.prog 23 #[.pointer (some ⟨c, 0, none⟩), .slice (some ⟨w2.heap.size, 0, none⟩) (k + m) (k + m), .slice (some ⟨w7.heap.size, 0, none⟩) k k] x2 fun e x3 => e = .returned (.int .i64 0) ∧
    Calls Tryz.prog 23 #[.pointer (some ⟨c, 0, none⟩), .slice (some ⟨w3.heap.size, 0, none⟩) (k + m) (k + m), .slice (some ⟨w7.heap.size, 0, none⟩) k k] x3 fun e x4 => e = .returned (.int .i64 0) ∧ En17 W w2 w3 w5 w8 wr x4 w7.heap.size k m l := by
  obtain ⟨⟨Cs9, Bs, hs9⟩, ⟨Co9, Bo, To, ho9, hoe⟩, ⟨Cb9, Bb, Tb, hb9, hbe⟩, -, -, -, ⟨Fp, ⟨FT, p, lo, hi, rows, t, hC9⟩, hFp⟩, bW9, z1, z2, z3, z4, z5, z6, z7, z8⟩ := h
  have hsr := hF.ke.size
  have h89 := hF.nl.lt
  have hkb : k ≤ big := by unfold big; omega
  have hlb : l ≤ big := by unfold big; omega
  -- at wr
  have hE : ∀ x, (x = w7.heap.size ∨ x = w8.heap.size) → w6.heap.size < x := fun x e => by omega
  have hsr' := hs9.keep hF.ke (fun x a b e => by have := hE x e; omega)
  have hor := ho9.keep hF.ke (fun x a b e => by have := hE x e; omega)
  have hbr := hb9.keep hF.ke (fun x a b e => by have := hE x e; omega)
  have hCr := hC9.ke hF.ke (fun x e hx => by have := hE x e; have := hFp x hx; omega)
  have hnr := hF.now (by omega) hn
  have bWr := bW9.trans (hF.ke.below (B := W.heap.size) (fun x e => by have := hE x e; omega) bW9.size)
  -- the blocks that turn from here on
  have hfr : Ll (fun x => (w2.heap.size ≤ x ∧ x < w4.heap.size) ∨ (w8.heap.size ≤ x ∧ x < w9.heap.size)) wr (.slice (some ⟨w7.heap.size, 0, none⟩) k k) k (fun i => if Q i = true then l else 0) Fr := hF.fresh hkb hlb (by omega) (fun x hx => by omega)
  refine (copied17 _ k (fun i => if Q i = true then l else 0) Fr wr hfr.lb (by omega) (fun i _ => by show (if Q i = true then l else 0) ≤ _; split <;> omega)).mono ?_
  rintro e x1 ⟨rfl, hQ1⟩
  refine ⟨rfl, ?_⟩
  obtain ⟨Cw, Bw, Tw, hw1, hwe, -⟩ := hQ1.cs
  have hr1 := hQ1.bel.size
  have bW1 := bWr.trans (hQ1.bel.mono bWr.size)
  have hn1 := hnr.below hQ1.bel
  obtain ⟨C', hC'⟩ : ∃ C' : Nat → Nat, C' = (fun i => if i < k ∧ Q i = true then NC i else C9 i) := ⟨_, rfl⟩
  obtain ⟨B', hB'⟩ : ∃ B' : Nat → Nat, B' = (fun i => if i < k ∧ Q i = true then NB i else B9 i) := ⟨_, rfl⟩
  obtain ⟨T', hT'⟩ : ∃ T' : Nat → Nat → Nat, T' = (fun i => if i < k ∧ Q i = true then NT i else T9 i) := ⟨_, rfl⟩
  rw [← hC', ← hB', ← hT'] at hn1
  have pn : ∀ x, Pb17 k m B' x → w8.heap.size ≤ x ∧ x < w9.heap.size := fun x ⟨r, hr, e⟩ => by
    have e2 : B' (k + r) = B9 (k + r) := by rw [hB']; exact if_neg (by omega)
    obtain ⟨r1, r2, -⟩ := hn.row (k + r) (by omega)
    rw [e, e2]
    exact ⟨r1, r2⟩
  have ps : ∀ x, Pb17 k m Bs x → w2.heap.size ≤ x ∧ x < w3.heap.size := fun x ⟨r, hr, e⟩ => by
    obtain ⟨r1, r2, -⟩ := hs9.row (k + r) (by omega)
    rw [e]; exact ⟨r1, r2⟩
  have po : ∀ x, Pb17 k m Bo x → w3.heap.size ≤ x ∧ x < w4.heap.size := fun x ⟨r, hr, e⟩ => by
    obtain ⟨r1, r2, -⟩ := ho9.row (k + r) (by omega)
    rw [e]; exact ⟨r1, r2⟩
  have dn : ∀ x, Pb17 k m B' x → ¬ Fp x := fun x e hx => by have := pn x e; have := hFp x hx; omega
  have ds : ∀ x, Pb17 k m Bs x → ¬ Fp x := fun x e hx => by have := ps x e; have := hFp x hx; omega
  have do_ : ∀ x, Pb17 k m Bo x → ¬ Fp x := fun x e hx => by have := po x e; have := hFp x hx; omega
  have hC1 := hCr.below hQ1.bel
  refine (Encode17 hC1 hn1 dn l1).mono ?_
  rintro e x2 ⟨rfl, hE2⟩
  refine ⟨rfl, ?_⟩
  have hC2 := hC1.ke hE2.ke dn
  have hs2 := (hsr'.below hQ1.bel).keep hE2.ke (fun x a b e => by have := pn x e; omega)
  have ho2 := (hor.below hQ1.bel).keep hE2.ke (fun x a b e => by have := pn x e; omega)
  have hb2 := (hbr.below hQ1.bel).keep hE2.ke (fun x a b e => by have := pn x e; omega)
  have hw2 := hw1.keep hE2.ke (fun x a b e => by have := pn x e; omega)
  have hf2 := (hfr.ke (ke_below hQ1.bel _)).ke (hE2.ke.mono (fun x _ e => .inr (pn x e)))
  have bW2 := bW1.trans (hE2.ke.below (B := W.heap.size) (fun x e => by have := pn x e; omega) bW1.size)
  refine (Update17 (Q := Q) (Fr := Fr) hC2 hs2 ds l1 (by omega) _ (hf2.mono (fun x _ e => .inl (by have := ps x e; omega)))).mono ?_
  rintro e x3 ⟨rfl, hU3⟩
  refine ⟨rfl, ?_⟩
  have hC3 := hC2.ke hU3.ke ds
  have ho3 := ho2.keep hU3.ke (fun x a b e => by have := ps x e; omega)
  have hb3 := hb2.keep hU3.ke (fun x a b e => by have := ps x e; omega)
  have hw3 := hw2.keep hU3.ke (fun x a b e => by have := ps x e; omega)
  have hn3 := hE2.cs.keep hU3.ke (fun x a b e => by have := ps x e; omega)
  have hf3 := hf2.ke (hU3.ke.mono (fun x _ e => .inl (by have := ps x e; omega)))
  have bW3 := bW2.trans (hU3.ke.below (B := W.heap.size) (fun x e => by have := ps x e; omega) bW2.size)
  refine (Update17 (Q := Q) (Fr := Fr) hC3 ho3 do_ l1 (by omega) _ (hf3.mono (fun x _ e => .inl (by have := po x e; omega)))).mono ?_
  rintro e x4 ⟨rfl, hU4⟩
  refine ⟨rfl, ?_⟩
  have hs4 := hU3.cs.keep hU4.ke (fun x a b e => by have := po x e; omega)
  have hb4 := hb3.keep hU4.ke (fun x a b e => by have := po x e; omega)
  have hw4 := hw3.keep hU4.ke (fun x a b e => by have := po x e; omega)
  have hn4 := hn3.keep hU4.ke (fun x a b e => by have := po x e; omega)
  have hf4 := hf3.ke (hU4.ke.mono (fun x _ e => .inl (by have := po x e; omega)))
  have bW4 := bW3.trans (hU4.ke.below (B := W.heap.size) (fun x e => by have := po x e; omega) bW3.size)
  -- what they hold
  obtain ⟨len, hlen⟩ : ∃ len, len = (ems Q k).length := ⟨_, rfl⟩
  have vT : ∀ i t, i < k → t < l → T' i t = nw17 Q S0 Fr i t := fun i t hi ht => by
    rw [hT']
    show (if i < k ∧ Q i = true then NT i else T9 i) t = (if Q i = true then Fr i t else S0 i t)
    by_cases q : Q i = true
    · rw [if_pos ⟨hi, q⟩, if_pos q]; exact (hF.nr i hi q).2.2.2 t ht
    · rw [if_neg (fun x => q x.2), if_neg q, hne i (by omega) t ht]; exact if_neg (by omega)
  have vE : ∀ i t, i < k → enc17 f k 0 l S0 i t = S0 i t := fun i t hi => if_neg (by omega)
  have vP : ∀ i t, k ≤ i → t < l → enc17 f k 0 l S0 i t = ks (par11 f k (i - k)) S0 k t := fun i t hi ht => if_pos ⟨hi, Nat.zero_le _, ht⟩
  have vn : ∀ i t, k ≤ i → t < l → enc17 f k 0 l T' i t = ks (par11 f k (i - k)) S0 k t ^^^ uq17 f k Q S0 Fr (i - k) t len := fun i t hi ht => by
    have e1 : enc17 f k 0 l T' i t = ks (par11 f k (i - k)) T' k t := if_pos ⟨hi, Nat.zero_le _, ht⟩
    rw [e1, hlen, ← turn17]
    exact ks_congr k (fun a ha => ⟨rfl, vT a t ha ht⟩)
  have vs : ∀ i t, k ≤ i → t < l → upx17 f k 0 l Q (enc17 f k 0 l S0) Fr (ems Q k).length i t = ks (par11 f k (i - k)) S0 k t ^^^ uq17 f k Q S0 Fr (i - k) t len := fun i t hi ht => by
    have e1 : upx17 f k 0 l Q (enc17 f k 0 l S0) Fr (ems Q k).length i t = enc17 f k 0 l S0 i t ^^^ uq17 f k Q (enc17 f k 0 l S0) Fr (i - k) t (ems Q k).length := if_pos ⟨hi, Nat.zero_le _, ht⟩
    rw [e1, vP i t hi ht, hlen, uq_congr17 f k Q (enc17 f k 0 l S0) S0 Fr Fr (i - k) t (fun a ha _ => ⟨vE a t ha, rfl⟩) _ (Nat.le_refl _)]
  have vo : ∀ i t, k ≤ i → i < k + m → t < l → upx17 f k 0 l Q To Fr (ems Q k).length i t = 55 ^^^ uq17 f k Q S0 Fr (i - k) t len := fun i t hi hi2 ht => by
    have e1 : upx17 f k 0 l Q To Fr (ems Q k).length i t = To i t ^^^ uq17 f k Q To Fr (i - k) t (ems Q k).length := if_pos ⟨hi, Nat.zero_le _, ht⟩
    rw [e1, hoe i hi2 t ht, h55 i t hi, hlen, uq_congr17 f k Q To S0 Fr Fr (i - k) t (fun a ha _ => ⟨hoe a (by omega) t ht, rfl⟩) _ (Nat.le_refl _)]
  have hkm : 0 < k + m := by omega
  refine ⟨⟨S0, (hs4.lb.head17 hkm).congr (fun i hi t ht => ?_), (hb4.lb.head17 hkm).congr (fun i hi t ht => ?_)⟩, ⟨_, (hs4.lb.tail17 hkm).congr (fun i hi t ht => ?_), hn4.lb.tail17 hkm⟩, ⟨_, Fr, hf4.lb, hw4.lb.congr hwe, fun i _ => ?_⟩, ⟨_, _, _, _, _, _, _, _, _, _, _, _, _, _, _, hU4.cs, hb4, hn4, fun i t hi hi2 ht => ?_⟩, bW4⟩
  · exact (if_neg (by omega)).trans (vE i t hi)
  · exact (hbe i (by omega) t ht).trans (vE i t hi)
  · show upx17 f k 0 l Q (enc17 f k 0 l S0) Fr (ems Q k).length (k + i) t = enc17 f k 0 l T' (k + i) t
    rw [vs _ t (by omega) ht, vn _ t (by omega) ht]
  · show (if Q i = true then l else 0) ≤ l
    split <;> omega
  · rw [vo i t hi hi2 ht, hbe i hi2 t ht, vP i t hi ht, vn i t hi ht, Nat.xor_assoc, ← Nat.xor_assoc (ks (par11 f k (i - k)) S0 k t), Nat.xor_self, Nat.zero_xor]
/-- the three comparisons. -/
theorem turns_c17 {W w2 w3 w5 w8 wr x4 : World} {g7 k m l : Nat} (h : En17 W w2 w3 w5 w8 wr x4 g7 k m l) (k1 : 1 ≤ k) (k2 : k ≤ 20) (m1 : 1 ≤ m) (m2 : m ≤ 12) (l2 : l ≤ 60) :
    (∀ y, (∃ q, y = x4.drewN q) → Calls Tryz.prog 15 #[.slice (some ⟨w2.heap.size, 0, none⟩) k (k + m), .slice (some ⟨w5.heap.size, 0, none⟩) k (k + m)] y fun e w' => e = .returned (.bool true) ∧ ∃ q, w' = x4.drewN q) ∧
    (∀ y, (∃ q, y = x4.drewN q) → Calls Tryz.prog 15 #[.slice (some ⟨w2.heap.size, k, none⟩) m m, .slice (some ⟨w8.heap.size, k, none⟩) m m] y fun e w' => e = .returned (.bool true) ∧ ∃ q, w' = x4.drewN q) ∧
    (∀ y, (∃ q, y = x4.drewN q) → Calls Tryz.prog 15 #[.slice (some ⟨g7, 0, none⟩) k k, .slice (some ⟨wr.heap.size, 0, none⟩) k k] y fun e w' => e = .returned (.bool true) ∧ ∃ q, w' = x4.drewN q) := by
  obtain ⟨Z1, a1, b1⟩ := h.a1
  obtain ⟨Z2, a2, b2⟩ := h.a2
  obtain ⟨n3, Z3, a3, b3, hn3⟩ := h.a3
  rw [Nat.zero_add, Nat.add_sub_cancel_left] at a2 b2
  refine ⟨?_, ?_, ?_⟩
  · rintro y ⟨q, rfl⟩
    refine (alike17 _ _ k _ Z1 _ (a1.ke ((Ke.refl _ x4).drewN q)) (b1.ke ((Ke.refl _ x4).drewN q)) (by omega) (fun _ _ => by show l ≤ _; omega)).mono ?_
    rintro e w' ⟨he, q', rfl⟩
    exact ⟨he, _, World.drewN_drewN _ _ _⟩
  · rintro y ⟨q, rfl⟩
    refine (alike17 _ _ m _ Z2 _ (a2.ke ((Ke.refl _ x4).drewN q)) (b2.ke ((Ke.refl _ x4).drewN q)) (by omega) (fun _ _ => by show l ≤ _; omega)).mono ?_
    rintro e w' ⟨he, q', rfl⟩
    exact ⟨he, _, World.drewN_drewN _ _ _⟩
  · rintro y ⟨q, rfl⟩
    refine (alike17 _ _ k _ Z3 _ (a3.ke ((Ke.refl _ x4).drewN q)) (b3.ke ((Ke.refl _ x4).drewN q)) (by omega) (fun i hi => by have := hn3 i hi; omega)).mono ?_
    rintro e w' ⟨he, q', rfl⟩
    exact ⟨he, _, World.drewN_drewN _ _ _⟩
end Go.Proofs.YtdaolpbpifppbaaGreat
namespace Go.Proofs.YtdaolpbpifppbaaGreat
open Go.RowKit Gf2
set_option linter.unusedVariables false

-- layer 17: McodeTurns
set_option maxHeartbeats 1000000 in
set_option maxRecDepth 100000 in
theorem turns17_any (nF nB nK nM : Int) (da : Option Addr) (dn dc : Nat) (oa : Option Addr) (on oc : Nat) (pa : Option Addr) (pn pc : Nat) (W : World) (hd : ∃ D, Rb W (.slice da dn dc) dn D) (hdn : dn ≤ 140737488351232) (hot : ∃ O, Rb W (.slice oa on oc) on O) (hon : on ≤ 140737488351232) (hp : ∃ G, Qi W (.slice pa pn pc) pn G) :
    Calls Tryz.prog 7 #[.agg #[.int .i64 nF, .int .i64 nB, .int .i64 nK, .int .i64 nM], .slice da dn dc, .slice oa on oc, .slice pa pn pc] W fun e w' => e = .returned (.bool true) ∧ Below W.heap.size W w' := by
  obtain ⟨D, hD⟩ := hd
  obtain ⟨O, hO⟩ := hot
  obtain ⟨G, hG⟩ := hp
  have i1 := ino17_in (n := nK) (lo := 1) (hi := 20) (by decide) (by decide)
  have i2 := ino17_in (n := nM) (lo := 1) (hi := 12) (by decide) (by decide)
  obtain ⟨x, hx⟩ : ∃ x, x = W.alloc (.cells #[.int .i64 nF, .int .i64 nB, .int .i64 nK, .int .i64 nM] 23) := ⟨_, rfl⟩
  have hb0 : Below W.heap.size W x := by rw [hx]; exact (Below.refl _ _).alloc (Nat.le_refl _) _
  have hblk : x.heap[W.heap.size]? = some (.cells #[.int .i64 nF, .int .i64 nB, .int .i64 nK, .int .i64 nM] 23 (0, 0)) := by rw [hx]; exact heap_alloc_new _ _
  have HX : Hid (W.alloc (.cells #[.int .i64 nF, .int .i64 nB, .int .i64 nK, .int .i64 nM] 23) = x) := hx.symm
  have c1 := made17 nF nB nK nM x
  have z0 : x.cell? ⟨W.heap.size, 0, none⟩ = some (.int .i64 nF) := by rw [cell_of_row _ _ 0 _ _ _ hblk]; rfl
  have z1 : x.cell? ⟨W.heap.size, 1, none⟩ = some (.int .i64 nB) := by rw [cell_of_row _ _ 1 _ _ _ hblk]; rfl
  have z2 : x.cell? ⟨W.heap.size, 2, none⟩ = some (.int .i64 nK) := by rw [cell_of_row _ _ 2 _ _ _ hblk]; rfl
  have z3 : x.cell? ⟨W.heap.size, 3, none⟩ = some (.int .i64 nM) := by rw [cell_of_row _ _ 3 _ _ _ hblk]; rfl
  generalize ino17 nK 1 20 = k at *
  generalize ino17 nM 1 12 = m at *
  generalize ((ino17 nF 0 1 : Nat) : Int) = f at *
  generalize ino17 nB 0 2 = b at *
  obtain ⟨l, hl⟩ : ∃ l, l = cul17 dn k := ⟨_, rfl⟩
  have hl2 := cul17_in dn k
  rw [← hl] at hl2
  have hcp := ino17_in (n := (pn : Int)) (lo := 0) (hi := k) (Nat.zero_le _) (by omega)
  have c6 : ∀ y, Calls Tryz.prog 18 #[.int .i64 (pn : Int), .int .i64 0, .int .i64 (k : Int)] y fun e w' => e = .returned (.int .i64 (ino17 (pn : Int) 0 k : Nat)) ∧ w' = y := fun y => into17 (pn : Int) 0 k y (Nat.zero_le _) (by omega)
  generalize ino17 (pn : Int) 0 k = cp at *
  have hc := fun w1 c (hM : Md17 x w1 c f k m b) w2 (b12 : Below w1.heap.size w1 w2) => turns_a17 hb0 hD hdn hG i1.1 i1.2 i2.1 i2.2 hl hcp.2 hM b12
  have HC : Hid _ := hc
  obtain ⟨S0, hS0⟩ : ∃ S0, S0 = cuv17 dn k D := ⟨_, rfl⟩
  have HS0 : Hid (∀ i t, k ≤ i → S0 i t = 55) := fun i t hi => by rw [hS0]; exact if_neg (by omega)
  rw [← hS0] at HC
  obtain ⟨Q, hQ⟩ : ∃ Q, Q = pk17 k (pg17 pn G) cp := ⟨_, rfl⟩
  rw [← hQ] at HC
  have HI : Hid (1 ≤ k ∧ k ≤ 20 ∧ 1 ≤ m ∧ m ≤ 12 ∧ 1 ≤ l ∧ l ≤ 60 ∧ Rb W (.slice oa on oc) on O ∧ on ≤ 140737488351232) := ⟨i1.1, i1.2, i2.1, i2.2, hl2.1, hl2.2, hO, hon⟩
  have c2 := fun w => awake17 w
  obtain ⟨km, hkm⟩ : ∃ km, km = k + m := ⟨_, rfl⟩
  have HKm : Hid (km = k + m) := hkm
  have hmk := make_rows k (by omega)
  have hs1 : k + m ≤ 1000 := by omega
  have hi0 : (0 : Int) < (k : Int) + (m : Int) := by omega
  have HWk : Hid (wrap64 ((k : Int) + (m : Int)) = (km : Int)) := by show _ = _; rw [hkm]; exact wrap_sum17 hs1
  clear hs1 hkm hc i1 i2 hl hl2 hb0 hblk hx hD hG hO hdn hon hcp hS0 hQ
  go_enter Tryz.func7, Tryz.ntmps7
  go_wp2_with (first
    | (go_at_call 10; rw [HX.out]; (with_reducible refine c1.mono ?_); rintro e w1 ⟨c, rfl, hM⟩; clear c1 z0 z1 z2 z3)
    | (go_at_call 11; (with_reducible refine (c2 _).mono ?_); rintro e w2 ⟨rfl, hb2⟩; clear c2; have c3 := HC.out w1 c hM w2 hb2; clear HC hM hb2)
    | (go_at_call 12; (with_reducible refine c3.mono ?_); rintro e w3 ⟨rfl, ⟨g0, q0⟩, c4⟩; clear c3)
    | (go_at_call 13; (with_reducible refine c4.mono ?_); rintro e w4 ⟨rfl, c5⟩; clear c4 q0)
    | (go_at_call 14; (with_reducible refine c5.mono ?_); rintro e w5 ⟨rfl, c7⟩; clear c5)
    | (go_at_call 13; (with_reducible refine c7.mono ?_); rintro e w6 ⟨rfl, c8⟩; clear c7)
    | (go_at_call 18; (with_reducible refine (c6 _).mono ?_); rintro e w99 ⟨rfl, hw9⟩; have hw9 := hw9.symm; subst hw9; clear c6)
    | (go_at_call 17; (with_reducible refine c8.mono ?_); rintro e w7 ⟨rfl, c9⟩; clear c8; obtain ⟨w8, hw8⟩ : ∃ w8, w7.alloc (.cells (madeCells #[.slice none 0 0] k) 27) = w8 := ⟨_, rfl⟩; obtain ⟨hz8, c10⟩ := c9 w8 hw8; have HX8 : Hid (w7.alloc (.cells (madeCells #[.slice none 0 0] k) 27) = w8) := hw8; have Hz8 : Hid (w8.heap.size = w7.heap.size + 1) := hz8; clear c9 hw8 hz8)
    | (go_at_call 13; rw [HX8.out]; (with_reducible refine c10.mono ?_); rintro e w9 ⟨rfl, hT⟩; clear c10; have HT : Hid _ := hT; clear hT))
  clear hmk hi0 HX8
  obtain ⟨C9, B9, T9, hn9, hne9, hnl9⟩ := HT.out.nn
  have HN9 : Hid (Cs w8.heap.size w9.heap.size w9 (.slice (some ⟨w8.heap.size, 0, none⟩) (k + m) (k + m)) (k + m) (fun _ => l) C9 B9 T9 ∧ (∀ i, i < k + m → ∀ t, t < l → T9 i t = enc17 f k 0 l S0 i t)) := ⟨hn9, hne9⟩
  clear hn9 hne9
  go_loopw [19, 20, 21] (fun s19 s20 s21 wr => ∃ j : Nat, j ≤ k ∧ s19 = .int .i64 j ∧ ∃ FB NB NC NT, Fs17 w9 wr w7.heap.size w8.heap.size k (k + m) l Q (fo17 l on O) C9 B9 j FB NB NC NT) (fun s19 _ _ _ => k - (intOf s19).toNat)
  case atStart => exact ⟨0, Nat.zero_le _, rfl, _, _, _, _, Fs17.start HT.out.fl hnl9⟩
  case round =>
    clear hnl9
    obtain ⟨j, hj, rfl, FB, NB, NC, NT, hF⟩ := hrel
    by_cases hlt : j < k
    · have ib : ((j : Nat) : Int) < (k : Int) := by omega
      have HJ : Hid (j < k ∧ k ≤ 256) := ⟨hlt, by have := HI.out; omega⟩
      have qo : wr.cell? ⟨w6.heap.size, j, none⟩ = some (.bool (Q j)) := (hF.ke.cell HT.out.pp.lt (by have := HT.out.sz; omega)).trans (HT.out.pp.cell hlt)
      cases hq : Q j
      · rw [hq] at qo
        have HE : Hid _ := hF.skip hq
        have W1 := wrap_succ8 (j := j) (by have := HJ.out; unfold big; omega)
        clear hF hq
        go_wp2
        go_roundw
        case rel => exact ⟨j + 1, HJ.out.1, by first | rfl | (rw [W1]; rfl), _, _, _, _, HE.out⟩
        case measure => first | exact meas_lt8 HJ.out.1 | (rw [W1]; exact meas_lt8 HJ.out.1)
      · rw [hq] at qo
        generalize hwo : wr = wo at hF qo ⊢
        clear hwo wr
        have HF : Hid _ := hF
        have Hq : Hid (Q j = true) := hq
        have hm8 := make_u8 l (by have := HI.out; omega)
        obtain ⟨wa, hwa⟩ : ∃ wa, wo.alloc (.cells (madeCells #[.int .u8 0] l) 5) = wa := ⟨_, rfl⟩
        have HA : Hid (wo.alloc (.cells (madeCells #[.int .u8 0] l) 5) = wa) := hwa
        have HA2 : Hid (Rw wa wo.heap.size l (fun _ => 0) ∧ Below wo.heap.size wo wa ∧ Below W.heap.size W wo) := by
          refine ⟨by rw [← hwa]; exact made_rw l (by have := HI.out; omega) wo, by rw [← hwa]; exact (Below.refl _ _).alloc (Nat.le_refl _) _, ?_⟩
          exact HT.out.bel.trans (hF.ke.below (B := W.heap.size) (fun x e => by have := HT.out.sz; omega) HT.out.bel.size)
        clear hF hq hwa
        go_wp2
        rw [HA.out]
        clear hm8 qo HA
        go_loopw [21] (fun s21 wr => ∃ t : Nat, t ≤ l ∧ s21 = .int .i64 t ∧ Only wo.heap.size wa wr ∧ Rw wr wo.heap.size l (fun y => if y < t then fo17 l on O j y else 0)) (fun s21 _ => l - (intOf s21).toNat)
        case atStart => exact ⟨0, Nat.zero_le _, rfl, Only.refl _ _, HA2.out.1.congr (fun y _ => (if_neg (Nat.not_lt_zero _)).symm)⟩
        case round =>
          obtain ⟨t, ht, rfl, ho, hrw⟩ := hrel
          by_cases htl : t < l
          · have q2 := hrw.2.2.cell (i := t) htl
            have q3 := hrw.2.2.frozen t
            have hbW : Below W.heap.size W wr := (HA2.out.2.2.trans (HA2.out.2.1.mono HA2.out.2.2.size)).trans (ho.below HA2.out.2.2.size)
            obtain ⟨p, xx, HP, HPW⟩ := idx17 (r := j) (l := l) (t := t) (by have := HJ.out; omega) HI.out.2.2.2.2.2.1 (by have := HI.out; omega)
            have HW5 : Hid _ := wrap_succ8 (j := t) (by have := HI.out; unfold big; omega)
            have ib2 : ((t : Nat) : Int) < (l : Int) := by omega
            have HTt : Hid (t < l) := htl
            by_cases hxn : xx < on
            · have hcv : fo17 l on O j t = O xx := by
                unfold fo17
                rw [if_pos (by rw [← HP.out.2]; exact hxn), ← HP.out.2]
              obtain ⟨-, hO256, a', c', e', -, -, h4⟩ := HI.out.2.2.2.2.2.2.1.below hbW
              cases e'
              obtain ⟨db, dof, rfl, -, hdc⟩ := h4 (by omega)
              have qd := hdc xx hxn
              obtain ⟨y, hy⟩ : ∃ y, y = O xx := ⟨_, rfl⟩
              have hy256 : y < 256 := by rw [hy]; exact hO256 xx hxn
              rw [← hy] at qd hcv
              have HE : Hid (Only wo.heap.size wa (wr.setCell ⟨wo.heap.size, t, none⟩ (.int .u8 (y : Nat))) ∧ Rw (wr.setCell ⟨wo.heap.size, t, none⟩ (.int .u8 (y : Nat))) wo.heap.size l (fun z => if z < t + 1 then fo17 l on O j z else 0)) := by
                refine ⟨ho.setCell t _, (hrw.set t y hy256).congr (fun z hz => ?_)⟩
                show (if z = t then y else if z < t then fo17 l on O j z else 0) = _
                by_cases e : z = t
                · rw [if_pos e, if_pos (by omega), e, hcv]
                · rw [if_neg e]
                  by_cases e2 : z < t
                  · rw [if_pos e2, if_pos (by omega)]
                  · rw [if_neg e2, if_neg (by omega)]
              have jb : ((xx : Nat) : Int) < (on : Int) := by omega
              clear ho hrw hbW hcv h4 hdc hO256 hy256 hy ht
              obtain ⟨P1, P2, P3, P4⟩ := HPW.out
              have W5 := HW5.out
              go_wp2
              go_roundw
              case rel => exact ⟨t + 1, HTt.out, by first | rfl | (rw [W5]; rfl), HE.out.1, HE.out.2⟩
              case measure => first | exact meas_lt8 HTt.out | (rw [W5]; exact meas_lt8 HTt.out)
            · have hcv : fo17 l on O j t = 0 := by
                unfold fo17
                exact if_neg (fun h => hxn (by rw [HP.out.2]; exact h))
              have HE : Hid (Only wo.heap.size wa wr ∧ Rw wr wo.heap.size l (fun z => if z < t + 1 then fo17 l on O j z else 0)) := by
                refine ⟨ho, hrw.congr (fun z hz => ?_)⟩
                by_cases e : z = t
                · rw [if_neg (by omega), if_pos (by omega), e, hcv]
                · by_cases e2 : z < t
                  · rw [if_pos e2, if_pos (by omega)]
                  · rw [if_neg e2, if_neg (by omega)]
              have jb : ¬ ((xx : Nat) : Int) < (on : Int) := by omega
              clear ho hrw hbW hcv ht q2 q3
              obtain ⟨P1, P2, P3, P4⟩ := HPW.out
              have W5 := HW5.out
              go_wp2
              go_roundw
              case rel => exact ⟨t + 1, HTt.out, by first | rfl | (rw [W5]; rfl), HE.out.1, HE.out.2⟩
              case measure => first | exact meas_lt8 HTt.out | (rw [W5]; exact meas_lt8 HTt.out)
          · have htn : ¬ ((t : Nat) : Int) < (l : Int) := by omega
            have hrw' : Rw wr wo.heap.size l (fo17 l on O j) := hrw.congr (fun z hz => if_pos (by omega))
            have hbf : Below wo.heap.size wo wr := HA2.out.2.1.trans (ho.below (Nat.le_refl _))
            have hsz := HT.out.sz
            have hs9 := HF.out.ke.size
            have h89 := HF.out.nl.lt
            have h79 := HF.out.fl.lt
            have h9 : w8.heap.size < w9.heap.size := (HN9.out.1.form).elim (fun a ⟨cc, e, _, _, hh⟩ => by
              obtain ⟨g', e', h1, h2, -⟩ := hh (by have := HI.out; omega)
              cases e
              cases e'
              exact h2)
            have f7 := HF.out.fl.of_block (hbf.block _ h79)
            have q7 := f7.cell HJ.out.1
            rw [if_neg (fun x => Nat.lt_irrefl _ x.1)] at q7
            have q7f := f7.frozen j
            have o2 : Only w7.heap.size wr (wr.setCell ⟨w7.heap.size, j, none⟩ (.slice (some ⟨wo.heap.size, 0, none⟩) l l)) := (Only.refl _ _).setCell _ _
            have hRf := o2.rw_ hrw' (by omega)
            have hlb : l ≤ big := by have := HI.out; unfold big; omega
            obtain ⟨w1, g, cn, F, hrun, hC, hg, hg1, hR, hFe, hb1⟩ := copy_app _ (hRf.re (E := fun _ => False) (Nat.le_refl _) (Nat.le_refl l) hlb (fun e => e)).rb (by have := HI.out; omega)
            have hsw := hbf.size
            have hs2 := o2.2.1
            have n8 := ((HF.out.nl.of_block (hbf.block _ h89)).of_block (o2.2.2 _ (by omega))).of_block (hb1.block _ (by omega))
            have q8 := n8.cell (i := j) (by have := HJ.out; omega)
            rw [if_neg (fun x => Nat.lt_irrefl _ x.1)] at q8
            have q8f := n8.frozen j
            rw [hs2] at hrun
            have HE : Hid _ := HF.out.next HJ.out.1 (Nat.le_add_right _ _) Hq.out (by omega) h9 (by omega) hbf (Nat.le_refl _) hrw' hC hg hR hFe hb1
            have ib8 : ((j : Nat) : Int) < (k : Int) + (m : Int) := by omega
            have W1 := wrap_succ8 (j := j) (by have := HJ.out; unfold big; omega)
            clear ho hrw hrw' hbf hsz hs9 h89 h79 h9 f7 o2 hRf hlb hC hg hg1 hR hFe hb1 hsw hs2 n8 ht htl
            go_wp2_with (at_builtin; refine Lib.wpList_append_run _ rfl _ _ _ _ rfl _ _ rfl rfl _ _ hrun ?_; clear hrun)
            go_roundw
            case rel => exact ⟨j + 1, HJ.out.1, by first | rfl | (rw [W1]; rfl), _, _, _, _, HE.out⟩
            case measure => first | exact meas_lt8 HJ.out.1 | (rw [W1]; exact meas_lt8 HJ.out.1)
    · have hjk : j = k := by omega
      rw [hjk] at hF
      have htn : ¬ ((j : Nat) : Int) < (k : Int) := by omega
      have d1 := turns_b17 HT.out HN9.out.1 HN9.out.2 hF HI.out.1 HI.out.2.1 HI.out.2.2.1 HI.out.2.2.2.1 HI.out.2.2.2.2.1 HI.out.2.2.2.2.2.1 HS0.out
      have s1 := headL17 w2.heap.size 0 (k + m) (k + m) k (Nat.le_add_right _ _)
      have s2 := headL17 w5.heap.size 0 (k + m) (k + m) k (Nat.le_add_right _ _)
      have s3 := fromL17 w2.heap.size 0 (k + m) (k + m) k (Nat.le_add_right _ _) (Nat.le_refl _) (by have := HI.out; omega)
      have s4 := fromL17 w8.heap.size 0 (k + m) (k + m) k (Nat.le_add_right _ _) (Nat.le_refl _) (by have := HI.out; omega)
      rw [Nat.zero_add, Nat.add_sub_cancel_left] at s3 s4
      clear hF hjk hj hlt
      go_wp2_with (first
        | (go_at_call 13; (with_reducible refine d1.mono ?_); rintro e x1 ⟨rfl, d2⟩; clear d1)
        | (go_at_call 14; (with_reducible refine d2.mono ?_); rintro e x2 ⟨rfl, d3⟩; clear d2)
        | (go_at_call 23; (with_reducible refine d3.mono ?_); rintro e x3 ⟨rfl, d4⟩; clear d3)
        | (go_at_call 23; (with_reducible refine d4.mono ?_); rintro e x4 ⟨rfl, hE⟩; clear d4; have HE : Hid _ := hE; clear hE; obtain ⟨e1, e2, e3⟩ := turns_c17 HE.out HI.out.1 HI.out.2.1 HI.out.2.2.1 HI.out.2.2.2.1 HI.out.2.2.2.2.2.1))
      refine region_planI (fun w' => True) [0, 1, 2, 3, 4, 5, 6, 7, 8, 9, 10, 11, 12, 13, 14, 15, 16, 17, 18, 19, 20, 21, 22, 23] [6, 8, 5, 2] 190 trivial (by kernel_rfl) (by kernel_rfl) (fun _ a d v _ h => by cases d <;> exact h) ?_
      simp only [atI, List.getElem?_cons_zero, List.getElem?_cons_succ]
      refine planH_step ?Au0 rfl (fun w' hS => ?su0) rfl (fun K hK => ?nu0)
      case su0 =>
        simp only [List.take_succ_cons, List.take_zero]
        repeat still_step
        exact rfl
      case nu0 =>
      clear s1 s2
      go_simp
      go_wp2_with (go_at_call 15; (with_reducible refine (e1 x4.drew ⟨1, rfl⟩).mono ?_); rintro e y1 ⟨rfl, hy1⟩; clear e1)
      refine hK _ _ trivial ?_
      clear hK K
      refine planH_step ?Au1 rfl (fun w' hS => ?su1) rfl (fun K hK => ?nu1)
      case su1 =>
        simp only [List.take_succ_cons, List.take_zero]
        repeat still_step
        exact rfl
      case nu1 =>
      clear s3 s4
      go_simp
      go_wp2_with (go_at_call 15; (with_reducible refine (e2 _ hy1).mono ?_); rintro e y2 ⟨rfl, hy2⟩; clear e2 hy1)
      refine hK _ _ trivial ?_
      clear hK K
      refine planH_step ?Au2 rfl (fun w' hS => ?su2) rfl (fun K hK => ?nu2)
      case su2 =>
        simp only [List.take_succ_cons, List.take_zero]
        repeat still_step
        exact rfl
      case nu2 =>
      go_simp
      go_wp2_with (go_at_call 15; (with_reducible refine (e3 _ hy2).mono ?_); rintro e y3 ⟨rfl, hy3⟩; clear e3 hy2)
      refine hK _ _ trivial ?_
      clear hK K
      refine planH_last ?Au3 rfl (fun w' hS => ?su3) rfl ?nu3
      case su3 =>
        simp only [List.take_succ_cons, List.take_zero]
        repeat still_step
        exact rfl
      case nu3 =>
      go_wp2
      have HY : Hid (∃ q, y3 = x4.drewN q) := hy3
      obtain ⟨la, ha, Ca, Ba, Ta, lb, hb, Cb, Bb, Tb, lc, hc, Cc, Bc, Tc, hA, hB, hC, heq⟩ := HE.out.od
      have ho := And.intro hA (And.intro hB (And.intro hC heq))
      have HO : Hid _ := ho
      clear ho hA hB hC heq hy3
      go_loopw [23, 24] (fun s23 s24 wr => ∃ j q : Nat, k ≤ j ∧ j ≤ k + m ∧ s23 = .int .i64 j ∧ wr = x4.drewN q) (fun s23 _ _ => k + m - (intOf s23).toNat)
      case atStart =>
        obtain ⟨q, e⟩ := HY.out
        exact ⟨k, q, Nat.le_refl _, Nat.le_add_right _ _, rfl, e⟩
      case round =>
        obtain ⟨i, q, hki, hi, rfl, hw⟩ := hrel
        by_cases hlt : i < k + m
        · have ib : ((i : Nat) : Int) < (km : Int) := by have := HKm.out; omega
          have HJ : Hid (i < k + m ∧ k ≤ i ∧ k + m ≤ 256) := ⟨hlt, hki, by have := HI.out; omega⟩
          have Hw : Hid (wr = x4.drewN q) := hw
          have W2 : wrap64 ((k : Int) + (m : Int)) = (km : Int) := HWk.out
          clear hw hki hi hlt
          go_wp2
          clear W2 ib
          go_loopw [24] (fun s24 wr => ∃ t q : Nat, t ≤ l ∧ s24 = .int .i64 t ∧ wr = x4.drewN q) (fun s24 _ => l - (intOf s24).toNat)
          case atStart => exact ⟨0, q, Nat.zero_le _, rfl, Hw.out⟩
          case round =>
            obtain ⟨t, q2, ht, rfl, hw⟩ := hrel
            by_cases htl : t < l
            · have HTt : Hid (t < l ∧ l ≤ 60) := ⟨htl, HI.out.2.2.2.2.2.1⟩
              obtain ⟨hA, hB, hC, heq⟩ := HO.out
              have hAq := hA.drewN q2
              have hBq := hB.drewN q2
              have hCq := hC.drewN q2
              rw [← hw] at hAq hBq hCq
              have la1 : l ≤ Ca i := (hAq.row i HJ.out.1).2.2.1
              have lb1 : l ≤ Cb i := (hBq.row i HJ.out.1).2.2.1
              have lc1 : l ≤ Cc i := (hCq.row i HJ.out.1).2.2.1
              have qa : wr.cell? ⟨w3.heap.size, i, none⟩ = some (.slice (some ⟨Ba i, 0, none⟩) l (Ca i)) := hAq.at_ HJ.out.1
              have qb : wr.cell? ⟨w5.heap.size, i, none⟩ = some (.slice (some ⟨Bb i, 0, none⟩) l (Cb i)) := hBq.at_ HJ.out.1
              have qc : wr.cell? ⟨w8.heap.size, i, none⟩ = some (.slice (some ⟨Bc i, 0, none⟩) l (Cc i)) := hCq.at_ HJ.out.1
              have ra := hAq.cell_ (i := i) (j := t) HJ.out.1 (by omega)
              have rb := hBq.cell_ (i := i) (j := t) HJ.out.1 (by omega)
              have rc := hCq.cell_ (i := i) (j := t) HJ.out.1 (by omega)
              have b2 := hBq.lt_ (i := i) (j := t) HJ.out.1 (by omega)
              have b3 := hCq.lt_ (i := i) (j := t) HJ.out.1 (by omega)
              rw [heq i t HJ.out.2.1 HJ.out.1 htl] at ra
              generalize Tb i t = yb at ra rb b2
              generalize Tc i t = yc at ra rc b3
              generalize Ba i = ga at qa ra
              generalize Bb i = gb at qb rb
              generalize Bc i = gc at qc rc
              generalize Ca i = ca at qa la1
              generalize Cb i = cb at qb lb1
              generalize Cc i = cc at qc lc1
              have X1 : bits .xor .u8 55 (yb : Int) = ((55 ^^^ yb : Nat) : Int) := u8_xor_nat 55 yb (by decide) b2
              have X2 : bits .xor .u8 ((55 ^^^ yb : Nat) : Int) (yc : Int) = ((55 ^^^ yb ^^^ yc : Nat) : Int) := u8_xor_nat (55 ^^^ yb) yc (Nat.xor_lt_two_pow (n := 8) (by decide) b2) b3
              obtain ⟨v1, hv1⟩ : ∃ v1, v1 = 55 ^^^ yb := ⟨_, rfl⟩
              rw [← hv1] at X1 X2 ra
              obtain ⟨v, hv⟩ : ∃ v, v = v1 ^^^ yc := ⟨_, rfl⟩
              rw [← hv] at X2 ra
              have hbn : (((v : Nat) : Int) != ((v : Nat) : Int)) = false := bne_self_eq_false _
              have ib2 : ((t : Nat) : Int) < (l : Int) := by omega
              have ib8 : ((i : Nat) : Int) < (k : Int) + (m : Int) := by have := HJ.out; omega
              have Hw2 : Hid (wr = x4.drewN q2) := hw
              have W1 := wrap_succ8 (j := t) (by have := HTt.out; unfold big; omega)
              clear hA hB hC heq hAq hBq hCq la1 lb1 lc1 b2 b3 hv1 hv hw ht htl
              go_wp2
              go_quiet (fail)
              go_wp2
              go_roundw
              case rel => exact ⟨t + 1, q2 + nq, HTt.out.1, by first | rfl | (rw [W1]; rfl), by rw [Hw2.out, World.drewN_drewN]⟩
              case measure => first | exact meas_lt8 HTt.out.1 | (rw [W1]; exact meas_lt8 HTt.out.1)
            · have htn : ¬ ((t : Nat) : Int) < (l : Int) := by omega
              have Hw2 : Hid (wr = x4.drewN q2) := hw
              have W1 := wrap_succ8 (j := i) (by have := HJ.out; unfold big; omega)
              clear hw ht htl
              go_wp2
              go_roundw
              case rel => exact ⟨i + 1, q2, Nat.le_succ_of_le HJ.out.2.1, HJ.out.1, by first | rfl | (rw [W1]; rfl), Hw2.out⟩
              case measure => first | exact meas_lt8 HJ.out.1 | (rw [W1]; exact meas_lt8 HJ.out.1)
        · have htn : ¬ ((i : Nat) : Int) < (km : Int) := by have := HKm.out; omega
          have Hw : Hid (Below W.heap.size W wr) := by show Below _ _ _; rw [hw]; exact below_drewN HE.out.bel q
          have W2 : wrap64 ((k : Int) + (m : Int)) = (km : Int) := HWk.out
          clear hw hki hi hlt
          go_wp2
          go_ret
          exact ⟨rfl, Hw.out⟩
end Go.Proofs.YtdaolpbpifppbaaGreat
