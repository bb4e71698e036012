import Derived.Test.YtdaolpbpifppbaaGreatMlbw
namespace Go.Proofs.YtdaolpbpifppbaaGreat
open Go.RowKit Gf2
set_option linter.unusedVariables false

-- layer 17: McodeBackends, one round's calls
/-- what there is ahead of the loop that takes shards away. -/
structure Bk17 (wb w1 w2 w3 w4 w5 w6 w9 : World) (c : Nat) (f : Int) (k m b l : Nat) (X0 : Nat → Nat → Nat) (P : Nat → Bool) : Prop where
  xx : ∃ C B T, Cs w1.heap.size w2.heap.size w9 (.slice (some ⟨w1.heap.size, 0, none⟩) (k + m) (k + m)) (k + m) (fun _ => l) C B T ∧ ∀ i, i < k + m → ∀ t, t < l → T i t = X0 i t
  yy : ∃ C B T, Cs w3.heap.size w4.heap.size w9 (.slice (some ⟨w3.heap.size, 0, none⟩) (k + m) (k + m)) (k + m) (fun _ => l) C B T ∧ (∀ i, i < k + m → ∀ t, t < l → T i t = X0 i t) ∧ w9.rowIs w3.heap.size 27 (k + m) (fun i => .slice (some ⟨B i, 0, none⟩) l (C i))
  zz : ∃ C B T, Cs w4.heap.size w5.heap.size w9 (.slice (some ⟨w4.heap.size, 0, none⟩) (k + m) (k + m)) (k + m) (fun _ => l) C B T ∧ ∀ i, i < k + m → ∀ t, t < l → T i t = X0 i t
  pp : w9.rowIs w5.heap.size 4 (k + m) (fun i => .bool (P i))
  fr : Ll (fun x => x < w6.heap.size) w9 (.slice (some ⟨w6.heap.size, 0, none⟩) k k) k (fun i => if decide (i = 0) = true then l else 0) (fun _ => X0 k)
  co : ∃ Fp, Cd w9 c Fp f k m b 0 [] ∧ ∀ x, Fp x → wb.heap.size ≤ x ∧ x < w1.heap.size
  bel : Below wb.heap.size wb w9
  sz : wb.heap.size ≤ w1.heap.size ∧ w1.heap.size ≤ w2.heap.size ∧ w2.heap.size ≤ w3.heap.size ∧ w3.heap.size ≤ w4.heap.size ∧ w4.heap.size ≤ w5.heap.size ∧ w5.heap.size < w6.heap.size ∧ w6.heap.size < w9.heap.size
set_option maxHeartbeats 2000000 in
theorem backs_a17 {wb w1 w2 w3 : World} {c : Nat} {f : Int} {k m b l cp : Nat} {pa : Option Addr} {pn pc : Nat} {G : Nat → Int} {X0 T : Nat → Nat → Nat} {C B : Nat → Nat} {Fp : Nat → Prop} (hG : Qi wb (.slice pa pn pc) pn G) (hC : Cd w3 c Fp f k m b 0 []) (hFp : ∀ x, Fp x → wb.heap.size ≤ x ∧ x < w1.heap.size) (hb3 : Below wb.heap.size wb w3)
    (hx : Cs w1.heap.size w2.heap.size w3 (.slice (some ⟨w1.heap.size, 0, none⟩) (k + m) (k + m)) (k + m) (fun _ => l) C B T) (hT : ∀ i, i < k + m → ∀ t, t < l → T i t = X0 i t) (z1 : wb.heap.size ≤ w1.heap.size) (z2 : w1.heap.size ≤ w2.heap.size) (z3 : w2.heap.size ≤ w3.heap.size)
    (k1 : 1 ≤ k) (k2 : k ≤ 20) (m1 : 1 ≤ m) (m2 : m ≤ 12) (l2 : l ≤ 60) (hcp : cp ≤ k + m) :
    Calls Tryz.prog 13 #[.slice (some ⟨w1.heap.size, 0, none⟩) (k + m) (k + m)] w3 fun e w4 => e = .returned (.slice (some ⟨w3.heap.size, 0, none⟩) (k + m) (k + m)) ∧
    Calls Tryz.prog 13 #[.slice (some ⟨w1.heap.size, 0, none⟩) (k + m) (k + m)] w4 fun e w5 => e = .returned (.slice (some ⟨w4.heap.size, 0, none⟩) (k + m) (k + m)) ∧
    Calls Tryz.prog 17 #[.int .i64 ((k : Int) + (m : Int)), .int .i64 (cp : Int), .slice pa pn pc] w5 fun e w6 => e = .returned (.slice (some ⟨w5.heap.size, 0, none⟩) (k + m) (k + m)) ∧
    ∀ w7, w6.alloc (.cells (madeCells #[.slice none 0 0] k) 27) = w7 →
    w7.heap.size = w6.heap.size + 1 ∧ ∃ gk ck w8 g cf, (w7.alloc (.cells #[] 5)).cell? ⟨w1.heap.size, k, none⟩ = some (.slice (some ⟨gk, 0, none⟩) l ck) ∧
      (Builtin.append_ #[27, 27] 27 #[.slice (some ⟨w7.heap.size, 0, none⟩) 0 0, .slice (some ⟨gk, 0, none⟩) l ck]).run Tryz.prog (w7.alloc (.cells #[] 5)) = .ok (.slice (some ⟨g, 0, none⟩) l cf) w8 ∧
      w8.cell? ⟨w6.heap.size, 0, none⟩ = some (.slice none 0 0) ∧ w8.frozen? ⟨w6.heap.size, 0, none⟩ = false ∧
      ∀ w9, w8.setCell ⟨w6.heap.size, 0, none⟩ (.slice (some ⟨g, 0, none⟩) l cf) = w9 → Bk17 wb w1 w2 w3 w4 w5 w6 w9 c f k m b l X0 (pk17 (k + m) (pg17 pn G) cp) := by
  obtain ⟨FT, p, lo, hi, rows, t, hC3⟩ := hC
  refine (copied17 _ (k + m) (fun _ => l) T w3 hx.lb (by omega) (fun _ _ => by show l ≤ _; omega)).mono ?_
  rintro e w4 ⟨rfl, hQ4⟩
  refine ⟨rfl, ?_⟩
  obtain ⟨Cy, By, Ty, hy4, hy4e, hy4r⟩ := hQ4.cs
  have h34 := hQ4.bel.size
  have b4 := hb3.trans (hQ4.bel.mono hb3.size)
  have hx4 := hx.below hQ4.bel
  refine (copied17 _ (k + m) (fun _ => l) T w4 hx4.lb (by omega) (fun _ _ => by show l ≤ _; omega)).mono ?_
  rintro e w5 ⟨rfl, hQ5⟩
  refine ⟨rfl, ?_⟩
  obtain ⟨Cz, Bz, Tz, hz5, hz5e, -⟩ := hQ5.cs
  have h45 := hQ5.bel.size
  have b5 := b4.trans (hQ5.bel.mono b4.size)
  have hx5 := hx4.below hQ5.bel
  refine (pick17 (k + m) cp pn G (.slice pa pn pc) w5 (hG.below b5) (by omega) (by omega) hcp).mono ?_
  rintro e w6 ⟨rfl, hp6, b56⟩
  refine ⟨rfl, fun w7 hw7 => ?_⟩
  have h56 := hp6.lt
  have b67 : Below w6.heap.size w6 w7 := by rw [← hw7]; exact (Below.refl _ _).alloc (Nat.le_refl _) _
  have h67 : w7.heap.size = w6.heap.size + 1 := by rw [← hw7]; simp
  have hf7 : w7.rowIs w6.heap.size 27 k (fun _ => .slice none 0 0) := by rw [← hw7]; exact World.rowIs_made w6 (.slice none 0 0) k 27
  have b57 := b56.trans (b67.mono b56.size)
  have hx7 := hx5.below b57
  have hxr := hx7.row k (by omega)
  have hxa := hx7.at_ (i := k) (by omega)
  have hrk : Rb w7 (.slice (some ⟨B k, 0, none⟩) l (C k)) l (T k) := (hxr.2.2.2.re (E := fun _ => False) hxr.2.2.1 hxr.2.2.1 hxr.2.2.2.1 (fun e => e)).rb
  obtain ⟨w8, g, cf, F, hrun, hC8, hg, hg1, hR, hF, hb8⟩ := copy_app w7 hrk (by omega)
  have hf8 := hf7.of_block (hb8.block _ (by omega))
  have hbx : Below w7.heap.size w7 (w7.alloc (.cells #[] 5)) := (Below.refl _ _).alloc (Nat.le_refl _) _
  refine ⟨h67, B k, C k, w8, g, cf, (hbx.cell (p := ⟨w1.heap.size, k, none⟩) (by show w1.heap.size < _; omega)).trans hxa, hrun, hf8.cell (by omega), hf8.frozen 0, fun w9 hw9 => ?_⟩
  have o9 : Only w6.heap.size w8 w9 := by rw [← hw9]; exact (Only.refl _ _).setCell _ _
  have h78 := hb8.size
  have h89 := o9.2.1
  have hf9 : w9.rowIs w6.heap.size 27 k (fun i => if i = 0 then .slice (some ⟨g, 0, none⟩) l cf else .slice none 0 0) := by rw [← hw9]; exact hf8.set 0 _
  have k59 : Ke (fun x => x = w6.heap.size) w5 w9 := ((ke_below b57 _).trans (ke_below hb8 _)).trans o9.kp.ke
  have hX : ∀ x, wb.heap.size ≤ x → x < w5.heap.size → ¬ x = w6.heap.size := fun x _ _ => by omega
  refine ⟨⟨_, _, _, hx5.keep k59 (fun x a b e => by omega), hT⟩, ⟨_, _, _, (hy4.below hQ5.bel).keep k59 (fun x a b e => by omega), fun i hi t ht => (hy4e i hi t ht).trans (hT i hi t ht), ?_⟩, ⟨_, _, _, hz5.keep k59 (fun x a b e => by omega), fun i hi t ht => (hz5e i hi t ht).trans (hT i hi t ht)⟩, ?_, ?_, ⟨Fp, ⟨_, _, _, _, _, _, ((hC3.below hQ4.bel).below hQ5.bel).ke k59 (fun x e hx => by have := hFp x hx; omega)⟩, hFp⟩, b5.trans (k59.below (B := wb.heap.size) (fun x e => by omega) b5.size), z1, z2, z3, h34, h45, h56, by omega⟩
  · exact (hy4r.of_block (hQ5.bel.block _ hy4r.lt)).of_block (k59.2 _ (by have := hy4r.lt; omega) (by have := hy4r.lt; omega))
  · exact ((hp6.of_block (b67.block _ h56)).of_block (hb8.block _ (by omega))).of_block (o9.2.2 _ (by omega))
  · refine ⟨_, ⟨by unfold big; omega, _, _, rfl, Nat.le_refl _, by unfold big; omega, fun _ => ⟨_, _, rfl, ⟨hf9.lt, Nat.lt_irrefl _⟩, fun i hi => by rw [Nat.zero_add]; exact hf9.cell hi⟩⟩, fun i hi => ?_⟩
    dsimp only
    by_cases e : i = 0
    · rw [if_pos e, if_pos (decide_eq_true e)]
      have hR9 := o9.rw_ hR (by omega)
      exact (hR9.re hC8 hC8 hR9.1 (by omega)).congr (fun t ht => (hF t ht).trans (hT k (by omega) t ht))
    · rw [if_neg e, if_neg (by simpa using e)]
      exact ⟨by unfold big; omega, fun t ht => absurd ht (Nat.not_lt_zero _), _, _, rfl, Nat.le_refl _, by unfold big; omega, fun h0 => absurd h0 (Nat.lt_irrefl _)⟩
end Go.Proofs.YtdaolpbpifppbaaGreat
namespace Go.Proofs.YtdaolpbpifppbaaGreat
open Go.RowKit Gf2
set_option linter.unusedVariables false

-- layer 17: McodeBackends, a round's end
/-- what a round leaves: the same for every backend. -/
structure Be17 (wb w1 w3 w4 x3 : World) (f : Int) (k m l : Nat) (X0 : Nat → Nat → Nat) (P : Nat → Bool) : Prop where
  xx : Ll (fun x => x < wb.heap.size) x3 (.slice (some ⟨w1.heap.size, 0, none⟩) (k + m) (k + m)) (k + m) (fun _ => l) (enc17 f k 0 l X0)
  yy : Ll (fun x => x < wb.heap.size) x3 (.slice (some ⟨w3.heap.size, 0, none⟩) (k + m) (k + m)) (k + m) (fun _ => l) (giv17 f k m P X0)
  zz : Ll (fun x => x < wb.heap.size) x3 (.slice (some ⟨w4.heap.size, 0, none⟩) (k + m) (k + m)) (k + m) (fun _ => l) (upx17 f k 0 l (fun i => decide (i = 0)) X0 (fun _ => X0 k) (ems (fun i => decide (i = 0)) k).length)
  bel : Below wb.heap.size wb x3
set_option maxHeartbeats 4000000 in
theorem backs_b17 {wb w1 w2 w3 w4 w5 w6 w9 wr : World} {c : Nat} {f : Int} {k m b l : Nat} {X0 Ty : Nat → Nat → Nat} {P : Nat → Bool} {Cy By : Nat → Nat} (h : Bk17 wb w1 w2 w3 w4 w5 w6 w9 c f k m b l X0 P)
    (hy : Cs w3.heap.size w4.heap.size w9 (.slice (some ⟨w3.heap.size, 0, none⟩) (k + m) (k + m)) (k + m) (fun _ => l) Cy By Ty) (hye : ∀ i, i < k + m → ∀ t, t < l → Ty i t = X0 i t)
    (hyr : wr.rowIs w3.heap.size 27 (k + m) (fun i => if P i = true then .slice none 0 0 else .slice (some ⟨By i, 0, none⟩) l (Cy i))) (ho : Only w3.heap.size w9 wr)
    (k1 : 1 ≤ k) (k2 : k ≤ 20) (m1 : 1 ≤ m) (m2 : m ≤ 12) (l1 : 1 ≤ l) (l2 : l ≤ 60) (p1 : 1 ≤ (ems P (k + m)).length) (p2 : (ems P (k + m)).length ≤ m) :
    Calls Tryz.prog 14 #[.pointer (some ⟨c, 0, none⟩), .slice (some ⟨w1.heap.size, 0, none⟩) (k + m) (k + m)] wr fun e x1 => e = .returned (.int .i64 0) ∧
    Calls Tryz.prog 19 #[.pointer (some ⟨c, 0, none⟩), .slice (some ⟨w3.heap.size, 0, none⟩) (k + m) (k + m)] x1 fun e x2 => e = .returned (.int .i64 0) ∧
    Calls Tryz.prog 23 #[.pointer (some ⟨c, 0, none⟩), .slice (some ⟨w4.heap.size, 0, none⟩) (k + m) (k + m), .slice (some ⟨w6.heap.size, 0, none⟩) k k] x2 fun e x3 => e = .returned (.int .i64 0) ∧ Be17 wb w1 w3 w4 x3 f k m l X0 P := by
  obtain ⟨⟨Cx, Bx, Tx, hx9, hxe⟩, -, ⟨Cz, Bz, Tz, hz9, hze⟩, -, hf9, ⟨Fp, ⟨FT, p, lo, hi, rows, t, hC9⟩, hFp⟩, b9, z1, z2, z3, z4, z5, z6, z7⟩ := h
  have kr : Ke (fun x => x = w3.heap.size) w9 wr := ho.kp.ke
  have hsr := ho.2.1
  have h3l := hyr.lt
  have h34 : w3.heap.size < w4.heap.size := by
    obtain ⟨g', cap', e, -, -, -, h2, -⟩ := hy.at17 (by omega)
    cases e
    exact h2
  have hxr := hx9.keep kr (fun x a b e => by omega)
  have hzr := hz9.keep kr (fun x a b e => by omega)
  have hfr := hf9.ke (kr.mono (fun x _ e => by have e' : x = w3.heap.size := e; show x < w6.heap.size; omega))
  have hCr := hC9.ke kr (fun x e hx => by have := hFp x hx; omega)
  have br := b9.trans (kr.below (B := wb.heap.size) (fun x e => by omega) b9.size)
  have px : ∀ x, Pb17 k m Bx x → w1.heap.size ≤ x ∧ x < w2.heap.size := fun x ⟨r, hr, e⟩ => by
    obtain ⟨r1, r2, -⟩ := hx9.row (k + r) (by omega)
    rw [e]; exact ⟨r1, r2⟩
  have pz : ∀ x, Pb17 k m Bz x → w4.heap.size ≤ x ∧ x < w5.heap.size := fun x ⟨r, hr, e⟩ => by
    obtain ⟨r1, r2, -⟩ := hz9.row (k + r) (by omega)
    rw [e]; exact ⟨r1, r2⟩
  have dx : ∀ x, Pb17 k m Bx x → ¬ Fp x := fun x e hx => by have := px x e; have := hFp x hx; omega
  refine (Encode17 hCr hxr dx l1).mono ?_
  rintro e x1 ⟨rfl, hE⟩
  refine ⟨rfl, ?_⟩
  have h1s := hE.ke.size
  have hC1 := hCr.ke hE.ke dx
  have hz1 := hzr.keep hE.ke (fun x a b e => by have := px x e; omega)
  have hf1 := hfr.ke (hE.ke.mono (fun x _ e => by have := px x e; show x < w6.heap.size; omega))
  have b1 := br.trans (hE.ke.below (B := wb.heap.size) (fun x e => by have := px x e; omega) br.size)
  have hy1 := hyr.of_block (hE.ke.2 _ h3l (fun e => by have := px _ e; omega))
  obtain ⟨V, hV⟩ : ∃ V : Nat → Value, V = (fun i => if P i = true then .slice none 0 0 else .slice (some ⟨By i, 0, none⟩) l (Cy i)) := ⟨_, rfl⟩
  rw [← hV] at hy1
  -- a row that is there, in any world behind
  have hrow1 : ∀ i, i < k + m → Rw x1 (By i) (Cy i) (Ty i) := fun i hi => by
    obtain ⟨r1, r2, r3, r4⟩ := hy.row i hi
    exact hE.ke.rw_ (kr.rw_ r4 (hy.ne hi)) (fun e => by have := px _ e; omega)
  have hS1 : Sh17 x1 (.slice (some ⟨w3.heap.size, 0, none⟩) (k + m) (k + m)) w3.heap.size (k + m) (k + m) l P V X0 Fp := by
    refine ⟨rfl, Nat.le_refl _, by unfold big; omega, ⟨V, hy1, fun i _ => rfl⟩, fun i hi => ?_⟩
    rw [hV]
    dsimp only
    cases hp : P i
    · rw [if_neg (by decide), if_neg (by decide)]
      obtain ⟨r1, r2, r3, -⟩ := hy.row i hi
      have hr1 := hrow1 i hi
      exact (hr1.re r3 r3 hr1.1 (fun e => e.elim (hy.ne hi) (fun e => by have := hFp _ e; omega))).congr (fun t ht => hye i hi t ht)
    · rw [if_pos rfl, if_pos rfl]
      exact ⟨by unfold big; omega, fun t ht => absurd ht (Nat.not_lt_zero _), _, _, rfl, Nat.le_refl _, by unfold big; omega, fun h0 => absurd h0 (Nat.lt_irrefl _)⟩
  refine (Reconstruct17_new hC1 hS1 (fun e => by have := hFp _ e; omega) l1 (by omega) p1 p2 (fun b x e => by cases e) (by decide) (by decide)).mono ?_
  rintro e x2 ⟨rfl, hR⟩
  refine ⟨rfl, ?_⟩
  have hRk := hR.ke
  have h2s := hRk.size
  obtain ⟨Fp', N', L', ⟨FT', p', lo', hi', rows', t', hC2⟩, hFp', -, -, -, -, B0, F, cap, V', ev, hrow, hF, hV', hB0, hnew⟩ := hR.co
  have ecap : k + m = cap := by injection ev
  have pR : ∀ x, (Fp x ∨ x = w3.heap.size) → wb.heap.size ≤ x ∧ x < w4.heap.size := fun x e => by
    rcases e with e | e
    · have := hFp x e; omega
    · omega
  have hz2 := hz1.keep hRk (fun x a b e => by have := pR x e; omega)
  have hx2 := hE.cs.keep hRk (fun x a b e => by
    rcases e with e | e
    · have := hFp x e; omega
    · omega)
  have hf2 := hf1.ke (hRk.mono (fun x _ e => by have := pR x e; show x < w6.heap.size; omega))
  have b2 := b1.trans (hRk.below (B := wb.heap.size) (fun x e => (pR x e).1) b1.size)
  have dz : ∀ x, Pb17 k m Bz x → ¬ Fp' x := fun x e hx => by
    have := pz x e
    rcases hFp' x hx with h | h
    · have := hFp x h; omega
    · omega
  refine (Update17 (Q := fun i => decide (i = 0)) (Fr := fun _ => X0 k) hC2 hz2 dz l1 (by omega) _ (hf2.mono (fun x _ e => by have := pz x e; show x < w6.heap.size; omega))).mono ?_
  rintro e x3 ⟨rfl, hU⟩
  refine ⟨rfl, ?_, ?_, ?_, b2.trans (hU.ke.below (B := wb.heap.size) (fun x e => by have := pz x e; omega) b2.size)⟩
  · refine ((hx2.keep hU.ke (fun x a b e => by have := pz x e; omega)).ll (fun x a b e => by have e' : x < wb.heap.size := e; omega)).congr (fun i hi t ht => ?_)
    show (if k ≤ i ∧ 0 ≤ t ∧ t < l then ks (par11 f k (i - k)) Tx k t else Tx i t) = (if k ≤ i ∧ 0 ≤ t ∧ t < l then ks (par11 f k (i - k)) X0 k t else X0 i t)
    by_cases c : k ≤ i ∧ 0 ≤ t ∧ t < l
    · rw [if_pos c, if_pos c]
      exact ks_congr k (fun a ha => ⟨rfl, hxe a (by omega) t ht⟩)
    · rw [if_neg c, if_neg c]
      exact hxe i hi t ht
  · have hrow3 := hrow.of_block (hU.ke.2 _ hrow.lt (fun e => by have := pz _ e; omega))
    refine ⟨F, ⟨by unfold big; omega, _, _, rfl, Nat.le_refl _, by unfold big; omega, fun _ => ⟨_, _, rfl, ⟨hrow3.lt, fun e => by have e' : w3.heap.size < wb.heap.size := e; omega⟩, fun i hi => by rw [Nat.zero_add]; exact hrow3.cell (by omega)⟩⟩, fun i hi => ?_⟩
    rw [hF i hi]
    have hVi : V' i = V i := by
      have q1 := hV' i hi
      rw [hy1.cell hi] at q1
      injection q1 with q1
      exact q1.symm
    cases hp : P i
    · have e1 : lst17 P V' B0 l (ems P (k + m)).length i = V' i := if_neg (fun x => by rw [hp] at x; cases x.1)
      rw [e1, hVi, hV]
      dsimp only
      rw [hp, if_neg (by decide)]
      obtain ⟨r1, r2, r3, -⟩ := hy.row i hi
      have hr2 := hRk.rw_ (hrow1 i hi) (fun e => e.elim (fun e => by have := hFp _ e; omega) (hy.ne hi))
      have hr3 := hU.ke.rw_ hr2 (fun e => by have := pz _ e; omega)
      refine (hr3.re r3 r3 hr3.1 (fun e => by have e' : By i < wb.heap.size := e; omega)).congr (fun t ht => (hye i hi t ht).trans ?_)
      exact (if_neg (by rw [hp]; decide)).symm
    · have hat := eN_at hi hp
      have e1 : lst17 P V' B0 l (ems P (k + m)).length i = .slice (some ⟨B0 + (ems P i).length, 0, none⟩) l l := if_pos ⟨hp, hat.1⟩
      rw [e1]
      obtain ⟨n1, -⟩ := hnew _ hat.1
      have n3 := hU.ke.rw_ n1 (fun e => by have := pz _ e; omega)
      refine (n3.re (Nat.le_refl _) (Nat.le_refl _) (by unfold big; omega) (fun e => by have e' : B0 + (ems P i).length < wb.heap.size := e; omega)).congr (fun t ht => ?_)
      exact (if_pos hp).symm
  · refine (hU.cs.ll (fun x a b e => by have e' : x < wb.heap.size := e; omega)).congr (fun i hi t ht => ?_)
    show (if k ≤ i ∧ 0 ≤ t ∧ t < l then Tz i t ^^^ _ else Tz i t) = (if k ≤ i ∧ 0 ≤ t ∧ t < l then X0 i t ^^^ _ else X0 i t)
    by_cases c : k ≤ i ∧ 0 ≤ t ∧ t < l
    · rw [if_pos c, if_pos c, hze i hi t ht, uq_congr17 f k (fun i => decide (i = 0)) Tz X0 (fun _ => X0 k) (fun _ => X0 k) (i - k) t (fun a ha _ => ⟨hze a (by omega) t ht, rfl⟩) _ (Nat.le_refl _)]
    · rw [if_neg c, if_neg c]
      exact hze i hi t ht
/-- two lists of one content. -/
theorem backs_c17 {x3 : World} {E E' : Nat → Prop} {u v : Value} {n l : Nat} {Z : Nat → Nat → Nat} (hu : Ll E x3 u n (fun _ => l) Z) (hv : Ll E' x3 v n (fun _ => l) Z) (hn : n ≤ 100) (hl : l ≤ 60) (y : World) (hy : ∃ q, y = x3.drewN q) :
    Calls Tryz.prog 15 #[u, v] y fun e w' => e = .returned (.bool true) ∧ ∃ q, w' = x3.drewN q := by
  obtain ⟨q, rfl⟩ := hy
  refine (alike17 _ _ n _ Z _ (hu.lb.ke ((Ke.refl _ x3).drewN q)) (hv.lb.ke ((Ke.refl _ x3).drewN q)) (by omega) (fun _ _ => by show l ≤ _; omega)).mono ?_
  rintro e w' ⟨he, q', rfl⟩
  exact ⟨he, _, World.drewN_drewN _ _ _⟩
end Go.Proofs.YtdaolpbpifppbaaGreat
namespace Go.Proofs.YtdaolpbpifppbaaGreat
open Go.RowKit Gf2
set_option linter.unusedVariables false

-- layer 17: McodeBackends
/-- the box of a Code. -/
def bx17 (a b c d : Int) (i : Nat) : Value := if i = 0 then .int .i64 a else if i = 1 then .int .i64 b else if i = 2 then .int .i64 c else .int .i64 d
/-- the shards that the law lays. -/
def bo17 (dn k : Nat) (D : Nat → Nat) (on : Nat) (O : Nat → Nat) (i t : Nat) : Nat := if k ≤ i ∧ i + t < on then O (i + t) else cuv17 dn k D i t
/-- laid up to row j and place u. -/
def bp17 (dn k : Nat) (D : Nat → Nat) (on : Nat) (O : Nat → Nat) (j u i t : Nat) : Nat := if i < j ∨ (i = j ∧ t < u) then bo17 dn k D on O i t else cuv17 dn k D i t
theorem wrap_sumi17 {a b : Nat} (h : a + b ≤ 1000) : IntKind.i64.wrap ((a : Int) + (b : Int)) = ((a + b : Nat) : Int) := by rw [IntKind.wrap_i64]; omega
theorem bp17_start {dn k : Nat} {D : Nat → Nat} {on : Nat} {O : Nat → Nat} (i t : Nat) : cuv17 dn k D i t = bp17 dn k D on O k 0 i t := by
  unfold bp17
  by_cases c : i < k ∨ (i = k ∧ t < 0)
  · rw [if_pos c]
    exact (if_neg (fun x => by omega)).symm
  · rw [if_neg c]
theorem bp17_row {dn k : Nat} {D : Nat → Nat} {on : Nat} {O : Nat → Nat} {j l : Nat} (i t : Nat) (ht : t < l) : bp17 dn k D on O j l i t = bp17 dn k D on O (j + 1) 0 i t := by
  unfold bp17
  by_cases c : i < j ∨ (i = j ∧ t < l)
  · rw [if_pos c, if_pos (by omega)]
  · rw [if_neg c, if_neg (by omega)]
theorem bp17_end {dn k n : Nat} {D : Nat → Nat} {on : Nat} {O : Nat → Nat} (i t : Nat) (hi : i < n) : bp17 dn k D on O n 0 i t = bo17 dn k D on O i t := if_pos (.inl hi)
theorem bp17_set {dn k : Nat} {D : Nat → Nat} {on : Nat} {O : Nat → Nat} {j u : Nat} (i t : Nat) : (if i = j ∧ t = u then bo17 dn k D on O j u else bp17 dn k D on O j u i t) = bp17 dn k D on O j (u + 1) i t := by
  unfold bp17
  by_cases c : i = j ∧ t = u
  · rw [if_pos c, if_pos (by omega), c.1, c.2]
  · rw [if_neg c]
    by_cases c2 : i < j ∨ (i = j ∧ t < u)
    · rw [if_pos c2, if_pos (by omega)]
    · rw [if_neg c2, if_neg (by omega)]
theorem bp17_no {dn k : Nat} {D : Nat → Nat} {on : Nat} {O : Nat → Nat} {j u : Nat} (hj : k ≤ j) (h : ¬ j + u < on) (i t : Nat) : bp17 dn k D on O j u i t = bp17 dn k D on O j (u + 1) i t := by
  rw [← bp17_set]
  by_cases c : i = j ∧ t = u
  · rw [if_pos c, c.1, c.2]
    unfold bp17 bo17
    rw [if_neg (by omega), if_neg (by omega)]
  · rw [if_neg c]
set_option maxHeartbeats 1000000 in
set_option maxRecDepth 100000 in
theorem backs17_any (nF nB nK nM : Int) (da : Option Addr) (dn dc : Nat) (oa : Option Addr) (on oc : Nat) (pa : Option Addr) (pn pc : Nat) (W : World) (hd : ∃ D, Rb W (.slice da dn dc) dn D) (hdn : dn ≤ 140737488351232) (hot : ∃ O, Rb W (.slice oa on oc) on O) (hon : on ≤ 140737488351232) (hp : ∃ G, Qi W (.slice pa pn pc) pn G) :
    Calls Tryz.prog 8 #[.agg #[.int .i64 nF, .int .i64 nB, .int .i64 nK, .int .i64 nM], .slice da dn dc, .slice oa on oc, .slice pa pn pc] W fun e w' => e = .returned (.bool true) ∧ Below W.heap.size W w' := by
  obtain ⟨D, hD⟩ := hd
  obtain ⟨O, hO⟩ := hot
  obtain ⟨G, hG⟩ := hp
  have i1 := ino17_in (n := nK) (lo := 1) (hi := 20) (by decide) (by decide)
  have i2 := ino17_in (n := nM) (lo := 1) (hi := 12) (by decide) (by decide)
  obtain ⟨x, hx⟩ : ∃ x, x = W.alloc (.cells #[.int .i64 nF, .int .i64 nB, .int .i64 nK, .int .i64 nM] 23) := ⟨_, rfl⟩
  have hb0 : Below W.heap.size W x := by rw [hx]; exact (Below.refl _ _).alloc (Nat.le_refl _) _
  have hrx : x.rowIs W.heap.size 23 4 (bx17 nF nB nK nM) := by
    rw [hx]
    exact World.rowIs_alloc W #[.int .i64 nF, .int .i64 nB, .int .i64 nK, .int .i64 nM] 23 (bx17 nF nB nK nM) (fun i hi => by
      match i, hi with
      | 0, _ => rfl
      | 1, _ => rfl
      | 2, _ => rfl
      | 3, _ => rfl)
  have HX : Hid (W.alloc (.cells #[.int .i64 nF, .int .i64 nB, .int .i64 nK, .int .i64 nM] 23) = x) := hx.symm
  have cM : ∀ (y : Int) (w : World), Calls Tryz.prog 10 #[.agg #[.int .i64 nF, .int .i64 y, .int .i64 nK, .int .i64 nM]] w fun e w' => ∃ c b, e = .returned (.tuple #[.pointer (some ⟨c, 0, none⟩), .int .i64 (ino17 nK 1 20 : Nat), .int .i64 (ino17 nM 1 12 : Nat)]) ∧ Md17 w w' c (ino17 nF 0 1 : Nat) (ino17 nK 1 20) (ino17 nM 1 12) b := fun y w => (made17 nF y nK nM w).mono (fun e w' ⟨c, h1, h2⟩ => ⟨c, _, h1, h2⟩)
  generalize ino17 nK 1 20 = k at *
  generalize ino17 nM 1 12 = m at *
  generalize ((ino17 nF 0 1 : Nat) : Int) = f at *
  obtain ⟨l, hl⟩ : ∃ l, l = cul17 dn k := ⟨_, rfl⟩
  have hl2 := cul17_in dn k
  rw [← hl] at hl2
  have hcp := ino17_in (n := (pn : Int)) (lo := 1) (hi := m) i2.1 (by omega)
  have c6 : ∀ y, Calls Tryz.prog 18 #[.int .i64 (pn : Int), .int .i64 1, .int .i64 (m : Int)] y fun e w' => e = .returned (.int .i64 (ino17 (pn : Int) 1 m : Nat)) ∧ w' = y := fun y => into17 (pn : Int) 1 m y i2.1 (by omega)
  generalize ino17 (pn : Int) 1 m = cp at *
  have c3 : ∀ w1, Below W.heap.size W w1 → Calls Tryz.prog 12 #[.slice da dn dc, .int .i64 (k : Int), .int .i64 (m : Int), .int .i64 60] w1 fun e w2 => e = .returned (.slice (some ⟨w1.heap.size, 0, none⟩) (k + m) (k + m)) ∧ Cs w1.heap.size w2.heap.size w2 (.slice (some ⟨w1.heap.size, 0, none⟩) (k + m) (k + m)) (k + m) (fun _ => l) (fun _ => l) (fun i => w1.heap.size + 1 + i) (bp17 dn k D on O k 0) ∧ Below w1.heap.size w1 w2 := fun w1 hb => by
    refine (cut17 (.slice da dn dc) dn k m D w1 (hD.below hb) i1.1 (by omega) hdn).mono ?_
    rintro e w2 ⟨rfl, hT⟩
    rw [← hl] at hT
    exact ⟨rfl, (hT.cs (by unfold big; omega)).congr (fun i _ t _ => bp17_start i t), hT.bel⟩
  have HC3 : Hid _ := c3
  have HcM : Hid _ := cM
  have Hc6 : Hid _ := c6
  obtain ⟨P, hP⟩ : ∃ P, P = pk17 (k + m) (pg17 pn G) cp := ⟨_, rfl⟩
  have HP : Hid (P = pk17 (k + m) (pg17 pn G) cp ∧ 1 ≤ (ems P (k + m)).length ∧ (ems P (k + m)).length ≤ m ∧ cp ≤ k + m) := by
    refine ⟨hP, ?_⟩
    rw [hP, pk17_len (by omega) _ (by omega)]
    omega
  have HI : Hid (1 ≤ k ∧ k ≤ 20 ∧ 1 ≤ m ∧ m ≤ 12 ∧ 1 ≤ l ∧ l ≤ 60 ∧ Rb W (.slice oa on oc) on O ∧ on ≤ 140737488351232 ∧ Qi W (.slice pa pn pc) pn G) := ⟨i1.1, i1.2, i2.1, i2.2, hl2.1, hl2.2, hO, hon, hG⟩
  have HB0 : Hid (Below W.heap.size W x ∧ x.rowIs W.heap.size 23 4 (bx17 nF nB nK nM)) := ⟨hb0, hrx⟩
  have c2 := fun w => awake17 w
  have HW2 : Hid (wrap64 ((k : Int) + (m : Int)) = (k : Int) + (m : Int)) := wrap_add8 (by omega)
  clear c3 cM c6 i1 i2 hl hl2 hb0 hrx hx hD hG hO hdn hon hcp hP
  go_enter Tryz.func8, Tryz.ntmps8
  go_wp2_with (go_at_call 11; rw [HX.out]; (with_reducible refine (c2 _).mono ?_); rintro e w0 ⟨rfl, hb2⟩; clear c2; have HB2 : Hid (Below x.heap.size x w0) := hb2; clear hb2)
  go_loopw [9, 10, 11, 12] (fun s9 s10 s11 s12 wr => ∃ bk : Nat, bk ≤ 3 ∧ s12 = .int .i64 bk ∧ (∃ y, wr.rowIs W.heap.size 23 4 (bx17 nF y nK nM)) ∧ Below W.heap.size W wr ∧ (0 < bk → Ll (fun x => x = W.heap.size) wr s9 (k + m) (fun _ => l) (enc17 f k 0 l (bo17 dn k D on O)) ∧ Ll (fun x => x = W.heap.size) wr s10 (k + m) (fun _ => l) (giv17 f k m P (bo17 dn k D on O)) ∧ Ll (fun x => x = W.heap.size) wr s11 (k + m) (fun _ => l) (upx17 f k 0 l (fun i => decide (i = 0)) (bo17 dn k D on O) (fun _ => bo17 dn k D on O k) (ems (fun i => decide (i = 0)) k).length))) (fun _ _ _ s12 _ => 3 - (intOf s12).toNat)
  case atStart => exact ⟨0, by decide, rfl, ⟨nB, HB0.out.2.of_block (HB2.out.block _ HB0.out.2.lt)⟩, HB0.out.1.trans (HB2.out.mono HB0.out.1.size), fun h => absurd h (Nat.lt_irrefl _)⟩
  case round =>
    obtain ⟨bk, hbk, rfl, ⟨y, hrow⟩, hbW, hK⟩ := hrel
    by_cases hlt : bk < 3
    · generalize hwo : wr = wo at hrow hbW hK ⊢
      clear hwo wr
      have q0 := hrow.cell (i := 1) (by decide)
      have qf := hrow.frozen 1
      obtain ⟨wb, hwb⟩ : ∃ wb, wo.setCell ⟨W.heap.size, 1, none⟩ (.int .i64 (bk : Int)) = wb := ⟨_, rfl⟩
      have HWb : Hid (wo.setCell ⟨W.heap.size, 1, none⟩ (.int .i64 (bk : Int)) = wb) := hwb
      have ob : Only W.heap.size wo wb := by rw [← hwb]; exact (Only.refl _ _).setCell _ _
      have hrb : wb.rowIs W.heap.size 23 4 (bx17 nF (bk : Int) nK nM) := by
        rw [← hwb]
        exact (hrow.set 1 _).congr (fun i hi => by
          match i, hi with
          | 0, _ => rfl
          | 1, _ => rfl
          | 2, _ => rfl
          | 3, _ => rfl)
      have bWb : Below W.heap.size W wb := hbW.trans (ob.below (Nat.le_refl _))
      have z0 : (wo.setCell ⟨W.heap.size, 1, none⟩ (.int .i64 (bk : Int))).cell? ⟨W.heap.size, 0, none⟩ = some (.int .i64 nF) := by rw [hwb]; exact hrb.cell (i := 0) (by decide)
      have z1 : (wo.setCell ⟨W.heap.size, 1, none⟩ (.int .i64 (bk : Int))).cell? ⟨W.heap.size, 1, none⟩ = some (.int .i64 (bk : Int)) := by rw [hwb]; exact hrb.cell (i := 1) (by decide)
      have z2 : (wo.setCell ⟨W.heap.size, 1, none⟩ (.int .i64 (bk : Int))).cell? ⟨W.heap.size, 2, none⟩ = some (.int .i64 nK) := by rw [hwb]; exact hrb.cell (i := 2) (by decide)
      have z3 : (wo.setCell ⟨W.heap.size, 1, none⟩ (.int .i64 (bk : Int))).cell? ⟨W.heap.size, 3, none⟩ = some (.int .i64 nM) := by rw [hwb]; exact hrb.cell (i := 3) (by decide)
      have HK : Hid (0 < bk → Ll (fun x => x = W.heap.size) wb u9 (k + m) (fun _ => l) (enc17 f k 0 l (bo17 dn k D on O)) ∧ Ll (fun x => x = W.heap.size) wb u10 (k + m) (fun _ => l) (giv17 f k m P (bo17 dn k D on O)) ∧ Ll (fun x => x = W.heap.size) wb u11 (k + m) (fun _ => l) (upx17 f k 0 l (fun i => decide (i = 0)) (bo17 dn k D on O) (fun _ => bo17 dn k D on O k) (ems (fun i => decide (i = 0)) k).length)) := fun h => ⟨(hK h).1.ke ob.kp.ke, (hK h).2.1.ke ob.kp.ke, (hK h).2.2.ke ob.kp.ke⟩
      have HBb : Hid (Below W.heap.size W wb ∧ wb.rowIs W.heap.size 23 4 (bx17 nF (bk : Int) nK nM) ∧ bk < 3) := ⟨bWb, hrb, hlt⟩
      have ib : ((bk : Nat) : Int) < 3 := by omega
      have c1 := HcM.out (bk : Int) wb
      clear hrow hbW hK hwb ob hrb bWb hbk hlt
      have bxv : bx17 nF y nK nM 1 = .int .i64 y := rfl
      rw [bxv] at q0
      go_wp2_with (first
        | (go_at_call 10; rw [HWb.out]; (with_reducible refine c1.mono ?_); rintro e w1 ⟨c, b, rfl, hM⟩; clear c1 z0 z1 z2 z3 q0 qf; have c3 := HC3.out w1 (HBb.out.1.trans (hM.bel.mono HBb.out.1.size)); have HM : Hid _ := hM; clear hM)
        | (go_at_call 12; (with_reducible refine c3.mono ?_); rintro e w2 ⟨rfl, hcs2, hb12⟩; clear c3; have HS2 : Hid _ := And.intro hcs2 hb12; clear hcs2 hb12))
      go_loopw [17, 18] (fun s17 s18 wr => ∃ j : Nat, k ≤ j ∧ j ≤ k + m ∧ s17 = .int .i64 j ∧ Cs w1.heap.size w2.heap.size wr (.slice (some ⟨w1.heap.size, 0, none⟩) (k + m) (k + m)) (k + m) (fun _ => l) (fun _ => l) (fun i => w1.heap.size + 1 + i) (bp17 dn k D on O j 0) ∧ Ke (fun y => w1.heap.size ≤ y ∧ y < w2.heap.size) w2 wr) (fun s17 _ _ => k + m - (intOf s17).toNat)
      case atStart => exact ⟨k, Nat.le_refl _, Nat.le_add_right _ _, rfl, HS2.out.1, Ke.refl _ _⟩
      case round =>
        obtain ⟨j, hkj, hj, rfl, hcs, hke⟩ := hrel
        by_cases hlt : j < k + m
        · generalize hwp : wr = wp at hcs hke ⊢
          clear hwp wr
          have HJ : Hid (j < k + m ∧ k ≤ j ∧ k + m ≤ 256) := ⟨hlt, hkj, by have := HI.out; omega⟩
          have ib3 : ((j : Nat) : Int) < (k : Int) + (m : Int) := by omega
          have ha := And.intro hcs hke
          have HA : Hid _ := ha
          clear ha hcs hke hkj hj hlt
          have W2 := HW2.out
          go_wp2
          clear W2
          go_loopw [18] (fun s18 wr => ∃ t : Nat, t ≤ l ∧ s18 = .int .i64 t ∧ Cs w1.heap.size w2.heap.size wr (.slice (some ⟨w1.heap.size, 0, none⟩) (k + m) (k + m)) (k + m) (fun _ => l) (fun _ => l) (fun i => w1.heap.size + 1 + i) (bp17 dn k D on O j t) ∧ Ke (fun y => w1.heap.size ≤ y ∧ y < w2.heap.size) w2 wr) (fun s18 _ => l - (intOf s18).toNat)
          case atStart => exact ⟨0, Nat.zero_le _, rfl, HA.out.1, HA.out.2⟩
          case round =>
            obtain ⟨t, ht, rfl, hcs, hke⟩ := hrel
            have q1 : wr.cell? ⟨w1.heap.size, j, none⟩ = some (.slice (some ⟨w1.heap.size + 1 + j, 0, none⟩) l l) := hcs.at_ HJ.out.1
            by_cases htl : t < l
            · have HTt : Hid (t < l ∧ l ≤ 60) := ⟨htl, HI.out.2.2.2.2.2.1⟩
              have ib2 : ((t : Nat) : Int) < (l : Int) := by omega
              obtain ⟨xx, hxx⟩ : ∃ xx, xx = j + t := ⟨_, rfl⟩
              have hs1 : j + t ≤ 1000 := by have := HJ.out; have := HTt.out; omega
              have HWP : Hid (wrap64 ((j : Int) + (t : Int)) = (xx : Int) ∧ IntKind.i64.wrap ((j : Int) + (t : Int)) = (xx : Int)) := by show _ = _ ∧ _ = _; rw [hxx]; exact ⟨wrap_sum17 hs1, wrap_sumi17 hs1⟩
              have HW1 : Hid _ := wrap_succ8 (j := t) (by have := HTt.out; unfold big; omega)
              by_cases hxn : xx < on
              · have hbW : Below W.heap.size W wr := ((HBb.out.1.trans (HM.out.bel.mono HBb.out.1.size)).trans (HS2.out.2.mono (Nat.le_trans HBb.out.1.size HM.out.bel.size))).trans (hke.below (B := W.heap.size) (fun z e => Nat.le_trans (Nat.le_trans HBb.out.1.size HM.out.bel.size) e.1) (Nat.le_trans (Nat.le_trans HBb.out.1.size HM.out.bel.size) HS2.out.2.size))
                have q2 := hcs.cell_ (i := j) (j := t) HJ.out.1 htl
                have q3 := hcs.froz (i := j) HJ.out.1 t
                obtain ⟨-, hO256, a', c', e', -, -, h4⟩ := HI.out.2.2.2.2.2.2.1.below hbW
                cases e'
                obtain ⟨db, dof, rfl, -, hdc⟩ := h4 (by omega)
                have qd := hdc xx hxn
                obtain ⟨y1, hy1⟩ : ∃ y1, y1 = O xx := ⟨_, rfl⟩
                have hy256 : y1 < 256 := by rw [hy1]; exact hO256 xx hxn
                have hbo : bo17 dn k D on O j t = y1 := by
                  unfold bo17
                  rw [if_pos ⟨HJ.out.2.1, by rw [← hxx]; exact hxn⟩, ← hxx, hy1]
                rw [← hy1] at qd
                have q1' : wr.drew.cell? ⟨w1.heap.size, j, none⟩ = some (.slice (some ⟨w1.heap.size + 1 + j, 0, none⟩) l l) := q1
                have qd' : wr.drew.cell? ⟨db, dof + xx, none⟩ = some (.int .u8 (y1 : Nat)) := qd
                have HE : Hid (Cs w1.heap.size w2.heap.size (wr.setCell ⟨w1.heap.size + 1 + j, t, none⟩ (.int .u8 (y1 : Nat))).drew (.slice (some ⟨w1.heap.size, 0, none⟩) (k + m) (k + m)) (k + m) (fun _ => l) (fun _ => l) (fun i => w1.heap.size + 1 + i) (bp17 dn k D on O j (t + 1)) ∧ Ke (fun y => w1.heap.size ≤ y ∧ y < w2.heap.size) w2 (wr.setCell ⟨w1.heap.size + 1 + j, t, none⟩ (.int .u8 (y1 : Nat))).drew) := by
                  have hr := hcs.row j HJ.out.1
                  refine ⟨((hcs.set HJ.out.1 t y1 hy256).drew).congr (fun i hi z hz => ?_), (hke.trans ((((Only.refl (w1.heap.size + 1 + j) wr).setCell t _).kp.ke).mono (fun x _ e => by have e' : x = w1.heap.size + 1 + j := e; rw [e']; exact ⟨hr.1, hr.2.1⟩))).drew⟩
                  show (if i = j ∧ z = t then y1 else bp17 dn k D on O j t i z) = _
                  rw [← hbo]
                  exact bp17_set i z
                have jb : ((xx : Nat) : Int) < (on : Int) := by omega
                clear hcs hke hbW h4 hdc hO256 hy1 hbo hxx hs1 qd
                obtain ⟨WP, WP2⟩ := HWP.out
                have W5 := HW1.out
                go_wp2
                refine region_planT (fun w' => w'.cell? ⟨w1.heap.size, j, none⟩ = some (.slice (some ⟨w1.heap.size + 1 + j, 0, none⟩) l l) ∧ w'.cell? ⟨db, dof + xx, none⟩ = some (.int .u8 (y1 : Nat))) 12 [12] 154 ⟨q1', qd'⟩ (by kernel_rfl) (by kernel_rfl) (fun _ a d v _ h => by cases d <;> exact h) ?_
                refine planT_last ?Ad rfl (fun w' hS => ?sd) rfl ?nd
                case sd =>
                  obtain ⟨v0, v1⟩ := hS
                  simp only [List.take_succ_cons, List.take_zero]
                  repeat still_step
                  exact rfl
                case nd =>
                simp only [List.drop_succ_cons, List.drop_zero]
                go_wp2
                go_roundw
                case rel => exact ⟨t + 1, HTt.out.1, by first | rfl | (rw [W5]; rfl), HE.out.1, HE.out.2⟩
                case measure => first | exact meas_lt8 HTt.out.1 | (rw [W5]; exact meas_lt8 HTt.out.1)
              · have ha := And.intro (hcs.congr (T := bp17 dn k D on O j (t + 1)) (fun i hi z hz => bp17_no HJ.out.2.1 (by rw [← hxx]; exact hxn) i z)) hke
                have HE : Hid _ := ha
                have jb : ¬ ((xx : Nat) : Int) < (on : Int) := by omega
                clear ha hcs hke hxx hs1
                obtain ⟨WP, WP2⟩ := HWP.out
                have W5 := HW1.out
                go_wp2
                go_roundw
                case rel => exact ⟨t + 1, HTt.out.1, by first | rfl | (rw [W5]; rfl), HE.out.1, HE.out.2⟩
                case measure => first | exact meas_lt8 HTt.out.1 | (rw [W5]; exact meas_lt8 HTt.out.1)
            · have htl2 : t = l := by omega
              rw [htl2] at hcs
              have htn : ¬ ((t : Nat) : Int) < (l : Int) := by omega
              have ha := And.intro (hcs.congr (T := bp17 dn k D on O (j + 1) 0) (fun i hi z hz => bp17_row i z hz)) hke
              have HE : Hid _ := ha
              have W1 := wrap_succ8 (j := j) (by have := HJ.out; unfold big; omega)
              clear ha hcs hke ht htl htl2
              go_wp2
              go_roundw
              case rel => exact ⟨j + 1, Nat.le_succ_of_le HJ.out.2.1, HJ.out.1, by first | rfl | (rw [W1]; rfl), HE.out.1, HE.out.2⟩
              case measure => first | exact meas_lt8 HJ.out.1 | (rw [W1]; exact meas_lt8 HJ.out.1)
        · have hjk : j = k + m := by omega
          generalize hw3 : wr = w3 at hcs hke ⊢
          clear hw3 wr
          rw [hjk] at hcs
          have htn : ¬ ((j : Nat) : Int) < (k : Int) + (m : Int) := by omega
          obtain ⟨Fp, ⟨FT, p, lo, hi, rows, t, hC1⟩, hFp⟩ := HM.out.co
          have hC3 := (hC1.below HS2.out.2).ke hke (fun z e hx => by have := hFp z hx; omega)
          have hsz1 := HM.out.bel.size
          have hsz2 := HS2.out.2.size
          have bb3 : Below wb.heap.size wb w3 := (HM.out.bel.trans (HS2.out.2.mono hsz1)).trans (hke.below (B := wb.heap.size) (fun z e => by omega) (by omega))
          have d1 := backs_a17 (cp := cp) (X0 := bo17 dn k D on O) (HI.out.2.2.2.2.2.2.2.2.below HBb.out.1) ⟨_, _, _, _, _, _, hC3⟩ hFp bb3 hcs (fun i hi t ht => bp17_end i t hi) hsz1 hsz2 hke.size HI.out.1 HI.out.2.1 HI.out.2.2.1 HI.out.2.2.2.1 HI.out.2.2.2.2.2.1 HP.out.2.2.2
          rw [← HP.out.1] at d1
          have hmk := make_rows k (by have := HI.out; omega)
          have c6 := Hc6.out
          have hi0 : (0 : Int) < (k : Int) := by have := HI.out; omega
          have ik : (k : Int) < (k : Int) + (m : Int) := by have := HI.out; omega
          clear hcs hke hC1 hFp hC3 hsz1 hsz2 bb3 hjk hkj hj hlt
          have W2 := HW2.out
          go_wp2_with (first
            | (go_at_call 13; (with_reducible refine d1.mono ?_); rintro e w4 ⟨rfl, d2⟩; clear d1)
            | (go_at_call 13; (with_reducible refine d2.mono ?_); rintro e w5 ⟨rfl, d3⟩; clear d2)
            | (go_at_call 18; (with_reducible refine (c6 _).mono ?_); rintro e w99 ⟨rfl, hw9⟩; have hw9 := hw9.symm; subst hw9; clear c6)
            | (go_at_call 17; (with_reducible refine d3.mono ?_); rintro e w6 ⟨rfl, d4⟩; clear d3; obtain ⟨hz7, gk, ck, w8, g, cf, qk, hrun, qf0, qff, hbk9⟩ := d4 _ rfl; rw [hz7] at hrun; have hb9 := hbk9 _ rfl; have HB9 : Hid _ := hb9; clear hbk9 hz7 d4 hb9)
            | (at_builtin; refine Lib.wpList_append_run _ rfl _ _ _ _ rfl _ _ rfl rfl _ _ hrun ?_; clear hrun qk))
          clear hmk hi0 ik qf0 qff W2
          generalize hw9 : w8.setCell ⟨w6.heap.size, 0, none⟩ (.slice (some ⟨g, 0, none⟩) l cf) = w9 at HB9 ⊢
          clear hw9
          obtain ⟨Cy, By, Ty, hy9, hye9, hyr9⟩ := HB9.out.yy
          have hy := And.intro hy9 hye9
          have HY9 : Hid _ := hy
          clear hy hy9 hye9
          go_loopw [23] (fun s23 wr => ∃ j : Nat, j ≤ k + m ∧ s23 = .int .i64 j ∧ Only w3.heap.size w9 wr ∧ wr.rowIs w3.heap.size 27 (k + m) (fun i => if i < j ∧ P i = true then .slice none 0 0 else .slice (some ⟨By i, 0, none⟩) l (Cy i))) (fun s23 _ => k + m - (intOf s23).toNat)
          case atStart => exact ⟨0, Nat.zero_le _, rfl, Only.refl _ _, hyr9.congr (fun i _ => (if_neg (fun h => Nat.not_lt_zero _ h.1)).symm)⟩
          case round =>
            clear hyr9
            obtain ⟨i, hi, rfl, ho, hr⟩ := hrel
            by_cases hlt : i < k + m
            · have HJ : Hid (i < k + m ∧ k + m ≤ 256) := ⟨hlt, by have := HI.out; omega⟩
              have ib3 : ((i : Nat) : Int) < (k : Int) + (m : Int) := by omega
              have qo : wr.cell? ⟨w5.heap.size, i, none⟩ = some (.bool (P i)) := (ho.kp.ke.cell HB9.out.pp.lt (by have := HB9.out.sz; have := HY9.out.1.at17 (by omega); obtain ⟨g', cap', e, -, -, -, h2, -⟩ := this; cases e; omega)).trans (HB9.out.pp.cell hlt)
              have W1 := wrap_succ8 (j := i) (by have := HJ.out; unfold big; omega)
              cases hp : P i
              · rw [hp] at qo
                have hr2 := hr.congr (g := fun z => if z < i + 1 ∧ P z = true then .slice none 0 0 else .slice (some ⟨By z, 0, none⟩) l (Cy z)) (fun z hz => by
                  by_cases e : z = i
                  · subst e; rw [if_neg (fun x => Nat.lt_irrefl _ x.1), if_neg (fun x => by rw [hp] at x; cases x.2)]
                  · exact if_iff17 ⟨fun x => ⟨by omega, x.2⟩, fun x => ⟨by omega, x.2⟩⟩ _ _)
                have ha := And.intro ho hr2
                have HE : Hid _ := ha
                clear ha hr2 hr ho hp hi hlt
                have W2 := HW2.out
                go_wp2
                go_roundw
                case rel => exact ⟨i + 1, HJ.out.1, by first | rfl | (rw [W1]; rfl), HE.out.1, HE.out.2⟩
                case measure => first | exact meas_lt8 HJ.out.1 | (rw [W1]; exact meas_lt8 HJ.out.1)
              · rw [hp] at qo
                have q2 := hr.cell hlt
                rw [if_neg (fun x => Nat.lt_irrefl _ x.1)] at q2
                have q3 := hr.frozen i
                have hr2 := (hr.set i (.slice none 0 0)).congr (g := fun z => if z < i + 1 ∧ P z = true then .slice none 0 0 else .slice (some ⟨By z, 0, none⟩) l (Cy z)) (fun z hz => by
                  by_cases e : z = i
                  · subst e; rw [if_pos rfl, if_pos ⟨Nat.lt_succ_self _, hp⟩]
                  · rw [if_neg e]; exact if_iff17 ⟨fun x => ⟨by omega, x.2⟩, fun x => ⟨by omega, x.2⟩⟩ _ _)
                have ha := And.intro (ho.setCell i (.slice none 0 0)) hr2
                have HE : Hid _ := ha
                clear ha hr2 hr ho hp hi hlt
                have W2 := HW2.out
                go_wp2
                go_roundw
                case rel => exact ⟨i + 1, HJ.out.1, by first | rfl | (rw [W1]; rfl), HE.out.1, HE.out.2⟩
                case measure => first | exact meas_lt8 HJ.out.1 | (rw [W1]; exact meas_lt8 HJ.out.1)
            · have htn2 : ¬ ((i : Nat) : Int) < (k : Int) + (m : Int) := by omega
              have hr2 := hr.congr (g := fun z => if P z = true then .slice none 0 0 else .slice (some ⟨By z, 0, none⟩) l (Cy z)) (fun z hz => if_iff17 ⟨fun x => x.2, fun x => ⟨by omega, x⟩⟩ _ _)
              have d1 := backs_b17 HB9.out HY9.out.1 HY9.out.2 hr2 ho HI.out.1 HI.out.2.1 HI.out.2.2.1 HI.out.2.2.2.1 HI.out.2.2.2.2.1 HI.out.2.2.2.2.2.1 HP.out.2.1 HP.out.2.2.1
              have W1 := wrap_succ8 (j := bk) (by have := HBb.out.2.2; unfold big; omega)
              have HE1 : Hid (∀ x3, Be17 wb w1 w3 w4 x3 f k m l (bo17 dn k D on O) P → (∃ y, x3.rowIs W.heap.size 23 4 (bx17 nF y nK nM)) ∧ Below W.heap.size W x3) := fun x3 hBe => ⟨⟨_, HBb.out.2.1.of_block (hBe.bel.block _ HBb.out.2.1.lt)⟩, HBb.out.1.trans (hBe.bel.mono HBb.out.1.size)⟩
              have hWb := HBb.out.2.1.lt
              have HWlt : Hid (W.heap.size < wb.heap.size) := hWb
              clear hr hr2 ho hi hlt hWb
              by_cases hb0 : bk = 0
              · have hz : ((bk : Nat) : Int) = 0 := by omega
                have hzb : (((bk : Nat) : Int) == 0) = true := by rw [hz]; rfl
                have W2 := HW2.out
                go_wp2_with (first
                  | (go_at_call 14; (with_reducible refine d1.mono ?_); rintro e x1 ⟨rfl, d2⟩; clear d1)
                  | (go_at_call 19; (with_reducible refine d2.mono ?_); rintro e x2 ⟨rfl, d3⟩; clear d2)
                  | (go_at_call 23; (with_reducible refine d3.mono ?_); rintro e x3 ⟨rfl, hBe⟩; clear d3; have HBe : Hid _ := hBe; clear hBe))
                go_roundw
                case rel => exact ⟨bk + 1, HBb.out.2.2, by first | rfl | (rw [hb0]; rfl) | (rw [W1]; rfl), (HE1.out _ HBe.out).1, (HE1.out _ HBe.out).2, fun _ => ⟨HBe.out.xx.mono (fun z _ e => by have e' : z = W.heap.size := e; have := HWlt.out; show z < wb.heap.size; omega), HBe.out.yy.mono (fun z _ e => by have e' : z = W.heap.size := e; have := HWlt.out; show z < wb.heap.size; omega), HBe.out.zz.mono (fun z _ e => by have e' : z = W.heap.size := e; have := HWlt.out; show z < wb.heap.size; omega)⟩⟩
                case measure => first | exact meas_lt8 HBb.out.2.2 | (rw [W1]; exact meas_lt8 HBb.out.2.2) | (subst hb0; decide) | (simp [intOf]; omega)
              · have hz : ¬ ((bk : Nat) : Int) = 0 := by omega
                have hzb : (((bk : Nat) : Int) == 0) = false := by simpa using hb0
                have hk := HK.out (Nat.pos_of_ne_zero hb0)
                have HK2 : Hid _ := hk
                clear hk
                have W2 := HW2.out
                go_wp2_with (first
                  | (go_at_call 14; (with_reducible refine d1.mono ?_); rintro e x1 ⟨rfl, d2⟩; clear d1)
                  | (go_at_call 19; (with_reducible refine d2.mono ?_); rintro e x2 ⟨rfl, d3⟩; clear d2)
                  | (go_at_call 23; (with_reducible refine d3.mono ?_); rintro e x3 ⟨rfl, hBe⟩; clear d3; have HBe : Hid _ := hBe; clear hBe; have kb := ke_below HBe.out.bel (fun x => x = W.heap.size); have a1 := HK2.out.1.ke kb; have a2 := HK2.out.2.1.ke kb; have a3 := HK2.out.2.2.ke kb; have HK3 : Hid _ := And.intro a1 (And.intro a2 a3); have e1 := backs_c17 a1 HBe.out.xx (by have := HI.out; omega) HI.out.2.2.2.2.2.1; have e2 := backs_c17 a2 HBe.out.yy (by have := HI.out; omega) HI.out.2.2.2.2.2.1; have e3 := backs_c17 a3 HBe.out.zz (by have := HI.out; omega) HI.out.2.2.2.2.2.1; clear kb a1 a2 a3)
                  | (go_at_call 15; (with_reducible refine (e1 x3 ⟨0, rfl⟩).mono ?_); rintro e y1 ⟨rfl, hy1⟩; clear e1)
                  | (go_at_call 15; (with_reducible refine (e2 _ hy1).mono ?_); rintro e y2 ⟨rfl, hy2⟩; clear e2 hy1)
                  | (go_at_call 15; (with_reducible refine (e3 _ hy2).mono ?_); rintro e y3 ⟨rfl, hy3⟩; clear e3 hy2))
                have HY3 : Hid _ := hy3
                clear hy3
                go_roundw
                case rel =>
                  obtain ⟨q, hq⟩ := HY3.out
                  obtain ⟨⟨y', r1⟩, r2⟩ := HE1.out _ HBe.out
                  rw [hq]
                  exact ⟨bk + 1, HBb.out.2.2, by first | rfl | (rw [W1]; rfl), ⟨y', r1⟩, below_drewN r2 q, fun _ => ⟨HK3.out.1.ke ((Ke.refl _ x3).drewN q), HK3.out.2.1.ke ((Ke.refl _ x3).drewN q), HK3.out.2.2.ke ((Ke.refl _ x3).drewN q)⟩⟩
                case measure => first | exact meas_lt8 HBb.out.2.2 | (rw [W1]; exact meas_lt8 HBb.out.2.2)
    · have htn : ¬ ((bk : Nat) : Int) < 3 := by omega
      have Hw : Hid (Below W.heap.size W wr) := hbW
      clear hrow hbW hK hbk hlt
      go_wp2
      go_ret
      exact ⟨rfl, Hw.out⟩
end Go.Proofs.YtdaolpbpifppbaaGreat
