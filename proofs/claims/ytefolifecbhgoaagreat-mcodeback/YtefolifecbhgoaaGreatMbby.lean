import Derived.Test.YtefolifecbhgoaaGreatMbbv
import Derived.Test.YtefolifecbhgoaaGreatMbbx
namespace Go.Proofs.YtefolifecbhgoaaGreat
open Go.RowKit Gf2
set_option linter.unusedVariables false


abbrev sl17 (g n : Nat) : Value := .slice (some ⟨g, 0, none⟩) n n
structure Ga17 (w0 w1 w3 w4 w : World) (c : Nat) (Fp : Nat → Prop) (f : Int) (k m b l N : Nat) (L : List (Nat × Ent)) : Prop where
  co : Cd w c Fp f k m b N L
  xx : ∃ C B T, Cs w0.heap.size w1.heap.size w (sl17 w0.heap.size (k + m)) (k + m) (fun _ => l) C B T
  ff : ∃ C B T, Cs w3.heap.size w4.heap.size w (sl17 w3.heap.size (k + m)) (k + m) (fun _ => l) C B T ∧ Cw17 f k m 0 l T
  bel : Below w0.heap.size w0 w
  sz : w0.heap.size < w1.heap.size ∧ w1.heap.size ≤ w3.heap.size ∧ w3.heap.size < w4.heap.size
def Bn17 (k m l : Nat) : Prop := 1 ≤ k ∧ k ≤ 20 ∧ 1 ≤ m ∧ m ≤ 12 ∧ 1 ≤ l ∧ l ≤ 60
theorem Cs.lts17 {lo hi w v m n C B S} (h : Cs lo hi w v m n C B S) (h0 : 0 < m) : lo < hi := by
  obtain ⟨g, cap, -, -, -, h1, h2, -⟩ := h.at17 h0
  omega
theorem pb_in17 {lo hi : Nat} {w : World} {v : Value} {k m : Nat} {n C B : Nat → Nat} {S : Nat → Nat → Nat} (h : Cs lo hi w v (k + m) n C B S) : ∀ x, Pb17 k m B x → lo ≤ x ∧ x < hi := fun x ⟨r, hr, e⟩ => by
  obtain ⟨r1, r2, -⟩ := h.row (k + r) (by omega)
  rw [e]; exact ⟨r1, r2⟩
theorem cw_congr17 {f : Int} {k m l : Nat} {S T : Nat → Nat → Nat} (h : Cw17 f k m 0 l S) (e : ∀ i, i < k + m → ∀ t, t < l → T i t = S i t) : Cw17 f k m 0 l T := fun r hr j h1 h2 => by
  rw [e (k + r) (by omega) j h2, h r hr j h1 h2]
  exact ks_congr k (fun i hi => ⟨rfl, (e i (by omega) j h2).symm⟩)
set_option maxHeartbeats 2000000 in
theorem again_a17 {w0 : World} {c : Nat} {Fp : Nat → Prop} {f : Int} {k m b l N : Nat} {L : List (Nat × Ent)} {v : Value} {S : Nat → Nat → Nat} (hC : Cd w0 c Fp f k m b N L) (hS : Lb w0 v (k + m) (fun _ => l) S) (hb : Bn17 k m l) :
    Calls Tryz.prog 10 #[v] w0 fun e w1 => e = .returned (sl17 w0.heap.size (k + m)) ∧
    Calls Tryz.prog 11 #[.pointer (some ⟨c, 0, none⟩), sl17 w0.heap.size (k + m)] w1 fun e w2 => e = .returned (.int .i64 0) ∧
    Calls Tryz.prog 11 #[.pointer (some ⟨c, 0, none⟩), sl17 w0.heap.size (k + m)] w2 fun e w3 => e = .returned (.int .i64 0) ∧
    Calls Tryz.prog 10 #[sl17 w0.heap.size (k + m)] w3 fun e w4 => e = .returned (sl17 w3.heap.size (k + m)) ∧ Ga17 w0 w1 w3 w4 w4 c Fp f k m b l N L := by
  obtain ⟨FT, p, lo, hi, rows, t, hC⟩ := hC
  obtain ⟨k1, k2, m1, m2, l1, l2⟩ := hb
  refine (copied17 v (k + m) (fun _ => l) S w0 hS (by omega) (fun _ _ => by show l ≤ _; omega)).mono ?_
  rintro e w1 ⟨rfl, hQ⟩
  refine ⟨rfl, ?_⟩
  obtain ⟨C, B, T, hx, -, -⟩ := hQ.cs
  have b1 := hQ.bel
  have z1 := hx.lts17 (by omega)
  have px := pb_in17 hx
  have dx : ∀ x, Pb17 k m B x → ¬ Fp x := fun x e h => by have := px x e; have := hC.lt x h; omega
  refine (Encode17 (hC.below b1) hx dx l1).mono ?_
  rintro e w2 ⟨rfl, hE⟩
  refine ⟨rfl, ?_⟩
  have hC2 := (hC.below b1).ke hE.ke dx
  have b2 := b1.trans (hE.ke.below (B := w0.heap.size) (fun x e => (px x e).1) b1.size)
  refine (Encode17 hC2 hE.cs dx l1).mono ?_
  rintro e w3 ⟨rfl, hE2⟩
  refine ⟨rfl, ?_⟩
  have hC3 := hC2.ke hE2.ke dx
  have b3 := b2.trans (hE2.ke.below (B := w0.heap.size) (fun x e => (px x e).1) b2.size)
  refine (copied17 _ (k + m) (fun _ => l) _ w3 hE2.cs.lb (by omega) (fun _ _ => by show l ≤ _; omega)).mono ?_
  rintro e w4 ⟨rfl, hQ4⟩
  obtain ⟨C4, B4, T4, hf, hfe, -⟩ := hQ4.cs
  have h12 := hE.ke.size
  have h23 := hE2.ke.size
  exact ⟨rfl, ⟨_, _, _, _, _, _, hC3.below hQ4.bel⟩, ⟨_, _, _, hE2.cs.below hQ4.bel⟩, ⟨_, _, _, hf, cw_congr17 enc_cw17 hfe⟩, b3.trans (hQ4.bel.mono b3.size), z1, by omega, hf.lts17 (by omega)⟩
structure Gb17 (w0 w1 w3 w4 w5 w6 w : World) (c : Nat) (Fp : Nat → Prop) (f : Int) (k m b l N : Nat) (L : List (Nat × Ent)) : Prop where
  co : Cd w c Fp f k m b N L
  xy : ∃ C B T C' B' T', Cs w0.heap.size w1.heap.size w (sl17 w0.heap.size (k + m)) (k + m) (fun _ => l) C B T ∧ Cs w5.heap.size w6.heap.size w (sl17 w5.heap.size (k + m)) (k + m) (fun _ => l) C' B' T' ∧ ∀ i, i < k + m → ∀ t, t < l → T' i t = T i t
  ff : ∃ C B T, Cs w3.heap.size w4.heap.size w (sl17 w3.heap.size (k + m)) (k + m) (fun _ => l) C B T ∧ Cw17 f k m 0 l T
  bel : Below w0.heap.size w0 w
  sz : w0.heap.size < w1.heap.size ∧ w1.heap.size ≤ w3.heap.size ∧ w3.heap.size < w4.heap.size ∧ w4.heap.size ≤ w5.heap.size ∧ w5.heap.size < w6.heap.size
section
variable {w0 w1 w3 w4 w5 w6 w w' : World} {c : Nat} {Fp : Nat → Prop} {f : Int} {k m b l N : Nat} {L : List (Nat × Ent)}
theorem Cd.below17 (h : Cd w c Fp f k m b N L) (hb : Below w.heap.size w w') : Cd w' c Fp f k m b N L := by
  obtain ⟨FT, p, lo, hi, rows, t, hC⟩ := h
  exact ⟨_, _, _, _, _, _, hC.below hb⟩
theorem Cd.ke17 {E : Nat → Prop} (h : Cd w c Fp f k m b N L) (hk : Ke E w w') (hE : ∀ x, E x → ¬ Fp x) : Cd w' c Fp f k m b N L := by
  obtain ⟨FT, p, lo, hi, rows, t, hC⟩ := h
  exact ⟨_, _, _, _, _, _, hC.ke hk hE⟩
theorem Cd.lt17 (h : Cd w c Fp f k m b N L) : ∀ x, Fp x → x < w.heap.size := by
  obtain ⟨FT, p, lo, hi, rows, t, hC⟩ := h
  exact hC.lt
theorem Gb17.below (h : Gb17 w0 w1 w3 w4 w5 w6 w c Fp f k m b l N L) (hb : Below w.heap.size w w') : Gb17 w0 w1 w3 w4 w5 w6 w' c Fp f k m b l N L := by
  obtain ⟨C, B, T, C', B', T', h1, h2, h3⟩ := h.xy
  obtain ⟨C4, B4, T4, h4, h5⟩ := h.ff
  exact ⟨h.co.below17 hb, ⟨_, _, _, _, _, _, h1.below hb, h2.below hb, h3⟩, ⟨_, _, _, h4.below hb, h5⟩, h.bel.trans (hb.mono h.bel.size), h.sz⟩
theorem Gb17.like (h : Gb17 w0 w1 w3 w4 w5 w6 w c Fp f k m b l N L) (hb : Bn17 k m l) (q0 : Nat) : Calls Tryz.prog 12 #[sl17 w0.heap.size (k + m), sl17 w5.heap.size (k + m)] (w.drewN q0) fun e w' => e = .returned (.bool true) ∧ Below w.heap.size w w' := by
  obtain ⟨C, B, T, C', B', T', h1, h2, h3⟩ := h.xy
  obtain ⟨k1, k2, m1, m2, l1, l2⟩ := hb
  have hd := (Ke.refl (fun _ => False) w).drewN q0
  refine (alike17 _ _ (k + m) _ T _ (h1.lb.ke hd) ((h2.lb.congr (fun i hi t ht => h3 i hi t ht)).ke hd) (by omega) (fun _ _ => by show l ≤ _; omega)).mono ?_
  rintro e w' ⟨he, q, rfl⟩
  exact ⟨he, below_drewN (below_drewN (Below.refl _ w) q0) q⟩
set_option maxHeartbeats 2000000 in
theorem again_b17 (h : Ga17 w0 w1 w3 w4 w5 c Fp f k m b l N L) (h5 : w4.heap.size ≤ w5.heap.size) (hF : ∀ x, Fp x → x < w0.heap.size) (hb : Bn17 k m l) :
    Calls Tryz.prog 10 #[sl17 w0.heap.size (k + m)] w5 fun e w6 => e = .returned (sl17 w5.heap.size (k + m)) ∧
    Calls Tryz.prog 11 #[.pointer (some ⟨c, 0, none⟩), sl17 w0.heap.size (k + m)] w6 fun e w7 => e = .returned (.int .i64 0) ∧
    Calls Tryz.prog 11 #[.pointer (some ⟨c, 0, none⟩), sl17 w5.heap.size (k + m)] w7 fun e w8 => e = .returned (.int .i64 0) ∧ Gb17 w0 w1 w3 w4 w5 w6 w8 c Fp f k m b l N L := by
  obtain ⟨FT, p, lo, hi, rows, t, hC⟩ := h.co
  have hbn := hb
  obtain ⟨k1, k2, m1, m2, l1, l2⟩ := hb
  obtain ⟨C, B, T, hx⟩ := h.xx
  obtain ⟨C4, B4, T4, hf, hcw⟩ := h.ff
  have hs := h.sz
  refine (copied17 _ (k + m) (fun _ => l) _ w5 hx.lb (by omega) (fun _ _ => by show l ≤ _; omega)).mono ?_
  rintro e w6 ⟨rfl, hQ⟩
  refine ⟨rfl, ?_⟩
  obtain ⟨C', B', T', hy, hye, -⟩ := hQ.cs
  have px := pb_in17 hx
  have py := pb_in17 hy
  have dx : ∀ x, Pb17 k m B x → ¬ Fp x := fun x e h => by have := px x e; have := hF x h; omega
  have dy : ∀ x, Pb17 k m B' x → ¬ Fp x := fun x e h => by have := py x e; have := hF x h; omega
  have b6 := h.bel.trans (hQ.bel.mono h.bel.size)
  have s6 := hQ.bel.size
  refine (Encode17 (hC.below hQ.bel) (hx.below hQ.bel) dx l1).mono ?_
  rintro e w7 ⟨rfl, hE⟩
  refine ⟨rfl, ?_⟩
  have b7 := b6.trans (hE.ke.below (B := w0.heap.size) (fun x e => (px x e).1) b6.size)
  have hy7 := hy.keep hE.ke (fun x a b e => by have := px x e; omega)
  refine (Encode17 ((hC.below hQ.bel).ke hE.ke dx) hy7 dy l1).mono ?_
  rintro e w8 ⟨rfl, hE2⟩
  refine ⟨rfl, ⟨_, _, _, _, _, _, ((hC.below hQ.bel).ke hE.ke dx).ke hE2.ke dy⟩, ⟨_, _, _, _, _, _, hE.cs.keep hE2.ke (fun x a b e => by have := py x e; omega), hE2.cs, fun i hi t ht => ?_⟩, ⟨_, _, _, ((hf.below hQ.bel).keep hE.ke (fun x a b e => by have := px x e; omega)).keep hE2.ke (fun x a b e => by have := py x e; omega), hcw⟩, b7.trans (hE2.ke.below (B := w0.heap.size) (fun x e => by have := py x e; omega) b7.size), by omega, by omega, by omega, h5, hy.lts17 (by omega)⟩
  show (if k ≤ i ∧ 0 ≤ t ∧ t < l then ks (par11 f k (i - k)) T' k t else T' i t) = (if k ≤ i ∧ 0 ≤ t ∧ t < l then ks (par11 f k (i - k)) T k t else T i t)
  by_cases c : k ≤ i ∧ 0 ≤ t ∧ t < l
  · rw [if_pos c, if_pos c]
    exact ks_congr k (fun a ha => ⟨rfl, hye a (by omega) t ht⟩)
  · rw [if_neg c, if_neg c]
    exact hye i hi t ht
end
end Go.Proofs.YtefolifecbhgoaaGreat
namespace Go.Proofs.YtefolifecbhgoaaGreat
open Go.RowKit Gf2
set_option linter.unusedVariables false


abbrev q017 : Nat → Bool := fun i => decide (i = 0)
theorem upx_twice17 {f : Int} {k l : Nat} {Q : Nat → Bool} {T Fr : Nat → Nat → Nat} (i t : Nat) :
    upx17 f k 0 l Q (upx17 f k 0 l Q T Fr (ems Q k).length) Fr (ems Q k).length i t = T i t := by
  by_cases c : k ≤ i ∧ 0 ≤ t ∧ t < l
  · have e : uq17 f k Q (upx17 f k 0 l Q T Fr (ems Q k).length) Fr (i - k) t (ems Q k).length = uq17 f k Q T Fr (i - k) t (ems Q k).length := uq_congr17 _ _ _ _ _ _ _ _ _ (fun a ha _ => ⟨if_neg (by omega), rfl⟩) _ (Nat.le_refl _)
    show (if k ≤ i ∧ 0 ≤ t ∧ t < l then upx17 f k 0 l Q T Fr (ems Q k).length i t ^^^ uq17 f k Q (upx17 f k 0 l Q T Fr (ems Q k).length) Fr (i - k) t (ems Q k).length else _) = _
    rw [if_pos c, e]
    show (if k ≤ i ∧ 0 ≤ t ∧ t < l then T i t ^^^ uq17 f k Q T Fr (i - k) t (ems Q k).length else _) ^^^ _ = _
    rw [if_pos c, Nat.xor_assoc, Nat.xor_self, Nat.xor_zero]
  · show (if k ≤ i ∧ 0 ≤ t ∧ t < l then _ else upx17 f k 0 l Q T Fr (ems Q k).length i t) = _
    rw [if_neg c]
    exact if_neg c
theorem upx_congr17 {f : Int} {k m l : Nat} {Q : Nat → Bool} {T T' Fr Fr' : Nat → Nat → Nat} (h : ∀ i, i < k + m → ∀ t, t < l → T' i t = T i t) (h2 : ∀ i, i < k → Q i = true → ∀ t, t < l → Fr' i t = Fr i t) {i t : Nat} (hi : i < k + m) (ht : t < l) :
    upx17 f k 0 l Q T' Fr' (ems Q k).length i t = upx17 f k 0 l Q T Fr (ems Q k).length i t := by
  have e : uq17 f k Q T' Fr' (i - k) t (ems Q k).length = uq17 f k Q T Fr (i - k) t (ems Q k).length := uq_congr17 _ _ _ _ _ _ _ _ _ (fun a ha hq => ⟨h a (by omega) t ht, h2 a ha hq t ht⟩) _ (Nat.le_refl _)
  unfold upx17
  rw [e, h i hi t ht]
structure Fr17 (w : World) (gF g cf k l : Nat) (F : Nat → Nat) : Prop where
  row : w.rowIs gF 27 k (fun i => if i = 0 then .slice (some ⟨g, 0, none⟩) l cf else .slice none 0 0)
  le : l ≤ cf
  lt : gF < g
  rw : Rw w g cf F
section
variable {w w' : World} {gF g cf k l : Nat} {F : Nat → Nat}
theorem Fr17.keep {E : Nat → Prop} (h : Fr17 w gF g cf k l F) (hk : Ke E w w') (h1 : ¬ E gF) (h2 : ¬ E g) : Fr17 w' gF g cf k l F := ⟨h.row.of_block (hk.2 _ h.row.lt h1), h.le, h.lt, hk.rw_ h.rw h2⟩
theorem Fr17.below (h : Fr17 w gF g cf k l F) (hb : Below w.heap.size w w') : Fr17 w' gF g cf k l F := h.keep (ke_below hb (fun _ => False)) id id
theorem Fr17.ll {E : Nat → Prop} (h : Fr17 w gF g cf k l F) (hk : k ≤ 1000) (h1 : ¬ E gF) (h2 : ¬ E g) : Ll E w (sl17 gF k) k (fun i => if q017 i then l else 0) (fun _ => F) := by
  refine ⟨_, ⟨by unfold big; omega, _, _, rfl, Nat.le_refl _, by unfold big; omega, fun _ => ⟨_, _, rfl, ⟨h.row.lt, h1⟩, fun i hi => by rw [Nat.zero_add]; exact h.row.cell hi⟩⟩, fun i hi => ?_⟩
  dsimp only
  by_cases e : i = 0
  · rw [if_pos e, if_pos (decide_eq_true e)]
    exact h.rw.re h.le h.le h.rw.1 h2
  · rw [if_neg e, if_neg (by simpa using e)]
    exact ⟨by unfold big; omega, fun t ht => absurd ht (Nat.not_lt_zero _), _, _, rfl, Nat.le_refl _, by unfold big; omega, fun h0 => absurd h0 (Nat.lt_irrefl _)⟩
end
section
variable {w0 w1 w3 w4 w5 w6 w9 : World} {c : Nat} {Fp : Nat → Prop} {f : Int} {k m b l N : Nat} {L : List (Nat × Ent)}
set_option maxHeartbeats 4000000 in
theorem again_c17 (h : Gb17 w0 w1 w3 w4 w5 w6 w9 c Fp f k m b l N L) (h6 : w6.heap.size ≤ w9.heap.size) (hF : ∀ x, Fp x → x < w0.heap.size) (hb : Bn17 k m l) :
    ∀ w10, w9.alloc (.cells (madeCells #[.slice none 0 0] k) 27) = w10 →
    ∃ gk ck w11 g cf, (w10.alloc (.cells #[] 5)).cell? ⟨w0.heap.size, k, none⟩ = some (.slice (some ⟨gk, 0, none⟩) l ck) ∧
      (Builtin.append_ #[27, 27] 27 #[.slice (some ⟨w10.heap.size, 0, none⟩) 0 0, .slice (some ⟨gk, 0, none⟩) l ck]).run Tryz.prog (w10.alloc (.cells #[] 5)) = .ok (.slice (some ⟨g, 0, none⟩) l cf) w11 ∧
      w11.cell? ⟨w9.heap.size, 0, none⟩ = some (.slice none 0 0) ∧ w11.frozen? ⟨w9.heap.size, 0, none⟩ = false ∧
      ∀ w12, w11.setCell ⟨w9.heap.size, 0, none⟩ (.slice (some ⟨g, 0, none⟩) l cf) = w12 →
      Calls Tryz.prog 23 #[.pointer (some ⟨c, 0, none⟩), sl17 w0.heap.size (k + m), sl17 w9.heap.size k] w12 fun e w13 => e = .returned (.int .i64 0) ∧
      Calls Tryz.prog 23 #[.pointer (some ⟨c, 0, none⟩), sl17 w0.heap.size (k + m), sl17 w9.heap.size k] w13 fun e w14 => e = .returned (.int .i64 0) ∧ Gb17 w0 w1 w3 w4 w5 w6 w14 c Fp f k m b l N L ∧ ∃ F, Fr17 w14 w9.heap.size g cf k l F := by
  intro w10 hw10
  obtain ⟨k1, k2, m1, m2, l1, l2⟩ := hb
  have b910 : Below w9.heap.size w9 w10 := by rw [← hw10]; exact (Below.refl _ _).alloc (Nat.le_refl _) _
  have h910 : w10.heap.size = w9.heap.size + 1 := by rw [← hw10]; simp
  have hf10 : w10.rowIs w9.heap.size 27 k (fun _ => .slice none 0 0) := by rw [← hw10]; exact World.rowIs_made w9 (.slice none 0 0) k 27
  have hs := h.sz
  have hG10 := h.below b910
  obtain ⟨C, B, T, C', B', T', hx, hy, hxy⟩ := hG10.xy
  have hxr := hx.row k (by omega)
  have hxa := hx.at_ (i := k) (by omega)
  have hrk : Rb w10 (.slice (some ⟨B k, 0, none⟩) l (C k)) l (T k) := (hxr.2.2.2.re (E := fun _ => False) hxr.2.2.1 hxr.2.2.1 hxr.2.2.2.1 (fun e => e)).rb
  obtain ⟨w11, g, cf, F, hrun, hC8, hg, hg1, hR, hFe, hb8⟩ := copy_app w10 hrk (by omega)
  have hf11 := hf10.of_block (hb8.block _ (by omega))
  have hbx : Below w10.heap.size w10 (w10.alloc (.cells #[] 5)) := (Below.refl _ _).alloc (Nat.le_refl _) _
  refine ⟨B k, C k, w11, g, cf, (hbx.cell (p := ⟨w0.heap.size, k, none⟩) (by show w0.heap.size < _; omega)).trans hxa, hrun, hf11.cell (by omega), hf11.frozen 0, fun w12 hw12 => ?_⟩
  have o12 : Only w9.heap.size w11 w12 := by rw [← hw12]; exact (Only.refl _ _).setCell _ _
  have h1011 := hb8.size
  have h1112 := o12.2.1
  have hf12 : w12.rowIs w9.heap.size 27 k (fun i => if i = 0 then .slice (some ⟨g, 0, none⟩) l cf else .slice none 0 0) := by rw [← hw12]; exact hf11.set 0 _
  have b912 : Below w9.heap.size w9 w12 := (b910.trans (hb8.mono b910.size)).trans (o12.kp.ke.below (B := w9.heap.size) (fun x e => by have e' : x = w9.heap.size := e; omega) (by omega))
  have hG12 := h.below b912
  have hFr : Fr17 w12 w9.heap.size g cf k l F := ⟨hf12, hC8, by omega, o12.rw_ hR (by omega)⟩
  obtain ⟨C, B, T, C', B', T', hx, hy, hxy⟩ := hG12.xy
  obtain ⟨C4, B4, T4, hff, hcw⟩ := hG12.ff
  obtain ⟨FT, p, lo, hi, rows, t, hC⟩ := hG12.co
  have px := pb_in17 hx
  have dx : ∀ x, Pb17 k m B x → ¬ Fp x := fun x e h => by have := px x e; have := hF x h; omega
  refine (Update17 (Q := q017) (Fr := fun _ => F) hC hx dx l1 (by omega) _ (hFr.ll (by omega) (fun e => by have := px _ e; omega) (fun e => by have := px _ e; omega))).mono ?_
  rintro e w13 ⟨rfl, hU⟩
  refine ⟨rfl, ?_⟩
  have hFr13 := hFr.keep hU.ke (fun e => by have := px _ e; omega) (fun e => by have := px _ e; omega)
  have b13 := hG12.bel.trans (hU.ke.below (B := w0.heap.size) (fun x e => (px x e).1) hG12.bel.size)
  refine (Update17 (Q := q017) (Fr := fun _ => F) (hC.ke hU.ke dx) hU.cs dx l1 (by omega) _ (hFr13.ll (by omega) (fun e => by have := px _ e; omega) (fun e => by have := px _ e; omega))).mono ?_
  rintro e w14 ⟨rfl, hU2⟩
  refine ⟨rfl, ⟨⟨_, _, _, _, _, _, (hC.ke hU.ke dx).ke hU2.ke dx⟩, ⟨_, _, _, _, _, _, hU2.cs, (hy.keep hU.ke (fun x a b e => by have := px x e; omega)).keep hU2.ke (fun x a b e => by have := px x e; omega), fun i hi t ht => ?_⟩, ⟨_, _, _, (hff.keep hU.ke (fun x a b e => by have := px x e; omega)).keep hU2.ke (fun x a b e => by have := px x e; omega), hcw⟩, b13.trans (hU2.ke.below (B := w0.heap.size) (fun x e => (px x e).1) b13.size), hs⟩, F, hFr13.keep hU2.ke (fun e => by have := px _ e; omega) (fun e => by have := px _ e; omega)⟩
  rw [hxy i hi t ht]
  exact (upx_twice17 i t).symm
set_option maxHeartbeats 4000000 in
theorem again_d17 {w : World} {gF g cf : Nat} {F : Nat → Nat} (h : Gb17 w0 w1 w3 w4 w5 w6 w c Fp f k m b l N L) (h6 : w6.heap.size ≤ gF) (hF : ∀ x, Fp x → x < w0.heap.size) (hb : Bn17 k m l) (hFr : Fr17 w gF g cf k l F) :
    Calls Tryz.prog 23 #[.pointer (some ⟨c, 0, none⟩), sl17 w0.heap.size (k + m), sl17 gF k] w fun e w17 => e = .returned (.int .i64 0) ∧
    Calls Tryz.prog 10 #[sl17 gF k] w17 fun e w18 => e = .returned (sl17 w17.heap.size k) ∧
    Calls Tryz.prog 23 #[.pointer (some ⟨c, 0, none⟩), sl17 w5.heap.size (k + m), sl17 w17.heap.size k] w18 fun e w19 => e = .returned (.int .i64 0) ∧ Gb17 w0 w1 w3 w4 w5 w6 w19 c Fp f k m b l N L ∧ w6.heap.size ≤ w19.heap.size := by
  obtain ⟨k1, k2, m1, m2, l1, l2⟩ := hb
  have hs := h.sz
  obtain ⟨C, B, T, C', B', T', hx, hy, hxy⟩ := h.xy
  obtain ⟨C4, B4, T4, hff, hcw⟩ := h.ff
  obtain ⟨FT, p, lo, hi, rows, t, hC⟩ := h.co
  have px := pb_in17 hx
  have py := pb_in17 hy
  have dx : ∀ x, Pb17 k m B x → ¬ Fp x := fun x e h => by have := px x e; have := hF x h; omega
  have dy : ∀ x, Pb17 k m B' x → ¬ Fp x := fun x e h => by have := py x e; have := hF x h; omega
  have glt := hFr.lt
  refine (Update17 (Q := q017) (Fr := fun _ => F) hC hx dx l1 (by omega) _ (hFr.ll (by omega) (fun e => by have := px _ e; omega) (fun e => by have := px _ e; omega))).mono ?_
  rintro e w17 ⟨rfl, hU⟩
  refine ⟨rfl, ?_⟩
  have hFr17 := hFr.keep hU.ke (fun e => by have := px _ e; omega) (fun e => by have := px _ e; omega)
  have b17 := h.bel.trans (hU.ke.below (B := w0.heap.size) (fun x e => (px x e).1) h.bel.size)
  have hlt17 := hFr17.row.lt
  refine (copied17 _ k _ _ w17 (hFr17.ll (E := fun _ => False) (by omega) id id) (by omega) (fun i _ => by show (if q017 i then l else 0) ≤ _; split <;> omega)).mono ?_
  rintro e w18 ⟨rfl, hQ⟩
  refine ⟨rfl, ?_⟩
  obtain ⟨C8, B8, T8, h8, h8e, -⟩ := hQ.cs
  have hy18 := (hy.keep hU.ke (fun x a b e => by have := px x e; omega)).below hQ.bel
  have b18 := b17.trans (hQ.bel.mono b17.size)
  refine (Update17 (Q := q017) (Fr := T8) ((hC.ke hU.ke dx).below hQ.bel) hy18 dy l1 (by omega) _ (h8.ll (fun x a b e => by have := py x e; omega))).mono ?_
  rintro e w19 ⟨rfl, hU2⟩
  have hz := hQ.bel.size
  have hz2 := hU2.ke.size
  refine ⟨rfl, ⟨⟨_, _, _, _, _, _, ((hC.ke hU.ke dx).below hQ.bel).ke hU2.ke dy⟩, ⟨_, _, _, _, _, _, (hU.cs.below hQ.bel).keep hU2.ke (fun x a b e => by have := py x e; omega), hU2.cs, fun i hi t ht => ?_⟩, ⟨_, _, _, ((hff.keep hU.ke (fun x a b e => by have := px x e; omega)).below hQ.bel).keep hU2.ke (fun x a b e => by have := py x e; omega), hcw⟩, b18.trans (hU2.ke.below (B := w0.heap.size) (fun x e => by have := py x e; omega) b18.size), hs⟩, by omega⟩
  exact upx_congr17 hxy (fun i hi hq t ht => h8e i hi t (by show t < (if q017 i then l else 0); rw [if_pos hq]; exact ht)) hi ht
end
end Go.Proofs.YtefolifecbhgoaaGreat
namespace Go.Proofs.YtefolifecbhgoaaGreat
open Go.RowKit Gf2
set_option linter.unusedVariables false


theorem giv_cw17 {f : Int} {k m : Nat} {S : Nat → Nat → Nat} {t : Nat} {P : Nat → Bool} (hf : f = 0 ∨ f = 1) (hs : k + m ≤ 256) (hc : ∀ r, r < m → S (k + r) t = ks (par11 f k r) S k t) (hb : ∀ i, i < k → S i t < 256) (hP : (ems P (k + m)).length ≤ m) {r : Nat} (hr : r < (ems P (k + m)).length) :
    ks (dec17 f k m P r) (fun a => S (eN (fun i => !P i) (k + m) a)) k t = S (eN P (k + m) r) t := by
  have hbo := ems_both P (k + m)
  rw [ks_mm]
  have e1 : mm k (dec17 f k m P) (fun a => S (eN (fun i => !P i) (k + m) a)) r t = mm k (fun i j => tg17 f k m (eN P (k + m) i) j) (mm k (sol k (fun i j => tg17 f k m (eN (fun i => !P i) (k + m) i) j) idm) (fun a => S (eN (fun i => !P i) (k + m) a))) r t := by
    unfold dec17
    rw [mm_assoc]
  have e2 : mm k (fun i j => tg17 f k m (eN P (k + m) i) j) (mm k (sol k (fun i j => tg17 f k m (eN (fun i => !P i) (k + m) i) j) idm) (fun a => S (eN (fun i => !P i) (k + m) a))) r t = mm k (fun i j => tg17 f k m (eN P (k + m) i) j) S r t :=
    mm_congr (fun _ _ => rfl) (fun a ha => (back17 hf hs hc hb (R := eN (fun i => !P i) (k + m)) (fun i hi => (eN_mem (by omega)).1) (fun i j a b e => by have := eN_inj (P := fun i => !P i) (n := k + m) (by omega) (by omega) e; omega) ha).symm)
  rw [e1, e2]
  exact gen17 hc hb (eN_mem hr).1
theorem ems_q017 : ∀ n, 1 ≤ n → (ems q017 n).length = 1
  | 0, h => by omega
  | 1, _ => rfl
  | n + 2, _ => by
    rw [ems_no (P := q017) (k := n + 1) (by simp)]
    exact ems_q017 (n + 1) (by omega)
structure Ze17 (w : World) (zg : Nat) (V0 : Value) (n l z1 : Nat) (B C : Nat → Nat) (Z : Nat → Nat → Nat) : Prop where
  row : w.rowIs zg 27 n (fun i => if i = 0 then V0 else .slice (some ⟨B i, 0, none⟩) l (C i))
  rows : ∀ i, 1 ≤ i → i < n → zg < B i ∧ B i < z1 ∧ l ≤ C i ∧ Rw w (B i) (C i) (Z i)
  inj : ∀ i j, i < n → j < n → B i = B j → i = j
section
variable {w w' : World} {zg n l z1 : Nat} {V0 : Value} {B C : Nat → Nat} {Z : Nat → Nat → Nat}
theorem Ze17.keep {E : Nat → Prop} (h : Ze17 w zg V0 n l z1 B C Z) (hk : Ke E w w') (hE : ∀ x, zg ≤ x → x < z1 → ¬ E x) (hz : zg < z1) : Ze17 w' zg V0 n l z1 B C Z :=
  ⟨h.row.of_block (hk.2 _ h.row.lt (hE _ (Nat.le_refl _) hz)), fun i h1 h2 => by
    obtain ⟨a1, a2, a3, a4⟩ := h.rows i h1 h2
    exact ⟨a1, a2, a3, hk.rw_ a4 (hE _ (by omega) a2)⟩, h.inj⟩
theorem Ze17.below (h : Ze17 w zg V0 n l z1 B C Z) (hb : Below w.heap.size w w') : Ze17 w' zg V0 n l z1 B C Z :=
  ⟨h.row.of_block (hb.block _ h.row.lt), fun i h1 h2 => by
    obtain ⟨a1, a2, a3, a4⟩ := h.rows i h1 h2
    exact ⟨a1, a2, a3, (ke_below hb (fun _ => False)).rw_ a4 id⟩, h.inj⟩
theorem Ze17.of {g : Nat} {v0 : Value} {T : Nat → Nat → Nat} (h : Cs g z1 w (sl17 g n) n (fun _ => l) C B T) (hr : w.rowIs g 27 n (fun i => .slice (some ⟨B i, 0, none⟩) l (C i))) (hw : w.setCell ⟨g, 0, none⟩ V0 = w') : Ze17 w' g V0 n l z1 B C T := by
  have o : Only g w w' := by rw [← hw]; exact (Only.refl _ _).setCell _ _
  refine ⟨?_, fun i h1 h2 => ?_, h.inj⟩
  · rw [← hw]
    refine (hr.set 0 V0).congr (fun i hi => ?_)
    show (if i = 0 then V0 else _) = _
    rfl
  · obtain ⟨a1, a2, a3, a4⟩ := h.row i h2
    have := h.ne h2
    exact ⟨by omega, a2, a3, o.rw_ a4 (by omega)⟩
theorem Ze17.store {V1 : Value} (h : Ze17 w zg V0 n l z1 B C Z) (hw : w.setCell ⟨zg, 0, none⟩ V1 = w') : Ze17 w' zg V1 n l z1 B C Z := by
  have o : Only zg w w' := by rw [← hw]; exact (Only.refl _ _).setCell _ _
  refine ⟨?_, fun i h1 h2 => ?_, h.inj⟩
  · rw [← hw]
    refine (h.row.set 0 V1).congr (fun i hi => ?_)
    show (if i = 0 then V1 else (if i = 0 then V0 else _)) = _
    by_cases e : i = 0
    · rw [if_pos e, if_pos e]
    · rw [if_neg e, if_neg e, if_neg e]
  · obtain ⟨a1, a2, a3, a4⟩ := h.rows i h1 h2
    exact ⟨a1, a2, a3, o.rw_ a4 (by omega)⟩
theorem Ze17.lb {G : Nat → Nat} (h : Ze17 w zg V0 n l z1 B C Z) (hn : n ≤ 1000) (hV : Rb w V0 l G) : Lb w (sl17 zg n) n (fun _ => l) (fun i => if i = 0 then G else Z i) := by
  refine ⟨_, ⟨by unfold big; omega, _, _, rfl, Nat.le_refl _, by unfold big; omega, fun _ => ⟨_, _, rfl, ⟨h.row.lt, id⟩, fun i hi => by rw [Nat.zero_add]; exact h.row.cell hi⟩⟩, fun i hi => ?_⟩
  dsimp only
  by_cases e : i = 0
  · rw [if_pos e, if_pos e]
    exact hV.re (fun _ _ => id)
  · rw [if_neg e, if_neg e]
    obtain ⟨a1, a2, a3, a4⟩ := h.rows i (by omega) hi
    exact a4.re a3 a3 a4.1 id
theorem Ze17.sh {Fp : Nat → Prop} (h : Ze17 w zg (.slice none 0 0) n l z1 B C Z) (hn : n ≤ 1000) (hF : ∀ x, zg ≤ x → x < z1 → ¬ Fp x) : Sh17 w (sl17 zg n) zg n n l q017 (fun i => if i = 0 then .slice none 0 0 else .slice (some ⟨B i, 0, none⟩) l (C i)) Z Fp := by
  refine ⟨rfl, Nat.le_refl _, by unfold big; omega, ⟨_, h.row, fun _ _ => rfl⟩, fun i hi => ?_⟩
  show Re _ w (if i = 0 then _ else _) _ _
  by_cases e : i = 0
  · rw [if_pos e, if_pos (decide_eq_true e)]
    exact ⟨by unfold big; omega, fun t ht => absurd ht (Nat.not_lt_zero _), _, _, rfl, Nat.le_refl _, by unfold big; omega, fun h0 => absurd h0 (Nat.lt_irrefl _)⟩
  · rw [if_neg e, if_neg (by simpa using e)]
    obtain ⟨a1, a2, a3, a4⟩ := h.rows i (by omega) hi
    exact a4.re a3 a3 a4.1 (fun e => e.elim (fun e => by omega) (hF _ (by omega) a2))
end
def oth17 (f : Int) (k m : Nat) (Z : Nat → Nat → Nat) (t : Nat) : Nat := ks (dec17 f k m q017 0) (fun a => Z (eN (fun i => !q017 i) (k + m) a)) k t
theorem oth_congr17 {f : Int} {k m : Nat} {Z Z' : Nat → Nat → Nat} {t : Nat} (hm : 1 ≤ m) (h : ∀ i, 1 ≤ i → i < k + m → Z' i t = Z i t) : oth17 f k m Z' t = oth17 f k m Z t := by
  refine ks_congr k (fun a ha => ⟨rfl, ?_⟩)
  have hbo := ems_both q017 (k + m)
  have h1 := ems_q017 (k + m) (by omega)
  obtain ⟨a1, a2⟩ := eN_mem (P := fun i => !q017 i) (n := k + m) (i := a) (by omega)
  have h0 : eN (fun i => !q017 i) (k + m) a ≠ 0 := fun e => by
    rw [e] at a2
    exact absurd a2 (by decide)
  exact h _ (by omega) a1
structure Zr17 (w w' : World) (c : Nat) (Fp : Nat → Prop) (f : Int) (k m b l N zg z1 : Nat) (B C : Nat → Nat) (Z : Nat → Nat → Nat) : Prop where
  ex : ∃ Fp' N' L' B0, Cd w' c Fp' f k m b N' L' ∧ (∀ x, Fp' x → Fp x ∨ w.heap.size ≤ x) ∧ (N' ≤ N + 256 ∧ Ci17 f k m L') ∧ w.heap.size ≤ B0 ∧ ¬ Fp' B0 ∧ Rw w' B0 l (oth17 f k m Z) ∧ Ze17 w' zg (sl17 B0 l) (k + m) l z1 B C Z
  ke : Ke (fun x => Fp x ∨ x = zg) w w'
set_option maxHeartbeats 2000000 in
theorem recon_z17 {w : World} {c : Nat} {Fp : Nat → Prop} {f : Int} {k m b l N zg z1 : Nat} {L : List (Nat × Ent)} {B C : Nat → Nat} {Z : Nat → Nat → Nat} (hC : Cd w c Fp f k m b N L) (hz : Ze17 w zg (.slice none 0 0) (k + m) l z1 B C Z) (hzz : zg < z1) (hF : ∀ x, zg ≤ x → x < z1 → ¬ Fp x) (hb : Bn17 k m l) (hci : Ci17 f k m L) (hN : N ≤ 1152921504606846976) :
    Calls Tryz.prog 16 #[.pointer (some ⟨c, 0, none⟩), sl17 zg (k + m)] w fun e w' => e = .returned (.int .i64 0) ∧ Zr17 w w' c Fp f k m b l N zg z1 B C Z := by
  obtain ⟨FT, p, lo, hi, rows, t, hC⟩ := hC
  obtain ⟨k1, k2, m1, m2, l1, l2⟩ := hb
  have e1 := ems_q017 (k + m) (by omega)
  refine (Reconstruct17_any (fun N' L' => N' ≤ N + 256 ∧ Ci17 f k m L') hC (hz.sh (by omega) hF) (hF _ (Nat.le_refl _) hzz) l1 (by omega) (by omega) (by omega) (fun w1 u hb hk => plan17_any (hC.below hb) q017 (by omega) (by omega) u hk hci hN)).mono ?_
  rintro e w' ⟨rfl, hR⟩
  obtain ⟨Fp', N', L', hC', hFp', hNL, ⟨-, hgF⟩, B0, F, cap, V', ev, hrow, hFv, hV', hB0, hnew⟩ := hR.co
  have ecap : k + m = cap := by injection ev
  subst ecap
  obtain ⟨hn1, hn2⟩ := hnew 0 (by omega)
  refine ⟨rfl, ⟨Fp', N', L', B0, hC', hFp', hNL, hB0, hn2, hn1, ?_⟩, hR.ke⟩
  refine ⟨hrow.congr (fun i hi => ?_), fun i h1 h2 => ?_, hz.inj⟩
  · rw [hFv i hi]
    by_cases e : i = 0
    · rw [if_pos e, e]
      unfold lst17
      rw [if_pos ⟨rfl, by rw [e1]; exact Nat.one_pos⟩]
      rfl
    · rw [if_neg e]
      unfold lst17
      rw [if_neg (fun x => e (by simpa using x.1))]
      have q1 := hV' i hi
      rw [hz.row.cell hi, if_neg e] at q1
      injection q1 with q1
      exact q1.symm
  · obtain ⟨a1, a2, a3, a4⟩ := hz.rows i h1 h2
    exact ⟨a1, a2, a3, hR.ke.rw_ a4 (fun e => e.elim (hF _ (by omega) a2) (fun e => by omega))⟩
end Go.Proofs.YtefolifecbhgoaaGreat
namespace Go.Proofs.YtefolifecbhgoaaGreat
open Go.RowKit Gf2
set_option linter.unusedVariables false


structure Ge17 (w0 w3 w4 : World) (w' : World) (c : Nat) (Fp : Nat → Prop) (f : Int) (k m b l N zg z1 B0 : Nat) (B C : Nat → Nat) : Prop where
  co : ∃ Fp' N' L', Cd w' c Fp' f k m b N' L' ∧ (∀ x, Fp' x → Fp x ∨ z1 ≤ x) ∧ (N' ≤ N + 256 ∧ Ci17 f k m L') ∧ ¬ Fp' B0
  ze : ∃ Z, Ze17 w' zg (sl17 B0 l) (k + m) l z1 B C Z
  ff : ∃ C4 B4 T, Cs w3.heap.size w4.heap.size w' (sl17 w3.heap.size (k + m)) (k + m) (fun _ => l) C4 B4 T ∧ Rw w' B0 l (T 0)
  ke : Ke Fp w0 w'
  sz : w0.heap.size ≤ w3.heap.size ∧ w3.heap.size < w4.heap.size ∧ w4.heap.size ≤ zg ∧ zg < z1 ∧ z1 ≤ B0
section
variable {w0 w1 w3 w4 w5 w6 w : World} {c : Nat} {Fp : Nat → Prop} {f : Int} {k m b l N : Nat} {L : List (Nat × Ent)}
set_option maxHeartbeats 4000000 in
theorem again_e17 (h : Gb17 w0 w1 w3 w4 w5 w6 w c Fp f k m b l N L) (h6 : w6.heap.size ≤ w.heap.size) (hF : ∀ x, Fp x → x < w0.heap.size) (hb : Bn17 k m l) (hf : f = 0 ∨ f = 1) (hci : Ci17 f k m L) (hN : N ≤ 1152921504606846976) :
    Calls Tryz.prog 10 #[sl17 w3.heap.size (k + m)] w fun e w21 => e = .returned (sl17 w.heap.size (k + m)) ∧ (∃ v0, w21.cell? ⟨w.heap.size, 0, none⟩ = some v0) ∧ w21.frozen? ⟨w.heap.size, 0, none⟩ = false ∧
    ∀ w22, w21.setCell ⟨w.heap.size, 0, none⟩ (.slice none 0 0) = w22 →
    Calls Tryz.prog 16 #[.pointer (some ⟨c, 0, none⟩), sl17 w.heap.size (k + m)] w22 fun e w23 => e = .returned (.int .i64 0) ∧
      (∀ q, Calls Tryz.prog 12 #[sl17 w.heap.size (k + m), sl17 w3.heap.size (k + m)] (w23.drewN q) fun e w' => e = .returned (.bool true) ∧ Below w23.heap.size w23 w') ∧
      ∃ B0 B C, Ge17 w0 w3 w4 w23 c Fp f k m b l N w.heap.size w21.heap.size B0 B C := by
  have hbn := hb
  obtain ⟨k1, k2, m1, m2, l1, l2⟩ := hb
  have hs := h.sz
  obtain ⟨C4, B4, T4, hff, hcw⟩ := h.ff
  refine (copied17 _ (k + m) (fun _ => l) _ w hff.lb (by omega) (fun _ _ => by show l ≤ _; omega)).mono ?_
  rintro e w21 ⟨rfl, hQ⟩
  obtain ⟨C, B, T, hz, hze, hzr⟩ := hQ.cs
  refine ⟨rfl, ⟨_, hzr.cell (by omega)⟩, hzr.frozen 0, fun w22 hw22 => ?_⟩
  have o22 : Only w.heap.size w21 w22 := by rw [← hw22]; exact (Only.refl _ _).setCell _ _
  have hZ : Ze17 w22 w.heap.size (.slice none 0 0) (k + m) l w21.heap.size B C T := Ze17.of (v0 := .slice none 0 0) hz hzr hw22
  have hzz := hz.lts17 (by omega)
  have h2122 := o22.2.1
  have hC22 := (h.co.below17 hQ.bel).ke17 o22.kp.ke (fun x e hx => by have := hF x hx; have e' : x = w.heap.size := e; have := h.bel.size; omega)
  have hbel := h.bel.size
  have b22 : Below w0.heap.size w0 w22 := (h.bel.trans (hQ.bel.mono h.bel.size)).trans (o22.kp.ke.below (B := w0.heap.size) (fun x e => by have e' : x = w.heap.size := e; omega) (by omega))
  have hff22 := (hff.below hQ.bel).keep o22.kp.ke (fun x a b e => by have e' : x = w.heap.size := e; have := h.bel.size; have := hff.hw; omega)
  have hffw := hff.hw
  refine (recon_z17 hC22 hZ hzz (fun x a b e => by have := hF x e; omega) hbn hci hN).mono ?_
  rintro e w23 ⟨rfl, hR⟩
  obtain ⟨Fp', N', L', B0, hC', hFp', hNL, hB0, hnB, hRB, hZ'⟩ := hR.ex
  have hE : ∀ x, w0.heap.size ≤ x → x < w.heap.size → ¬ (Fp x ∨ x = w.heap.size) := fun x a b e => by
    rcases e with e | e
    · have := hF x e; omega
    · omega
  have hff23 := hff22.keep hR.ke (fun x a b => hE x (by omega) (by omega))
  -- what was given is the codeword's
  have hgiv : ∀ t, t < l → oth17 f k m T t = T4 0 t := fun t ht => by
    have hcT : ∀ r, r < m → T (k + r) t = ks (par11 f k r) T k t := fun r hr => cw_congr17 hcw hze r hr t (Nat.zero_le _) ht
    have e1 := ems_q017 (k + m) (by omega)
    have h1 := giv_cw17 (P := q017) (r := 0) hf (by omega) hcT (fun i hi => (hz.row i (by omega)).2.2.2.2.1 t (by have : l ≤ C i := (hz.row i (by omega)).2.2.1; omega)) (by omega) (by omega)
    have h2 : eN q017 (k + m) 0 = 0 := by
      have := (eN_at (P := q017) (n := k + m) (s := 0) (by omega) rfl).2
      exact this
    rw [h2] at h1
    exact h1.trans (hze 0 (by omega) t ht)
  have hRT : Rw w23 B0 l (T4 0) := hRB.congr (fun t ht => hgiv t ht)
  refine ⟨rfl, fun q => ?_, B0, B, C, ⟨Fp', N', L', hC', fun x e => (hFp' x e).imp id (fun e => by omega), hNL, hnB⟩, ⟨T, hZ'⟩, ⟨C4, B4, T4, hff23, hRT⟩, ?_, by omega, by omega, by omega, hzz, by omega⟩
  · have hd := (Ke.refl (fun _ => False) w23).drewN q
    have hzl := (hZ'.lb (by omega) (hRT.re (E := fun _ => False) (Nat.le_refl _) (Nat.le_refl _) hRT.1 id).rb)
    refine (alike17 _ _ (k + m) _ T4 _ ((hzl.congr (fun i hi t ht => ?_)).ke hd) (hff23.lb.ke hd) (by omega) (fun _ _ => by show l ≤ _; omega)).mono ?_
    · show (if i = 0 then T4 0 else T i) t = _
      by_cases e : i = 0
      · rw [if_pos e, e]
      · rw [if_neg e]; exact hze i hi t ht
    · rintro e w' ⟨he, q', rfl⟩
      exact ⟨he, below_drewN (below_drewN (Below.refl _ w23) q) q'⟩
  · have k1 : Ke Fp w0 w22 := ke_below b22 _
    refine ⟨k1.1.trans hR.ke.1, fun x hx hn => ?_⟩
    rw [hR.ke.2 x (Nat.lt_of_lt_of_le hx k1.size) (fun e => e.elim hn (fun e => by omega))]
    exact k1.2 x hx hn
theorem Ge17.below {w w' : World} {zg z1 B0 : Nat} {B C : Nat → Nat} (h : Ge17 w0 w3 w4 w c Fp f k m b l N zg z1 B0 B C) (hb : Below w.heap.size w w') : Ge17 w0 w3 w4 w' c Fp f k m b l N zg z1 B0 B C := by
  obtain ⟨Fp', N', L', h1, h2, h3, h4⟩ := h.co
  obtain ⟨Z, hZ⟩ := h.ze
  obtain ⟨C4, B4, T, h5, h6⟩ := h.ff
  exact ⟨⟨Fp', N', L', h1.below17 hb, h2, h3, h4⟩, ⟨Z, hZ.below hb⟩, ⟨C4, B4, T, h5.below hb, (ke_below hb (fun _ => False)).rw_ h6 id⟩, h.ke.trans (ke_below hb _), h.sz⟩
structure Ag17 (w0 w' : World) (c : Nat) (Fp : Nat → Prop) (f : Int) (k m b N : Nat) : Prop where
  co : ∃ Fp' N' L', Cd w' c Fp' f k m b N' L' ∧ (∀ x, Fp' x → Fp x ∨ w0.heap.size ≤ x) ∧ N' ≤ N + 768 ∧ Ci17 f k m L'
  ke : Ke Fp w0 w'
set_option maxHeartbeats 4000000 in
theorem again_f17 {zg z1 B0 : Nat} {B C : Nat → Nat} (h : Ge17 w0 w3 w4 w c Fp f k m b l N zg z1 B0 B C) (hF : ∀ x, Fp x → x < w0.heap.size) (hb : Bn17 k m l) (hN : N ≤ 1000000000000000000) :
    Calls Tryz.prog 10 #[sl17 zg (k + m)] w fun e w26 => e = .returned (sl17 w.heap.size (k + m)) ∧ (∃ v0, w26.cell? ⟨zg, 0, none⟩ = some v0) ∧ w26.frozen? ⟨zg, 0, none⟩ = false ∧
    ∀ w27, w26.setCell ⟨zg, 0, none⟩ (.slice none 0 0) = w27 → (∃ v0, w27.cell? ⟨w.heap.size, 0, none⟩ = some v0) ∧ w27.frozen? ⟨w.heap.size, 0, none⟩ = false ∧
    ∀ w28, w27.setCell ⟨w.heap.size, 0, none⟩ (.slice none 0 0) = w28 →
    Calls Tryz.prog 16 #[.pointer (some ⟨c, 0, none⟩), sl17 zg (k + m)] w28 fun e w29 => e = .returned (.int .i64 0) ∧
    Calls Tryz.prog 16 #[.pointer (some ⟨c, 0, none⟩), sl17 w.heap.size (k + m)] w29 fun e w30 => e = .returned (.int .i64 0) ∧
      (∀ q, Calls Tryz.prog 12 #[sl17 zg (k + m), sl17 w.heap.size (k + m)] (w30.drewN q) fun e w' => e = .returned (.bool true) ∧ Below w30.heap.size w30 w') ∧
      ∀ w31, Below w30.heap.size w30 w31 → ∃ g0 c0, w31.cell? ⟨w3.heap.size, 0, none⟩ = some (.slice (some ⟨g0, 0, none⟩) l c0) ∧
        ∀ q, Calls Tryz.prog 26 #[sl17 B0 l, .slice (some ⟨g0, 0, none⟩) l c0] (w31.drewN q) fun e w' => e = .returned (.bool true) ∧ Ag17 w0 w' c Fp f k m b N := by
  have hbn := hb
  obtain ⟨k1, k2, m1, m2, l1, l2⟩ := hb
  obtain ⟨Fp', N', L', hC, hFp, hNL, hnB⟩ := h.co
  obtain ⟨Z, hZ⟩ := h.ze
  obtain ⟨C4, B4, T4, hff, hRT⟩ := h.ff
  have hs := h.sz
  have hkz := h.ke.size
  have hlt := hC.lt17
  have zlt := hZ.row.lt
  have blt := hRT.lt
  have hffw := hff.hw
  refine (copied17 _ (k + m) (fun _ => l) _ w (hZ.lb (by omega) (hRT.re (E := fun _ => False) (Nat.le_refl _) (Nat.le_refl _) hRT.1 id).rb) (by omega) (fun _ _ => by show l ≤ _; omega)).mono ?_
  rintro e w26 ⟨rfl, hQ⟩
  obtain ⟨C', B', T, hy, hye, hyr⟩ := hQ.cs
  have hZ26 := hZ.below hQ.bel
  refine ⟨rfl, ⟨_, hZ26.row.cell (by omega)⟩, hZ26.row.frozen 0, fun w27 hw27 => ?_⟩
  have o27 : Only zg w26 w27 := by rw [← hw27]; exact (Only.refl _ _).setCell _ _
  have hZ27 := hZ26.store hw27
  have hy27 := hy.keep o27.kp.ke (fun x a b e => by have e' : x = zg := e; omega)
  have hyr27 := hyr.of_block (o27.2.2 _ (by omega))
  refine ⟨⟨_, hyr27.cell (by omega)⟩, hyr27.frozen 0, fun w28 hw28 => ?_⟩
  have o28 : Only w.heap.size w27 w28 := by rw [← hw28]; exact (Only.refl _ _).setCell _ _
  have hY : Ze17 w28 w.heap.size (.slice none 0 0) (k + m) l w26.heap.size B' C' T := Ze17.of (v0 := .slice none 0 0) hy27 hyr27 hw28
  have hyz := hy.lts17 (by omega)
  have z1w : z1 ≤ w.heap.size := by omega
  have hZ28 := hZ27.keep o28.kp.ke (fun x a b e => by have e' : x = w.heap.size := e; omega) (by omega)
  have z27 := o27.2.1
  have z28 := o28.2.1
  have k26_28 : Ke (fun x => x = zg ∨ x = w.heap.size) w w28 := ((ke_below hQ.bel _).trans (o27.kp.ke.mono (fun x _ e => .inl e))).trans (o28.kp.ke.mono (fun x _ e => .inr e))
  have nz : ∀ x, zg ≤ x → x < z1 → ¬ Fp' x := fun x a b e => by
    rcases hFp x e with e | e
    · have := hF x e; omega
    · omega
  have hC28 := hC.ke17 k26_28 (fun x e hx => by
    rcases e with e | e
    · exact nz zg (Nat.le_refl _) (by omega) (e ▸ hx)
    · have := hlt x hx; omega)
  refine (recon_z17 hC28 hZ28 (by omega) nz hbn hNL.2 (by omega)).mono ?_
  rintro e w29 ⟨rfl, hR⟩
  refine ⟨rfl, ?_⟩
  obtain ⟨Fp2, N2, L2, B2, hC2, hFp2, hNL2, hB2, hnB2, hRB2, hZ2⟩ := hR.ex
  have hY29 := hY.keep hR.ke (fun x a b e => by
    rcases e with e | e
    · have := hlt x e; omega
    · omega) hyz
  refine (recon_z17 hC2 hY29 hyz (fun x a b e => by
    rcases hFp2 x e with e | e
    · have := hlt x e; omega
    · omega) hbn hNL2.2 (by omega)).mono ?_
  rintro e w30 ⟨rfl, hR3⟩
  obtain ⟨Fp3, N3, L3, B3, hC3, hFp3, hNL3, hB3, hnB3, hRB3, hY3⟩ := hR3.ex
  have h2930 := hR3.ke.size
  have h2829 := hR.ke.size
  have nz2 : ∀ x, zg ≤ x → x < z1 → ¬ Fp2 x := fun x a b e => by
    rcases hFp2 x e with e | e
    · exact nz x a b e
    · omega
  have hZ3 := hZ2.keep hR3.ke (fun x a b e => by
    rcases e with e | e
    · exact nz2 x a b e
    · omega) (by omega)
  have hRB2' : Rw w30 B2 l (oth17 f k m Z) := hR3.ke.rw_ hRB2 (fun e => by
    rcases e with e | e
    · exact hnB2 e
    · omega)
  refine ⟨rfl, fun q => ?_, fun w31 hb31 => ?_⟩
  · have hd := (Ke.refl (fun _ => False) w30).drewN q
    have hzl := hZ3.lb (by omega) (hRB2'.re (E := fun _ => False) (Nat.le_refl _) (Nat.le_refl _) hRB2'.1 id).rb
    have hyl := hY3.lb (by omega) (hRB3.re (E := fun _ => False) (Nat.le_refl _) (Nat.le_refl _) hRB3.1 id).rb
    have hTZ : ∀ i, 1 ≤ i → i < k + m → ∀ t, t < l → T i t = Z i t := fun i h1 hi t ht => by
      have := hye i hi t ht
      rw [if_neg (by omega)] at this
      exact this
    refine (alike17 _ _ (k + m) _ _ _ (hzl.ke hd) ((hyl.congr (fun i hi t ht => ?_)).ke hd) (by omega) (fun _ _ => by show l ≤ _; omega)).mono ?_
    · show (if i = 0 then oth17 f k m T else T i) t = (if i = 0 then oth17 f k m Z else Z i) t
      by_cases e : i = 0
      · rw [if_pos e, if_pos e]
        exact oth_congr17 m1 (fun i h1 h2 => hTZ i h1 h2 t ht)
      · rw [if_neg e, if_neg e]; exact hTZ i (by omega) hi t ht
    · rintro e w' ⟨he, q', rfl⟩
      exact ⟨he, below_drewN (below_drewN (Below.refl _ w30) q) q'⟩
  · -- the codeword first and what was given stand
    have nf : ∀ x, w0.heap.size ≤ x → x < zg → ¬ Fp' x := fun x a b e => by
      rcases hFp x e with e | e
      · have := hF x e; omega
      · omega
    have kall : Ke (fun x => Fp' x ∨ x = zg ∨ w.heap.size ≤ x) w w31 := by
      refine (((k26_28.mono (fun x _ e => ?_)).trans (hR.ke.mono (fun x hx e => ?_))).trans (hR3.ke.mono (fun x hx e => ?_))).trans (ke_below hb31 _)
      · rcases e with e | e
        · exact .inr (.inl e)
        · exact .inr (.inr (by omega))
      · rcases e with e | e
        · exact .inl e
        · exact .inr (.inl e)
      · rcases e with e | e
        · rcases hFp2 x e with e | e
          · exact .inl e
          · exact .inr (.inr (by omega))
        · exact .inr (.inr (by omega))
    have hff31 := hff.keep kall (fun x a b e => by
      rcases e with e | e | e
      · exact nf x (by omega) (by omega) e
      · omega
      · omega)
    have hRT31 := kall.rw_ hRT (fun e => by
      rcases e with e | e | e
      · exact hnB e
      · omega
      · omega)
    have hr0 := hff31.row 0 (by omega)
    refine ⟨B4 0, C4 0, hff31.at_ (by omega), fun q => ?_⟩
    have hd := (Ke.refl (fun _ => False) w31).drewN q
    have c0 : l ≤ C4 0 := hr0.2.2.1
    refine (equal17 _ _ l (T4 0) _ ((hd.rw_ hRT31 id).re (E := fun _ => False) (Nat.le_refl _) (Nat.le_refl _) hRT31.1 id).rb ((hd.rw_ hr0.2.2.2 id).re (E := fun _ => False) c0 c0 hr0.2.2.2.1 id).rb (by omega)).mono ?_
    rintro e w' ⟨he, q', rfl⟩
    have bl : Below w31.heap.size w31 ((w31.drewN q).drewN q') := below_drewN (below_drewN (Below.refl _ w31) q) q'
    refine ⟨he, ⟨Fp3, N3, L3, (hC3.below17 hb31).below17 bl, fun x e => ?_, by omega, hNL3.2⟩, ?_⟩
    · rcases hFp3 x e with e | e
      · rcases hFp2 x e with e | e
        · rcases hFp x e with e | e
          · exact .inl e
          · exact .inr (by omega)
        · exact .inr (by omega)
      · exact .inr (by omega)
    · have ka := kall.trans (ke_below bl _)
      refine ⟨h.ke.1.trans ka.1, fun x hx hn => ?_⟩
      rw [ka.2 x (Nat.lt_of_lt_of_le hx hkz) (fun e => by
        rcases e with e | e | e
        · rcases hFp x e with e | e
          · exact hn e
          · omega
        · omega
        · omega)]
      exact h.ke.2 x hx hn
end
end Go.Proofs.YtefolifecbhgoaaGreat
namespace Go.Proofs.YtefolifecbhgoaaGreat
open Go.RowKit Gf2
set_option linter.unusedVariables false


section
variable {w0 w1 w3 w4 w5 w6 w : World} {c : Nat} {Fp : Nat → Prop} {f : Int} {k m b l N : Nat} {L : List (Nat × Ent)}
theorem Ga17.at_ (h : Ga17 w0 w1 w3 w4 w c Fp f k m b l N L) (hF : ∀ x, Fp x → x < w0.heap.size) {i : Nat} (hi : i < k + m) :
    ∃ g cc, w.cell? ⟨w0.heap.size, i, none⟩ = some (.slice (some ⟨g, 0, none⟩) l cc) ∧ ∀ t, t < l → ∃ z : Nat, z < 256 ∧ w.cell? ⟨g, t, none⟩ = some (.int .u8 (z : Nat)) ∧ w.frozen? ⟨g, t, none⟩ = false ∧
      ∀ y : Nat, y < 256 → Ga17 w0 w1 w3 w4 (w.setCell ⟨g, t, none⟩ (.int .u8 (y : Nat))) c Fp f k m b l N L ∧ (w.setCell ⟨g, t, none⟩ (.int .u8 (y : Nat))).heap.size = w.heap.size := by
  obtain ⟨C, B, T, hx⟩ := h.xx
  obtain ⟨C4, B4, T4, hff, hcw⟩ := h.ff
  obtain ⟨r1, r2, r3, r4⟩ := hx.row i hi
  have hs := h.sz
  refine ⟨B i, C i, hx.at_ hi, fun t ht => ⟨T i t, hx.lt_ hi (by have : l ≤ C i := r3; omega), hx.cell_ hi (by have : l ≤ C i := r3; omega), hx.froz hi t, fun y hy => ?_⟩⟩
  have o : Only (B i) w (w.setCell ⟨B i, t, none⟩ (.int .u8 (y : Nat))) := (Only.refl _ _).setCell _ _
  refine ⟨⟨h.co.ke17 o.kp.ke (fun x e hx => by have := hF x hx; have e' : x = B i := e; omega), ⟨_, _, _, hx.set hi t y hy⟩, ⟨_, _, _, hff.keep o.kp.ke (fun x a b e => by have e' : x = B i := e; omega), hcw⟩, h.bel.setCell (by show w0.heap.size ≤ B i; omega) _, hs⟩, o.2.1⟩
theorem Fr17.at_ {gF g cf : Nat} {F : Nat → Nat} (h : Gb17 w0 w1 w3 w4 w5 w6 w c Fp f k m b l N L) (hr : Fr17 w gF g cf k l F) (h6 : w6.heap.size ≤ gF) (hF : ∀ x, Fp x → x < w0.heap.size) (hk : 1 ≤ k) :
    w.cell? ⟨gF, 0, none⟩ = some (.slice (some ⟨g, 0, none⟩) l cf) ∧ ∀ t, t < l → ∃ z : Nat, z < 256 ∧ w.cell? ⟨g, t, none⟩ = some (.int .u8 (z : Nat)) ∧ w.frozen? ⟨g, t, none⟩ = false ∧
      ∀ y : Nat, y < 256 → Gb17 w0 w1 w3 w4 w5 w6 (w.setCell ⟨g, t, none⟩ (.int .u8 (y : Nat))) c Fp f k m b l N L ∧ ∃ F', Fr17 (w.setCell ⟨g, t, none⟩ (.int .u8 (y : Nat))) gF g cf k l F' := by
  obtain ⟨C, B, T, C', B', T', hx, hy, hxy⟩ := h.xy
  obtain ⟨C4, B4, T4, hff, hcw⟩ := h.ff
  have hs := h.sz
  have glt := hr.lt
  have hle := hr.le
  refine ⟨hr.row.cell (by omega), fun t ht => ⟨F t, hr.rw.2.1 t (by omega), hr.rw.2.2.cell (by omega), hr.rw.2.2.frozen t, fun y hyy => ?_⟩⟩
  have o : Only g w (w.setCell ⟨g, t, none⟩ (.int .u8 (y : Nat))) := (Only.refl _ _).setCell _ _
  exact ⟨⟨h.co.ke17 o.kp.ke (fun x e hx => by have := hF x hx; have e' : x = g := e; omega), ⟨_, _, _, _, _, _, hx.keep o.kp.ke (fun x a b e => by have e' : x = g := e; omega), hy.keep o.kp.ke (fun x a b e => by have e' : x = g := e; omega), hxy⟩, ⟨_, _, _, hff.keep o.kp.ke (fun x a b e => by have e' : x = g := e; omega), hcw⟩, h.bel.setCell (by show w0.heap.size ≤ g; omega) _, hs⟩, _, ⟨hr.row.of_block (o.2.2 _ (by omega)), hle, glt, hr.rw.set t y hyy⟩⟩
theorem Ge17.at_ {zg z1 B0 : Nat} {B C : Nat → Nat} (h : Ge17 w0 w3 w4 w c Fp f k m b l N zg z1 B0 B C) (hF : ∀ x, Fp x → x < w0.heap.size) {i : Nat} (h1 : 1 ≤ i) (hi : i < k + m) :
    w.cell? ⟨zg, i, none⟩ = some (.slice (some ⟨B i, 0, none⟩) l (C i)) ∧ ∀ t, t < l → ∃ z : Nat, z < 256 ∧ w.cell? ⟨B i, t, none⟩ = some (.int .u8 (z : Nat)) ∧ w.frozen? ⟨B i, t, none⟩ = false ∧
      ∀ y : Nat, y < 256 → Ge17 w0 w3 w4 (w.setCell ⟨B i, t, none⟩ (.int .u8 (y : Nat))) c Fp f k m b l N zg z1 B0 B C := by
  obtain ⟨Fp', N', L', hC, hFp, hNL, hnB⟩ := h.co
  obtain ⟨Z, hZ⟩ := h.ze
  obtain ⟨C4, B4, T4, hff, hRT⟩ := h.ff
  have hs := h.sz
  obtain ⟨r1, r2, r3, r4⟩ := hZ.rows i h1 hi
  have q1 := hZ.row.cell hi
  rw [if_neg (by omega)] at q1
  refine ⟨q1, fun t ht => ⟨Z i t, r4.2.1 t (by omega), r4.2.2.cell (by omega), r4.2.2.frozen t, fun y hyy => ?_⟩⟩
  have o : Only (B i) w (w.setCell ⟨B i, t, none⟩ (.int .u8 (y : Nat))) := (Only.refl _ _).setCell _ _
  refine ⟨⟨Fp', N', L', hC.ke17 o.kp.ke (fun x e hx => ?_), hFp, hNL, hnB⟩, ⟨fun j x => if j = i ∧ x = t then y else Z j x, hZ.row.of_block (o.2.2 _ (by omega)), fun j h1 h2 => ?_, hZ.inj⟩, ⟨C4, B4, T4, hff.keep o.kp.ke (fun x a b e => by have e' : x = B i := e; omega), o.rw_ hRT (by omega)⟩, ⟨h.ke.1.trans o.kp.ke.1, fun x hx hn => ?_⟩, hs⟩
  · have e' : x = B i := e
    rcases hFp x hx with e | e
    · have := hF x e; omega
    · omega
  · obtain ⟨a1, a2, a3, a4⟩ := hZ.rows j h1 h2
    refine ⟨a1, a2, a3, ?_⟩
    by_cases e : j = i
    · subst e
      refine (a4.set t y hyy).congr (fun x _ => ?_)
      by_cases e2 : x = t
      · rw [if_pos e2, if_pos ⟨rfl, e2⟩]
      · rw [if_neg e2, if_neg (fun z => e2 z.2)]
    · refine (o.rw_ a4 (fun e2 => e (hZ.inj _ _ h2 hi e2))).congr (fun x _ => ?_)
      rw [if_neg (fun z => e z.1)]
  · rw [o.2.2 x (by omega)]
    exact h.ke.2 x hx hn
end
end Go.Proofs.YtefolifecbhgoaaGreat
