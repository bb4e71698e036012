import Derived.Test.YtaoapplbcgflmaaGreatMlbw
import Derived.Test.YtaoapplbcgflmaaGreatMlbv
import Derived.Test.YtaoapplbcgflmaaGreatMlbu
import Derived.Test.YtaoapplbcgflmaaGreatMlbf
namespace Go.Proofs.YtaoapplbcgflmaaGreat
open Go.RowKit Gf2
set_option linter.unusedVariables false

-- layer 17: McodeSpans, the missing ones
/-- a row of ints is no row of bytes, nor a list of lists. -/
theorem ri_rw17 {w : World} {g C D : Nat} {F : Nat → Int} {G : Nat → Nat} (h : Ri w g C F) (k : Rw w g D G) : False := by
  obtain ⟨A, hA, -⟩ := h.2.2
  obtain ⟨B, hB, -⟩ := k.2.2
  rw [hA] at hB
  cases hB
theorem ri_ll17 {w : World} {g C D : Nat} {F : Nat → Int} {G : Nat → Value} (h : Ri w g C F) (k : w.rowIs g 27 D G) : False := by
  obtain ⟨A, hA, -⟩ := h.2.2
  obtain ⟨B, hB, -⟩ := k
  rw [hA] at hB
  cases hB
structure Ms17 (w9 wr : World) (ga km l : Nat) (Q : Nat → Bool) (C9 B9 : Nat → Nat) (j : Nat) (mv : Value) (NB : Nat → Nat) : Prop where
  al : wr.rowIs ga 27 km (fun i => if i < j ∧ Q i = true then .slice (some ⟨NB i, 0, none⟩) l l else .slice (some ⟨B9 i, 0, none⟩) l (C9 i))
  ar : ∀ i, i < j → Q i = true → w9.heap.size ≤ NB i ∧ Rw wr (NB i) l (fun _ => 0)
  aj : ∀ i i', i < j → i' < j → Q i = true → Q i' = true → NB i = NB i' → i = i'
  mi : Gj w9.heap.size wr mv (ems Q j).length (emz Q j)
  ke : Ke (fun x => x = ga) w9 wr
section
variable {w9 wr w5 w1 : World} {ga km l j : Nat} {Q : Nat → Bool} {C9 B9 NB : Nat → Nat} {mv v5 : Value}
theorem Ms17.start (hal : w9.rowIs ga 27 km (fun i => .slice (some ⟨B9 i, 0, none⟩) l (C9 i))) : Ms17 w9 w9 ga km l Q C9 B9 0 (.slice none 0 0) (fun _ => 0) :=
  ⟨hal.congr (fun i _ => (if_neg (fun h => Nat.not_lt_zero _ h.1)).symm), fun i hi => absurd hi (Nat.not_lt_zero _), fun i i' hi => absurd hi (Nat.not_lt_zero _), Gj.start _ _ _, Ke.refl _ _⟩
theorem Ms17.skip (h : Ms17 w9 wr ga km l Q C9 B9 j mv NB) (hq : Q j = false) : Ms17 w9 wr ga km l Q C9 B9 (j + 1) mv NB := by
  have hc : ∀ i, (i < j ∧ Q i = true) ↔ (i < j + 1 ∧ Q i = true) := fun i => ⟨fun x => ⟨by omega, x.2⟩, fun x => by
    rcases Nat.lt_or_ge i j with h | h
    · exact ⟨h, x.2⟩
    · have e : i = j := by omega
      have := x.2
      rw [e, hq] at this
      cases this⟩
  have e : ems Q (j + 1) = ems Q j := ems_no hq
  have e2 : emz Q (j + 1) = emz Q j := by funext i; unfold emz; rw [e]
  exact ⟨h.al.congr (fun i _ => if_iff17 (hc i) _ _), fun i hi hqi => h.ar i ((hc i).2 ⟨hi, hqi⟩).1 hqi, fun i i' hi hi' q q' => h.aj i i' ((hc i).2 ⟨hi, q⟩).1 ((hc i').2 ⟨hi', q'⟩).1 q q', by rw [e, e2]; exact h.mi, h.ke⟩
theorem Ms17.next (h : Ms17 w9 wr ga km l Q C9 B9 j mv NB) (hj : j < km) (hq : Q j = true) (ha : ga < w9.heap.size) (hl : l ≤ 1000)
    (hG : Gj w9.heap.size w5 v5 ((ems Q j).length + 1) (fun i => if i < (ems Q j).length then emz Q j i else (j : Int))) (hk : Ke (fun x => w9.heap.size ≤ x ∧ ∃ C F, Ri wr x C F) wr w5) (hw1 : w1 = w5.alloc (.cells (madeCells #[.int .u8 0] l) 5)) :
    Ms17 w9 (w1.setCell ⟨ga, j, none⟩ (.slice (some ⟨w5.heap.size, 0, none⟩) l l)) ga km l Q C9 B9 (j + 1) v5 (up17 NB j w5.heap.size) := by
  have hs9 := h.ke.size
  have hs5 := hk.size
  have b1 : Below w5.heap.size w5 w1 := by rw [hw1]; exact (Below.refl _ _).alloc (Nat.le_refl _) _
  have r1 : Rw w1 w5.heap.size l (fun _ => 0) := by rw [hw1]; exact made_rw l (by omega) w5
  have o4 : Only ga w1 (w1.setCell ⟨ga, j, none⟩ (.slice (some ⟨w5.heap.size, 0, none⟩) l l)) := (Only.refl _ _).setCell _ _
  have nal : ¬ (w9.heap.size ≤ ga ∧ ∃ C F, Ri wr ga C F) := fun x => by omega
  have a1 := ((h.al.of_block (hk.2 _ (by omega) nal)).of_block (b1.block _ (by omega))).set j (.slice (some ⟨w5.heap.size, 0, none⟩) l l)
  have hrow : ∀ {g N : Nat} {F : Nat → Nat}, g ≠ ga → Rw wr g N F → Rw (w1.setCell ⟨ga, j, none⟩ (.slice (some ⟨w5.heap.size, 0, none⟩) l l)) g N F := fun hg hr =>
    o4.kp.ke.rw_ ((ke_below b1 (fun _ => False)).rw_ (hk.rw_ hr (fun ⟨_, _, _, x⟩ => ri_rw17 x hr)) (fun e => e)) hg
  refine ⟨a1.congr (fun i hi => ?_), fun i hi hqi => ?_, fun i i' hi hi' q q' e => ?_, ?_, ?_⟩
  · show (if i = j then _ else _) = _
    by_cases e : i = j
    · subst e; rw [if_pos rfl, if_pos ⟨Nat.lt_succ_self _, hq⟩, up17_at]
    · rw [if_neg e, up17_ne _ _ e]
      exact if_iff17 ⟨fun x => ⟨by omega, x.2⟩, fun x => ⟨by omega, x.2⟩⟩ _ _
  · by_cases e : i = j
    · subst e
      rw [up17_at]
      exact ⟨by omega, o4.kp.ke.rw_ r1 (by omega)⟩
    · rw [up17_ne _ _ e]
      obtain ⟨r2, r3⟩ := h.ar i (by omega) hqi
      exact ⟨r2, hrow (by omega) r3⟩
  · by_cases e1 : i = j
    · by_cases e2 : i' = j
      · omega
      · rw [e1, up17_at, up17_ne _ _ e2] at e
        have := (h.ar i' (by omega) q').2.lt
        omega
    · by_cases e2 : i' = j
      · rw [e2, up17_at, up17_ne _ _ e1] at e
        have := (h.ar i (by omega) q).2.lt
        omega
      · rw [up17_ne _ _ e1, up17_ne _ _ e2] at e
        exact h.aj i i' (by omega) (by omega) q q' e
  · have e := ems_len_yes (P := Q) (k := j) hq
    rw [e]
    refine ((hG.congr (fun i hi => emz_step (P := Q) (k := j) hq i (by rw [e]; exact hi))).below b1).keep o4.kp.ke (fun x hx e => by omega)
  · have kz : Ke (fun x => x = ga) w5 (w1.setCell ⟨ga, j, none⟩ (.slice (some ⟨w5.heap.size, 0, none⟩) l l)) := (ke_below b1 _).trans o4.kp.ke
    refine ⟨(h.ke.1.trans hk.1).trans kz.1, fun x hx hn => ?_⟩
    rw [kz.2 x (by omega) hn, hk.2 x (by omega) (fun e => by omega), h.ke.2 x hx hn]
end
end Go.Proofs.YtaoapplbcgflmaaGreat
namespace Go.Proofs.YtaoapplbcgflmaaGreat
open Go.RowKit Gf2
set_option linter.unusedVariables false

-- layer 17: lists that are marked and grown (culletlaw17.apartInts)
theorem ke_ri17 {E : Nat → Prop} {k N : Nat} {F : Nat → Int} {a b : World} (h : Ke E a b) (hk : Ri a k N F) (hne : ¬ E k) : Ri b k N F := hk.ke h hne
theorem info_i17g : (Tryz.prog.info? 40).map (fun i => (i.zero, i.size, i.bytes)) = some (some (Value.slice none 0 0), 1, 24) := by kernel_rfl
/-- N lists, each at the head of a block of its own, laid in the row lb. -/
structure A1i17 (w W : World) (lb N : Nat) (B L C : Nat → Nat) (F : Nat → Nat → Int) : Prop where
  cell : ∀ r, r < N → W.cell? ⟨lb, r, none⟩ = some (.slice (some ⟨B r, 0, none⟩) (L r) (C r))
  row : ∀ r, r < N → Ri W (B r) (C r) (F r)
  inj : ∀ r s, r < N → s < N → B r = B s → r = s
  ne : ∀ r, r < N → B r ≠ lb
  lh : lb < W.heap.size
  cl : ∀ r, r < N → L r ≤ C r ∧ L r ≤ 1000
  ke : Ke (fun x => ∃ r, r < N ∧ x = B r) w W
section
variable {w W : World} {lb N : Nat} {B L C : Nat → Nat} {F : Nat → Nat → Int}
theorem A1i17.set (h : A1i17 w W lb N B L C F) {i j : Nat} {v : Int} (hi : i < N) : A1i17 w (W.setCell ⟨B i, j, none⟩ (.int .i64 (v : Int))) lb N B L C (fun r x => if r = i ∧ x = j then v else F r x) := by
  refine ⟨fun r hr => ?_, fun r hr => ?_, h.inj, h.ne, by simpa using h.lh, h.cl, h.ke.trans ((((Only.refl (B i) W).setCell j _).kp.ke).mono (fun x _ e => ⟨i, hi, e⟩))⟩
  · rw [World.cell?_of_block (w := W) (Below.heap_setCell _ _ _ _ (fun e => h.ne i hi e.symm))]
    exact h.cell r hr
  · by_cases e : r = i
    · subst e
      refine ((h.row r hr).set j v).congr (fun x hx => ?_)
      by_cases e2 : x = j
      · rw [if_pos e2, if_pos ⟨rfl, e2⟩]
      · rw [if_neg e2, if_neg (fun y => e2 y.2)]
    · have o : Only (B i) W (W.setCell ⟨B i, j, none⟩ (.int .i64 (v : Int))) := (Only.refl _ _).setCell _ _
      refine (o.ri_ (h.row r hr) (fun e2 => e (h.inj r i hr hi e2))).congr (fun x hx => ?_)
      rw [if_neg (fun y => e y.1)]
end
/-- the lists marked, i of them grown. -/
structure G2i17 (w W : World) (lb gb N : Nat) (B L C : Nat → Nat) (i : Nat) (G Cg : Nat → Nat) : Prop where
  cell : ∀ r, r < N → W.cell? ⟨lb, r, none⟩ = some (.slice (some ⟨B r, 0, none⟩) (L r) (C r))
  gs : W.rowIs gb 40 N (fun r => if r < i then .slice (some ⟨G r, 0, none⟩) (L r + 80) (Cg r) else .slice none 0 0)
  old : ∀ r, r < N → i ≤ r → ∃ F, Ri W (B r) (C r) F ∧ ∀ x, x < L r → F x = -2 * (r : Int) - 1
  oc : ∀ r, r < N → ∀ x, x < L r → W.cell? ⟨B r, x, none⟩ = some (.int .i64 (-2 * (r : Int) - 1))
  new : ∀ r, r < i → L r + 80 ≤ Cg r ∧ (G r = B r ∨ gb < G r) ∧ ∃ F, Ri W (G r) (Cg r) F ∧ (∀ x, x < L r → F x = -2 * (r : Int) - 1) ∧ ∀ x, L r ≤ x → x < L r + 80 → F x = -2 * (r : Int) - 2
  inj : ∀ r s, r < N → s < N → B r = B s → r = s
  ne : ∀ r, r < N → B r ≠ lb
  bg : ∀ r, r < N → B r < gb
  lg : lb < gb
  cl : ∀ r, r < N → L r ≤ C r ∧ L r ≤ 1000
  ke : Ke (fun x => ∃ r, r < N ∧ x = B r) w W
  gw : w.heap.size ≤ gb
theorem A1i17.done {w W : World} {lb N : Nat} {B L C : Nat → Nat} {F : Nat → Nat → Int} (h : A1i17 w W lb N B L C F) (hF : ∀ r, r < N → ∀ x, x < L r → F r x = -2 * (r : Int) - 1) :
    G2i17 w (W.alloc (.cells (madeCells #[.slice none 0 0] N) 40)) lb W.heap.size N B L C 0 (fun _ => 0) (fun _ => 0) := by
  have hb : Below W.heap.size W (W.alloc (.cells (madeCells #[.slice none 0 0] N) 40)) := (Below.refl _ _).alloc (Nat.le_refl _) _
  refine ⟨fun r hr => (hb.cell (p := ⟨lb, r, none⟩) h.lh).trans (h.cell r hr), (World.rowIs_made W (.slice none 0 0) N 40).congr (fun r _ => (if_neg (Nat.not_lt_zero _)).symm), fun r hr _ => ⟨_, ri_below (h.row r hr) hb, hF r hr⟩, fun r hr x hx => by
    have q := (ri_below (h.row r hr) hb).2.2.cell (i := x) (by have := h.cl r hr; omega)
    rw [hF r hr x hx] at q
    exact q, fun r hr => absurd hr (Nat.not_lt_zero _), h.inj, h.ne, fun r hr => (h.row r hr).lt, h.lh, h.cl, h.ke.trans (ke_below hb _), h.ke.size⟩
/-- one list while it grows. -/
structure H2i17 (wi W : World) (B L : Nat → Nat) (i g c j : Nat) : Prop where
  ke : Ke (fun x => x = B i) wi W
  loc : g = B i ∨ wi.heap.size ≤ g
  le : L i + j ≤ c
  row : ∃ F, Ri W g c F ∧ (∀ x, x < L i → F x = -2 * (i : Int) - 1) ∧ ∀ x, L i ≤ x → x < L i + j → F x = -2 * (i : Int) - 2
  old : ∀ x, x < L i → W.cell? ⟨B i, x, none⟩ = some (.int .i64 (-2 * (i : Int) - 1))
  lt : B i < wi.heap.size
section
variable {w wi W : World} {lb gb N : Nat} {B L C G Cg : Nat → Nat} {i g c j : Nat}
theorem G2i17.start (h : G2i17 w wi lb gb N B L C i G Cg) (hi : i < N) : H2i17 wi wi B L i (B i) (C i) 0 := by
  obtain ⟨F, h1, h2⟩ := h.old i hi (Nat.le_refl _)
  exact ⟨Ke.refl _ _, .inl rfl, (h.cl i hi).1, ⟨F, h1, h2, fun x a b => by omega⟩, h.oc i hi, h1.lt⟩
theorem H2i17.step (h : H2i17 wi W B L i g c j) (hL : L i ≤ 1000) (hj : j < 80) :
    ∃ w' g' c', (Builtin.append_ #[40, 40] 40 #[.slice (some ⟨g, 0, none⟩) (L i + j) c, .slice (some ⟨W.heap.size, 0, none⟩) 1 1]).run Tryz.prog (W.alloc (.cells #[.int .i64 (-2 * (i : Int) - 2)] 3)) = .ok (.slice (some ⟨g', 0, none⟩) (L i + j + 1) c') w' ∧ H2i17 wi w' B L i g' c' (j + 1) := by
  obtain ⟨F, hR, hF1, hF2⟩ := h.row
  obtain ⟨W1, hW1⟩ : ∃ W1, W1 = W.alloc (.cells #[.int .i64 (-2 * (i : Int) - 2)] 3) := ⟨_, rfl⟩
  have hb0 : Below W.heap.size W W1 := by rw [hW1]; exact (Below.refl _ _).alloc (Nat.le_refl _) _
  have hsz : W1.heap.size = W.heap.size + 1 := by rw [hW1]; simp
  have hcell : ∀ k, k < 1 → W1.cell? ⟨W.heap.size, 0 + k, none⟩ = some (.int .i64 (((fun _ => -2 * (i : Int) - 2) k : Int))) := by
    intro k hk
    obtain rfl : k = 0 := by omega
    rw [hW1, cell_of_row _ W.heap.size (0 + 0) _ _ _ (heap_alloc_new _ _)]
    rfl
  have hzi := h.ke.size
  have hlt := h.lt
  obtain ⟨w', g', c', F', hrun, hC, hR', hG1, hG2, hcase⟩ := appi W1 (g := g) (C := c) (L := L i + j) (ri_below hR hb0) h.le (x := some ⟨W.heap.size, 0, none⟩) (n := 1) (cx := 1) (S := fun _ => -2 * (i : Int) - 2) (fun _ => ⟨_, _, rfl, hcell⟩) (by omega)
  rw [← hW1]
  refine ⟨w', g', c', hrun, ?_⟩
  have k0 := ke_below hb0 (fun x => x = B i)
  have hgs : ∀ x, x < L i → F' x = -2 * (i : Int) - 1 := fun x hx => by rw [hG1 x (by omega)]; exact hF1 x hx
  have hge : ∀ x, L i ≤ x → x < L i + (j + 1) → F' x = -2 * (i : Int) - 2 := fun x h1 h2 => by
    by_cases e : x < L i + j
    · rw [hG1 x e]; exact hF2 x h1 e
    · have e2 : x = L i + j + 0 := by omega
      rw [e2]; exact hG2 0 (by decide)
  rcases hcase with ⟨e, ho⟩ | ⟨e, hs, hb⟩
  · subst e
    have hz := ho.2.1
    refine ⟨⟨(h.ke.1.trans k0.1).trans ho.kp.ke.1, fun x hx hn => ?_⟩, h.loc, by omega, ⟨F', hR', hgs, hge⟩, fun x hx => ?_, hlt⟩
    · have ne : x ≠ g' := by
        rcases h.loc with e | e
        · rw [e]; exact hn
        · omega
      rw [ho.2.2 x ne, k0.2 x (by omega) hn, h.ke.2 x hx hn]
    · by_cases e : B i = g'
      · have q := hR'.2.2.cell (i := x) (by omega)
        rw [hgs x hx, ← e] at q
        exact q
      · rw [ho.kp.ke.cell (by omega) e, hb0.cell (p := ⟨B i, x, none⟩) (by show B i < _; omega)]
        exact h.old x hx
  · refine ⟨(h.ke.trans k0).trans (ke_below hb _), .inr (by omega), by omega, ⟨F', hR', hgs, hge⟩, fun x hx => ?_, hlt⟩
    rw [hb.cell (p := ⟨B i, x, none⟩) (by show B i < _; omega), hb0.cell (p := ⟨B i, x, none⟩) (by show B i < _; omega)]
    exact h.old x hx
theorem G2i17.next (h : G2i17 w wi lb gb N B L C i G Cg) (hi : i < N) (k : H2i17 wi W B L i g c 80) : G2i17 w (W.setCell ⟨gb, i, none⟩ (.slice (some ⟨g, 0, none⟩) (L i + 80) c)) lb gb N B L C (i + 1) (up17 G i g) (up17 Cg i c) := by
  have o : Only gb W (W.setCell ⟨gb, i, none⟩ (.slice (some ⟨g, 0, none⟩) (L i + 80) c)) := (Only.refl _ _).setCell _ _
  have hgl := h.gs.lt
  have hzi := k.ke.size
  have hbi := h.bg i hi
  have g1 := h.gs.of_block (k.ke.2 gb hgl (fun e => by have e' : gb = B i := e; omega))
  have hlg := h.lg
  refine ⟨fun r hr => ?_, (g1.set i _).congr (fun r hr => ?_), fun r hr hir => ?_, fun r hr x hx => ?_, fun r hr => ?_, h.inj, h.ne, h.bg, h.lg, h.cl, ?_, h.gw⟩
  · rw [o.kp.ke.cell (by omega) (fun e => by have e' : lb = gb := e; omega), k.ke.cell (by omega) (fun e => h.ne i hi e.symm)]
    exact h.cell r hr
  · show (if r = i then _ else _) = _
    by_cases e : r = i
    · subst e; rw [if_pos rfl, if_pos (Nat.lt_succ_self _), up17_at, up17_at]
    · rw [if_neg e, up17_ne _ _ e, up17_ne _ _ e]
      exact if_iff17 ⟨fun x => by omega, fun x => by omega⟩ _ _
  · obtain ⟨F, h1, h2⟩ := h.old r hr (by omega)
    have hbr := h.bg r hr
    exact ⟨F, o.ri_ (ke_ri17 k.ke h1 (fun e => by have := h.inj r i hr hi e; omega)) (by omega), h2⟩
  · have hbr := h.bg r hr
    rw [o.kp.ke.cell (by omega) (fun e => by have e' : B r = gb := e; omega)]
    by_cases e : r = i
    · subst e; exact k.old x hx
    · rw [k.ke.cell (by omega) (fun e2 => e (h.inj r i hr hi e2))]
      exact h.oc r hr x hx
  · by_cases e : r = i
    · subst e
      rw [up17_at, up17_at]
      obtain ⟨F, h1, h2, h3⟩ := k.row
      have hne : g ≠ gb := by
        rcases k.loc with e | e <;> omega
      refine ⟨k.le, ?_, F, o.ri_ h1 hne, h2, h3⟩
      rcases k.loc with e | e
      · exact .inl e
      · exact .inr (by omega)
    · rw [up17_ne _ _ e, up17_ne _ _ e]
      obtain ⟨a1, a2, F, h1, h2, h3⟩ := h.new r (by omega)
      have hbr := h.bg r (by omega)
      have ne1 : G r ≠ B i := fun e2 => by
        rcases a2 with a2 | a2
        · exact e (h.inj r i (by omega) hi (a2.symm.trans e2))
        · omega
      have ne2 : G r ≠ gb := by
        rcases a2 with a2 | a2 <;> omega
      exact ⟨a1, a2, F, o.ri_ (ke_ri17 k.ke h1 ne1) ne2, h2, h3⟩
  · have k2 : Ke (fun x => ∃ r, r < N ∧ x = B r) w W := h.ke.trans (k.ke.mono (fun x _ e => ⟨i, hi, e⟩))
    refine ⟨k2.1.trans o.kp.ke.1, fun x hx hn => ?_⟩
    have hgw := h.gw
    rw [o.2.2 x (by omega), k2.2 x hx hn]
end
set_option maxHeartbeats 4000000 in
set_option maxRecDepth 100000 in
theorem law_apartInts17 (lb N lcap : Nat) (B L C : Nat → Nat) (F0 : Nat → Nat → Int) (w : World) (hN : N ≤ 100) (M : A1i17 w w lb N B L C F0) :
    Calls Tryz.prog 28 #[.slice (some ⟨lb, 0, none⟩) N lcap] w fun e w' => e = .returned (.bool true) ∧ Ke (fun x => ∃ r, r < N ∧ x = B r) w w' := by
  have hmk := run_make_row' (P := Tryz.prog) 28 40 (.slice none 0 0) 24 Tryz.underlying28 info_i17g rfl .i64 .i64 N (by omega) (by omega)
  have HM : Hid _ := M
  have HL : Hid (∀ r, r < N → L r ≤ 1000) := fun r hr => (M.cl r hr).2
  clear M
  go_enter Tryz.func28, Tryz.ntmps28
  go_wp2
  go_loopw [3, 4] (fun iv _ wr => ∃ i : Nat, i ≤ N ∧ iv = .int .i64 i ∧ ∃ F, A1i17 w wr lb N B L C F ∧ ∀ r, r < i → ∀ x, x < L r → F r x = -2 * (r : Int) - 1) (fun iv _ _ => N - (intOf iv).toNat)
  case atStart => exact ⟨0, Nat.zero_le _, rfl, F0, HM.out, fun r hr => absurd hr (Nat.not_lt_zero _)⟩
  case round =>
    obtain ⟨i, hi, rfl, F, hA, hF⟩ := hrel
    clear HM
    by_cases hlt : i < N
    · have iN : ((i : Nat) : Int) < (N : Int) := by omega
      have jL := HL.out i hlt
      have hAF := And.intro hA hF
      have HQ : Hid _ := hAF
      clear hA hF hAF hmk
      go_wp2
      go_loopw [4] (fun jv wq => ∃ j : Nat, j ≤ L i ∧ jv = .int .i64 j ∧ ∃ F, A1i17 w wq lb N B L C F ∧ (∀ r, r < i → ∀ x, x < L r → F r x = -2 * (r : Int) - 1) ∧ ∀ x, x < j → F i x = -2 * (i : Int) - 1) (fun jv _ => L i - (intOf jv).toNat)
      case atStart => exact ⟨0, Nat.zero_le _, rfl, F, HQ.out.1, HQ.out.2, fun x hx => absurd hx (Nat.not_lt_zero _)⟩
      case round =>
        obtain ⟨j, hj, rfl, F1, hA, hF, hG⟩ := hrel
        clear HQ
        have q1 := hA.cell i hlt
        by_cases hjl : j < L i
        · have jN : ((j : Nat) : Int) < (L i : Int) := by omega
          have q2 := (hA.row i hlt).2.2.cell (i := j) (by have := hA.cl i hlt; omega)
          have f2 := (hA.row i hlt).2.2.frozen j
          obtain ⟨z, hz⟩ : ∃ z, z = F1 i j := ⟨_, rfl⟩
          rw [← hz] at q2
          obtain ⟨k, hk⟩ : ∃ k : Int, k = -2 * (i : Int) - 1 := ⟨_, rfl⟩
          have hE := And.intro (hA.set (j := j) (v := k) hlt) (And.intro hF (And.intro hG hk))
          have HE : Hid _ := hE
          have m1 : -2 * (i : Int) - 1 = k := hk.symm
          clear hA hF hG hE hj hz hk
          go_wp2
          go_roundw
          case rel => exact ⟨j + 1, hjl, by go_num, _, HE.out.1, fun r hr x hx => by rw [if_neg (by omega)]; exact HE.out.2.1 r hr x hx, fun x hx => by
            by_cases e : x = j
            · rw [if_pos ⟨rfl, e⟩]; exact HE.out.2.2.2
            · rw [if_neg (fun y => e y.2)]; exact HE.out.2.2.1 x (by omega)⟩
          case measure => simp [intOf]; omega
        · have jN : ¬ ((j : Nat) : Int) < (L i : Int) := by omega
          have hE := And.intro hA (And.intro hF (fun x (hx : x < L i) => hG x (by omega)))
          have HE : Hid _ := hE
          clear hA hF hG hE hj
          go_wp2
          go_roundw
          case rel => exact ⟨i + 1, hlt, by go_num, F1, HE.out.1, fun r hr x hx => by
            by_cases e : r = i
            · subst e; exact HE.out.2.2 x hx
            · exact HE.out.2.1 r (by omega) x hx⟩
          case measure => simp [intOf]; omega
    · obtain rfl : N = i := by omega
      have iN : ¬ ((N : Nat) : Int) < (N : Int) := by omega
      have hG2 := hA.done hF
      clear hA hF
      generalize wr = w1 at *
      have HG : Hid _ := hG2
      clear hG2 hi hlt
      go_wp2
      clear hmk
      go_loopw [6, 7, 8] (fun iv _ _ wq => ∃ i : Nat, i ≤ N ∧ iv = .int .i64 i ∧ ∃ G Cg, G2i17 w wq lb w1.heap.size N B L C i G Cg) (fun iv _ _ _ => N - (intOf iv).toNat)
      case atStart => exact ⟨0, Nat.zero_le _, rfl, _, _, HG.out⟩
      case round =>
        obtain ⟨i, hi, rfl, G, Cg, hG⟩ := hrel
        clear HG
        by_cases hlt : i < N
        · have iN2 : ((i : Nat) : Int) < (N : Int) := by omega
          have jL := HL.out i hlt
          have q1 := hG.cell i hlt
          generalize wr = wi at hG q1 ⊢
          have HG : Hid _ := hG
          clear hG
          go_wp2
          go_loopw [7, 8] (fun gv jv wq => ∃ j : Nat, j ≤ 80 ∧ jv = .int .i64 j ∧ ∃ g c, gv = .slice (some ⟨g, 0, none⟩) (L i + j) c ∧ H2i17 wi wq B L i g c j) (fun _ jv _ => 80 - (intOf jv).toNat)
          case atStart => exact ⟨0, Nat.zero_le _, rfl, _, _, rfl, HG.out.start hlt⟩
          case round =>
            obtain ⟨j, hj, rfl, g, c, rfl, hH⟩ := hrel
            by_cases hjl : j < 80
            · have jN : ((j : Nat) : Int) < 80 := by omega
              obtain ⟨w', g', c', hrun, hH'⟩ := hH.step jL hjl
              
              have HH : Hid _ := hH'
              clear hH hH' hj
              go_wp2_with (at_builtin; refine Lib.wpList_append_run _ rfl _ _ _ _ rfl _ _ rfl rfl _ _ hrun ?_; clear hrun)
              go_roundw
              case rel => exact ⟨j + 1, hjl, by go_num, g', c', rfl, HH.out⟩
              case measure => simp [intOf]; omega
            · obtain rfl : j = 80 := by omega
              have hzi := hH.ke.size
              have hgl := HG.out.gs.lt
              have hbg := HG.out.bg i hlt
              have g1 := HG.out.gs.of_block (hH.ke.2 _ hgl (fun e => by have e' : w1.heap.size = B i := e; omega))
              have q2 := g1.cell hlt
              rw [if_neg (Nat.lt_irrefl _)] at q2
              have f2 := g1.frozen i
              have HE : Hid _ := HG.out.next hlt hH
              clear hH hj hzi hgl hbg g1 hjl
              go_wp2
              go_roundw
              case rel => exact ⟨i + 1, hlt, by go_num, _, _, HE.out⟩
              case measure => simp [intOf]; omega
        · obtain rfl : i = N := by omega
          have iN2 : ¬ ((i : Nat) : Int) < (i : Int) := by omega
          clear hi hlt iN
          generalize wr = wi at hG ⊢
          have HG : Hid _ := hG
          clear hG
          go_wp2
          go_loopw [9, 10, 11] (fun iv _ _ wq => ∃ r : Nat, r ≤ i ∧ iv = .int .i64 r ∧ wq = wi) (fun iv _ _ _ => i - (intOf iv).toNat)
          case atStart => exact ⟨0, Nat.zero_le _, rfl, rfl⟩
          case round =>
            obtain ⟨r, hr, rfl, hw⟩ := hrel
            subst hw
            by_cases hlt : r < i
            · have iN : ((r : Nat) : Int) < (i : Int) := by omega
              have jL := HL.out r hlt
              have q1 := HG.out.cell r hlt
              have q2 := HG.out.gs.cell hlt
              rw [if_pos hlt] at q2
              obtain ⟨a1, a2, F, hR, hF1, hF2⟩ := HG.out.new r hlt
              have HR : Hid ((∀ x, x < L r → wr.cell? ⟨G r, x, none⟩ = some (.int .i64 (-2 * (r : Int) - 1))) ∧ (∀ x, L r ≤ x → x < L r + 80 → wr.cell? ⟨G r, x, none⟩ = some (.int .i64 (-2 * (r : Int) - 2))) ∧ ∀ x, x < L r → wr.cell? ⟨B r, x, none⟩ = some (.int .i64 (-2 * (r : Int) - 1))) := ⟨fun x hx => by have q := hR.2.2.cell (i := x) (by omega); rw [hF1 x hx] at q; exact q, fun x h1 h2 => by have q := hR.2.2.cell (i := x) (by omega); rw [hF2 x h1 h2] at q; exact q, HG.out.oc r hlt⟩
              clear hR hF1 hF2 a1 a2 hr
              go_wp2
              go_loopw [11] (fun jv wq => ∃ j : Nat, j ≤ L r + 80 ∧ jv = .int .i64 j ∧ wq = wr) (fun jv _ => L r + 80 - (intOf jv).toNat)
              case atStart => exact ⟨0, Nat.zero_le _, rfl, rfl⟩
              case round =>
                obtain ⟨j, hj, rfl, hw⟩ := hrel
                subst hw
                by_cases hjl : j < L r + 80
                · have jN : ((j : Nat) : Int) < ((L r + 80 : Nat) : Int) := by omega
                  by_cases h6 : j < L r
                  · have q3 := HR.out.1 j h6
                    have q4 := HR.out.2.2 j h6
                    have j6 : ((j : Nat) : Int) < (L r : Int) := by omega
                    have j7 : ¬ (L r : Int) ≤ ((j : Nat) : Int) := by omega
                    
                    go_wp2
                    go_roundw
                    case rel => exact ⟨j + 1, by omega, by go_num, by first | rfl | trivial⟩
                    case measure => simp [intOf]; omega
                  · have q3 := HR.out.2.1 j (by omega) hjl
                    have j6 : ¬ ((j : Nat) : Int) < (L r : Int) := by omega
                    have j7 : (L r : Int) ≤ ((j : Nat) : Int) := by omega
                    
                    go_wp2
                    go_roundw
                    case rel => exact ⟨j + 1, by omega, by go_num, by first | rfl | trivial⟩
                    case measure => simp [intOf]; omega
                · have jN : ¬ ((j : Nat) : Int) < ((L r + 80 : Nat) : Int) := by omega
                  go_wp2
                  go_roundw
                  case rel => exact ⟨r + 1, hlt, by go_num, by first | rfl | trivial⟩
                  case measure => simp [intOf]; omega
            · have iN : ¬ ((r : Nat) : Int) < (i : Int) := by omega
              have HE : Hid _ := HG.out.ke
              clear HG
              go_wp2
              go_ret
              exact ⟨rfl, HE.out⟩
end Go.Proofs.YtaoapplbcgflmaaGreat
namespace Go.Proofs.YtaoapplbcgflmaaGreat
open Go.RowKit Gf2
set_option linter.unusedVariables false

-- layer 17: lists that are marked and grown (culletlaw17.apart)
theorem info_b17g : (Tryz.prog.info? 27).map (fun i => (i.zero, i.size, i.bytes)) = some (some (Value.slice none 0 0), 1, 24) := by kernel_rfl
/-- N lists, each at the head of a block of its own, laid in the row lb. -/
structure A1b17 (w W : World) (lb N : Nat) (B L C : Nat → Nat) (F : Nat → Nat → Nat) : Prop where
  cell : ∀ r, r < N → W.cell? ⟨lb, r, none⟩ = some (.slice (some ⟨B r, 0, none⟩) (L r) (C r))
  row : ∀ r, r < N → Rw W (B r) (C r) (F r)
  inj : ∀ r s, r < N → s < N → B r = B s → r = s
  ne : ∀ r, r < N → B r ≠ lb
  lh : lb < W.heap.size
  cl : ∀ r, r < N → L r ≤ C r ∧ L r ≤ 1000
  ke : Ke (fun x => ∃ r, r < N ∧ x = B r) w W
section
variable {w W : World} {lb N : Nat} {B L C : Nat → Nat} {F : Nat → Nat → Nat}
theorem A1b17.set (h : A1b17 w W lb N B L C F) {i j : Nat} {v : Nat} (hi : i < N) (hv : v < 256) : A1b17 w (W.setCell ⟨B i, j, none⟩ (.int .u8 (v : Nat))) lb N B L C (fun r x => if r = i ∧ x = j then v else F r x) := by
  refine ⟨fun r hr => ?_, fun r hr => ?_, h.inj, h.ne, by simpa using h.lh, h.cl, h.ke.trans ((((Only.refl (B i) W).setCell j _).kp.ke).mono (fun x _ e => ⟨i, hi, e⟩))⟩
  · rw [World.cell?_of_block (w := W) (Below.heap_setCell _ _ _ _ (fun e => h.ne i hi e.symm))]
    exact h.cell r hr
  · by_cases e : r = i
    · subst e
      refine ((h.row r hr).set j v hv).congr (fun x hx => ?_)
      by_cases e2 : x = j
      · rw [if_pos e2, if_pos ⟨rfl, e2⟩]
      · rw [if_neg e2, if_neg (fun y => e2 y.2)]
    · have o : Only (B i) W (W.setCell ⟨B i, j, none⟩ (.int .u8 (v : Nat))) := (Only.refl _ _).setCell _ _
      refine (o.rw_ (h.row r hr) (fun e2 => e (h.inj r i hr hi e2))).congr (fun x hx => ?_)
      rw [if_neg (fun y => e y.1)]
end
/-- the lists marked, i of them grown. -/
structure G2b17 (w W : World) (lb gb N : Nat) (B L C : Nat → Nat) (i : Nat) (G Cg : Nat → Nat) : Prop where
  cell : ∀ r, r < N → W.cell? ⟨lb, r, none⟩ = some (.slice (some ⟨B r, 0, none⟩) (L r) (C r))
  gs : W.rowIs gb 27 N (fun r => if r < i then .slice (some ⟨G r, 0, none⟩) (L r + 80) (Cg r) else .slice none 0 0)
  old : ∀ r, r < N → i ≤ r → ∃ F, Rw W (B r) (C r) F ∧ ∀ x, x < L r → F x = 2 * r + 1
  oc : ∀ r, r < N → ∀ x, x < L r → W.cell? ⟨B r, x, none⟩ = some (.int .u8 (2 * r + 1))
  new : ∀ r, r < i → L r + 80 ≤ Cg r ∧ (G r = B r ∨ gb < G r) ∧ ∃ F, Rw W (G r) (Cg r) F ∧ (∀ x, x < L r → F x = 2 * r + 1) ∧ ∀ x, L r ≤ x → x < L r + 80 → F x = 2 * r + 2
  inj : ∀ r s, r < N → s < N → B r = B s → r = s
  ne : ∀ r, r < N → B r ≠ lb
  bg : ∀ r, r < N → B r < gb
  lg : lb < gb
  cl : ∀ r, r < N → L r ≤ C r ∧ L r ≤ 1000
  ke : Ke (fun x => ∃ r, r < N ∧ x = B r) w W
  gw : w.heap.size ≤ gb
theorem A1b17.done {w W : World} {lb N : Nat} {B L C : Nat → Nat} {F : Nat → Nat → Nat} (h : A1b17 w W lb N B L C F) (hF : ∀ r, r < N → ∀ x, x < L r → F r x = 2 * r + 1) :
    G2b17 w (W.alloc (.cells (madeCells #[.slice none 0 0] N) 27)) lb W.heap.size N B L C 0 (fun _ => 0) (fun _ => 0) := by
  have hb : Below W.heap.size W (W.alloc (.cells (madeCells #[.slice none 0 0] N) 27)) := (Below.refl _ _).alloc (Nat.le_refl _) _
  refine ⟨fun r hr => (hb.cell (p := ⟨lb, r, none⟩) h.lh).trans (h.cell r hr), (World.rowIs_made W (.slice none 0 0) N 27).congr (fun r _ => (if_neg (Nat.not_lt_zero _)).symm), fun r hr _ => ⟨_, rw_below (h.row r hr) hb, hF r hr⟩, fun r hr x hx => by
    have q := (rw_below (h.row r hr) hb).2.2.cell (i := x) (by have := h.cl r hr; omega)
    rw [hF r hr x hx] at q
    exact q, fun r hr => absurd hr (Nat.not_lt_zero _), h.inj, h.ne, fun r hr => (h.row r hr).lt, h.lh, h.cl, h.ke.trans (ke_below hb _), h.ke.size⟩
/-- one list while it grows. -/
structure H2b17 (wi W : World) (B L : Nat → Nat) (i g c j : Nat) : Prop where
  ke : Ke (fun x => x = B i) wi W
  loc : g = B i ∨ wi.heap.size ≤ g
  le : L i + j ≤ c
  row : ∃ F, Rw W g c F ∧ (∀ x, x < L i → F x = 2 * i + 1) ∧ ∀ x, L i ≤ x → x < L i + j → F x = 2 * i + 2
  old : ∀ x, x < L i → W.cell? ⟨B i, x, none⟩ = some (.int .u8 (2 * i + 1))
  lt : B i < wi.heap.size
section
variable {w wi W : World} {lb gb N : Nat} {B L C G Cg : Nat → Nat} {i g c j : Nat}
theorem G2b17.start (h : G2b17 w wi lb gb N B L C i G Cg) (hi : i < N) : H2b17 wi wi B L i (B i) (C i) 0 := by
  obtain ⟨F, h1, h2⟩ := h.old i hi (Nat.le_refl _)
  exact ⟨Ke.refl _ _, .inl rfl, (h.cl i hi).1, ⟨F, h1, h2, fun x a b => by omega⟩, h.oc i hi, h1.lt⟩
theorem H2b17.step (h : H2b17 wi W B L i g c j) (hL : L i ≤ 1000) (hj : j < 80) (hi : i < 100) :
    ∃ w' g' c', (Builtin.append_ #[27, 27] 27 #[.slice (some ⟨g, 0, none⟩) (L i + j) c, .slice (some ⟨W.heap.size, 0, none⟩) 1 1]).run Tryz.prog (W.alloc (.cells #[.int .u8 (2 * i + 2)] 5)) = .ok (.slice (some ⟨g', 0, none⟩) (L i + j + 1) c') w' ∧ H2b17 wi w' B L i g' c' (j + 1) := by
  obtain ⟨F, hR, hF1, hF2⟩ := h.row
  obtain ⟨W1, hW1⟩ : ∃ W1, W1 = W.alloc (.cells #[.int .u8 (2 * i + 2)] 5) := ⟨_, rfl⟩
  have hb0 : Below W.heap.size W W1 := by rw [hW1]; exact (Below.refl _ _).alloc (Nat.le_refl _) _
  have hsz : W1.heap.size = W.heap.size + 1 := by rw [hW1]; simp
  have hcell : ∀ k, k < 1 → W1.cell? ⟨W.heap.size, 0 + k, none⟩ = some (.int .u8 (((fun _ => 2 * i + 2) k : Nat))) := by
    intro k hk
    obtain rfl : k = 0 := by omega
    rw [hW1, cell_of_row _ W.heap.size (0 + 0) _ _ _ (heap_alloc_new _ _)]
    rfl
  have hzi := h.ke.size
  have hlt := h.lt
  obtain ⟨w', g', c', F', hrun, hC, hR', hG1, hG2, hcase⟩ := app8 W1 (g := g) (C := c) (L := L i + j) (rw_below hR hb0) h.le (x := some ⟨W.heap.size, 0, none⟩) (n := 1) (cx := 1) (S := fun _ => 2 * i + 2) (fun _ _ => by omega) (fun _ => ⟨_, _, rfl, hcell⟩) (by omega)
  rw [← hW1]
  refine ⟨w', g', c', hrun, ?_⟩
  have k0 := ke_below hb0 (fun x => x = B i)
  have hgs : ∀ x, x < L i → F' x = 2 * i + 1 := fun x hx => by rw [hG1 x (by omega)]; exact hF1 x hx
  have hge : ∀ x, L i ≤ x → x < L i + (j + 1) → F' x = 2 * i + 2 := fun x h1 h2 => by
    by_cases e : x < L i + j
    · rw [hG1 x e]; exact hF2 x h1 e
    · have e2 : x = L i + j + 0 := by omega
      rw [e2]; exact hG2 0 (by decide)
  rcases hcase with ⟨e, ho⟩ | ⟨e, hs, hb⟩
  · subst e
    have hz := ho.2.1
    refine ⟨⟨(h.ke.1.trans k0.1).trans ho.kp.ke.1, fun x hx hn => ?_⟩, h.loc, by omega, ⟨F', hR', hgs, hge⟩, fun x hx => ?_, hlt⟩
    · have ne : x ≠ g' := by
        rcases h.loc with e | e
        · rw [e]; exact hn
        · omega
      rw [ho.2.2 x ne, k0.2 x (by omega) hn, h.ke.2 x hx hn]
    · by_cases e : B i = g'
      · have q := hR'.2.2.cell (i := x) (by omega)
        rw [hgs x hx, ← e] at q
        exact q
      · rw [ho.kp.ke.cell (by omega) e, hb0.cell (p := ⟨B i, x, none⟩) (by show B i < _; omega)]
        exact h.old x hx
  · refine ⟨(h.ke.trans k0).trans (ke_below hb _), .inr (by omega), by omega, ⟨F', hR', hgs, hge⟩, fun x hx => ?_, hlt⟩
    rw [hb.cell (p := ⟨B i, x, none⟩) (by show B i < _; omega), hb0.cell (p := ⟨B i, x, none⟩) (by show B i < _; omega)]
    exact h.old x hx
theorem G2b17.next (h : G2b17 w wi lb gb N B L C i G Cg) (hi : i < N) (k : H2b17 wi W B L i g c 80) : G2b17 w (W.setCell ⟨gb, i, none⟩ (.slice (some ⟨g, 0, none⟩) (L i + 80) c)) lb gb N B L C (i + 1) (up17 G i g) (up17 Cg i c) := by
  have o : Only gb W (W.setCell ⟨gb, i, none⟩ (.slice (some ⟨g, 0, none⟩) (L i + 80) c)) := (Only.refl _ _).setCell _ _
  have hgl := h.gs.lt
  have hzi := k.ke.size
  have hbi := h.bg i hi
  have g1 := h.gs.of_block (k.ke.2 gb hgl (fun e => by have e' : gb = B i := e; omega))
  have hlg := h.lg
  refine ⟨fun r hr => ?_, (g1.set i _).congr (fun r hr => ?_), fun r hr hir => ?_, fun r hr x hx => ?_, fun r hr => ?_, h.inj, h.ne, h.bg, h.lg, h.cl, ?_, h.gw⟩
  · rw [o.kp.ke.cell (by omega) (fun e => by have e' : lb = gb := e; omega), k.ke.cell (by omega) (fun e => h.ne i hi e.symm)]
    exact h.cell r hr
  · show (if r = i then _ else _) = _
    by_cases e : r = i
    · subst e; rw [if_pos rfl, if_pos (Nat.lt_succ_self _), up17_at, up17_at]
    · rw [if_neg e, up17_ne _ _ e, up17_ne _ _ e]
      exact if_iff17 ⟨fun x => by omega, fun x => by omega⟩ _ _
  · obtain ⟨F, h1, h2⟩ := h.old r hr (by omega)
    have hbr := h.bg r hr
    exact ⟨F, o.rw_ (Ke.rw_ k.ke h1 (fun e => by have := h.inj r i hr hi e; omega)) (by omega), h2⟩
  · have hbr := h.bg r hr
    rw [o.kp.ke.cell (by omega) (fun e => by have e' : B r = gb := e; omega)]
    by_cases e : r = i
    · subst e; exact k.old x hx
    · rw [k.ke.cell (by omega) (fun e2 => e (h.inj r i hr hi e2))]
      exact h.oc r hr x hx
  · by_cases e : r = i
    · subst e
      rw [up17_at, up17_at]
      obtain ⟨F, h1, h2, h3⟩ := k.row
      have hne : g ≠ gb := by
        rcases k.loc with e | e <;> omega
      refine ⟨k.le, ?_, F, o.rw_ h1 hne, h2, h3⟩
      rcases k.loc with e | e
      · exact .inl e
      · exact .inr (by omega)
    · rw [up17_ne _ _ e, up17_ne _ _ e]
      obtain ⟨a1, a2, F, h1, h2, h3⟩ := h.new r (by omega)
      have hbr := h.bg r (by omega)
      have ne1 : G r ≠ B i := fun e2 => by
        rcases a2 with a2 | a2
        · exact e (h.inj r i (by omega) hi (a2.symm.trans e2))
        · omega
      have ne2 : G r ≠ gb := by
        rcases a2 with a2 | a2 <;> omega
      exact ⟨a1, a2, F, o.rw_ (Ke.rw_ k.ke h1 ne1) ne2, h2, h3⟩
  · have k2 : Ke (fun x => ∃ r, r < N ∧ x = B r) w W := h.ke.trans (k.ke.mono (fun x _ e => ⟨i, hi, e⟩))
    refine ⟨k2.1.trans o.kp.ke.1, fun x hx hn => ?_⟩
    have hgw := h.gw
    rw [o.2.2 x (by omega), k2.2 x hx hn]
end
set_option maxHeartbeats 4000000 in
set_option maxRecDepth 100000 in
theorem law_apart17 (lb N lcap : Nat) (B L C : Nat → Nat) (F0 : Nat → Nat → Nat) (w : World) (hN : N ≤ 100) (M : A1b17 w w lb N B L C F0) :
    Calls Tryz.prog 29 #[.slice (some ⟨lb, 0, none⟩) N lcap] w fun e w' => e = .returned (.bool true) ∧ Ke (fun x => ∃ r, r < N ∧ x = B r) w w' := by
  have hmk := run_make_row' (P := Tryz.prog) 33 27 (.slice none 0 0) 24 Tryz.underlying33 info_b17g rfl .i64 .i64 N (by omega) (by omega)
  have HM : Hid _ := M
  have HL : Hid (∀ r, r < N → L r ≤ 1000) := fun r hr => (M.cl r hr).2
  clear M
  go_enter Tryz.func29, Tryz.ntmps29
  go_wp2
  go_loopw [3, 4] (fun iv _ wr => ∃ i : Nat, i ≤ N ∧ iv = .int .i64 i ∧ ∃ F, A1b17 w wr lb N B L C F ∧ ∀ r, r < i → ∀ x, x < L r → F r x = 2 * r + 1) (fun iv _ _ => N - (intOf iv).toNat)
  case atStart => exact ⟨0, Nat.zero_le _, rfl, F0, HM.out, fun r hr => absurd hr (Nat.not_lt_zero _)⟩
  case round =>
    obtain ⟨i, hi, rfl, F, hA, hF⟩ := hrel
    clear HM
    by_cases hlt : i < N
    · have iN : ((i : Nat) : Int) < (N : Int) := by omega
      have jL := HL.out i hlt
      have hAF := And.intro hA hF
      have HQ : Hid _ := hAF
      clear hA hF hAF hmk
      go_wp2
      go_loopw [4] (fun jv wq => ∃ j : Nat, j ≤ L i ∧ jv = .int .i64 j ∧ ∃ F, A1b17 w wq lb N B L C F ∧ (∀ r, r < i → ∀ x, x < L r → F r x = 2 * r + 1) ∧ ∀ x, x < j → F i x = 2 * i + 1) (fun jv _ => L i - (intOf jv).toNat)
      case atStart => exact ⟨0, Nat.zero_le _, rfl, F, HQ.out.1, HQ.out.2, fun x hx => absurd hx (Nat.not_lt_zero _)⟩
      case round =>
        obtain ⟨j, hj, rfl, F1, hA, hF, hG⟩ := hrel
        clear HQ
        have q1 := hA.cell i hlt
        by_cases hjl : j < L i
        · have jN : ((j : Nat) : Int) < (L i : Int) := by omega
          have q2 := (hA.row i hlt).2.2.cell (i := j) (by have := hA.cl i hlt; omega)
          have f2 := (hA.row i hlt).2.2.frozen j
          obtain ⟨z, hz⟩ : ∃ z, z = F1 i j := ⟨_, rfl⟩
          rw [← hz] at q2
          obtain ⟨k, hk⟩ : ∃ k : Nat, k = 2 * i + 1 := ⟨_, rfl⟩
          have hE := And.intro (hA.set (j := j) (v := k) hlt (by omega)) (And.intro hF (And.intro hG hk))
          have HE : Hid _ := hE
          have m1 : IntKind.u8.wrap (2 * (i : Int) + 1) = (k : Int) := by rw [IntKind.wrap_u8]; omega
          clear hA hF hG hE hj hz hk
          go_wp2
          go_roundw
          case rel => exact ⟨j + 1, hjl, by go_num, _, HE.out.1, fun r hr x hx => by rw [if_neg (by omega)]; exact HE.out.2.1 r hr x hx, fun x hx => by
            by_cases e : x = j
            · rw [if_pos ⟨rfl, e⟩]; exact HE.out.2.2.2
            · rw [if_neg (fun y => e y.2)]; exact HE.out.2.2.1 x (by omega)⟩
          case measure => simp [intOf]; omega
        · have jN : ¬ ((j : Nat) : Int) < (L i : Int) := by omega
          have hE := And.intro hA (And.intro hF (fun x (hx : x < L i) => hG x (by omega)))
          have HE : Hid _ := hE
          clear hA hF hG hE hj
          go_wp2
          go_roundw
          case rel => exact ⟨i + 1, hlt, by go_num, F1, HE.out.1, fun r hr x hx => by
            by_cases e : r = i
            · subst e; exact HE.out.2.2 x hx
            · exact HE.out.2.1 r (by omega) x hx⟩
          case measure => simp [intOf]; omega
    · obtain rfl : N = i := by omega
      have iN : ¬ ((N : Nat) : Int) < (N : Int) := by omega
      have hG2 := hA.done hF
      clear hA hF
      generalize wr = w1 at *
      have HG : Hid _ := hG2
      clear hG2 hi hlt
      go_wp2
      clear hmk
      go_loopw [6, 7, 8] (fun iv _ _ wq => ∃ i : Nat, i ≤ N ∧ iv = .int .i64 i ∧ ∃ G Cg, G2b17 w wq lb w1.heap.size N B L C i G Cg) (fun iv _ _ _ => N - (intOf iv).toNat)
      case atStart => exact ⟨0, Nat.zero_le _, rfl, _, _, HG.out⟩
      case round =>
        obtain ⟨i, hi, rfl, G, Cg, hG⟩ := hrel
        clear HG
        by_cases hlt : i < N
        · have iN2 : ((i : Nat) : Int) < (N : Int) := by omega
          have jL := HL.out i hlt
          have q1 := hG.cell i hlt
          generalize wr = wi at hG q1 ⊢
          have HG : Hid _ := hG
          clear hG
          go_wp2
          go_loopw [7, 8] (fun gv jv wq => ∃ j : Nat, j ≤ 80 ∧ jv = .int .i64 j ∧ ∃ g c, gv = .slice (some ⟨g, 0, none⟩) (L i + j) c ∧ H2b17 wi wq B L i g c j) (fun _ jv _ => 80 - (intOf jv).toNat)
          case atStart => exact ⟨0, Nat.zero_le _, rfl, _, _, rfl, HG.out.start hlt⟩
          case round =>
            obtain ⟨j, hj, rfl, g, c, rfl, hH⟩ := hrel
            by_cases hjl : j < 80
            · have jN : ((j : Nat) : Int) < 80 := by omega
              obtain ⟨w', g', c', hrun, hH'⟩ := hH.step jL hjl (by omega)
              have m1 : IntKind.u8.wrap (2 * (i : Int) + 2) = 2 * (i : Int) + 2 := by rw [IntKind.wrap_u8]; omega
              have HH : Hid _ := hH'
              clear hH hH' hj
              go_wp2_with (at_builtin; refine Lib.wpList_append_run _ rfl _ _ _ _ rfl _ _ rfl rfl _ _ hrun ?_; clear hrun)
              go_roundw
              case rel => exact ⟨j + 1, hjl, by go_num, g', c', rfl, HH.out⟩
              case measure => simp [intOf]; omega
            · obtain rfl : j = 80 := by omega
              have hzi := hH.ke.size
              have hgl := HG.out.gs.lt
              have hbg := HG.out.bg i hlt
              have g1 := HG.out.gs.of_block (hH.ke.2 _ hgl (fun e => by have e' : w1.heap.size = B i := e; omega))
              have q2 := g1.cell hlt
              rw [if_neg (Nat.lt_irrefl _)] at q2
              have f2 := g1.frozen i
              have HE : Hid _ := HG.out.next hlt hH
              clear hH hj hzi hgl hbg g1 hjl
              go_wp2
              go_roundw
              case rel => exact ⟨i + 1, hlt, by go_num, _, _, HE.out⟩
              case measure => simp [intOf]; omega
        · obtain rfl : i = N := by omega
          have iN2 : ¬ ((i : Nat) : Int) < (i : Int) := by omega
          clear hi hlt iN
          generalize wr = wi at hG ⊢
          have HG : Hid _ := hG
          clear hG
          go_wp2
          go_loopw [9, 10, 11] (fun iv _ _ wq => ∃ r : Nat, r ≤ i ∧ iv = .int .i64 r ∧ wq = wi) (fun iv _ _ _ => i - (intOf iv).toNat)
          case atStart => exact ⟨0, Nat.zero_le _, rfl, rfl⟩
          case round =>
            obtain ⟨r, hr, rfl, hw⟩ := hrel
            subst hw
            by_cases hlt : r < i
            · have iN : ((r : Nat) : Int) < (i : Int) := by omega
              have jL := HL.out r hlt
              have q1 := HG.out.cell r hlt
              have q2 := HG.out.gs.cell hlt
              rw [if_pos hlt] at q2
              obtain ⟨a1, a2, F, hR, hF1, hF2⟩ := HG.out.new r hlt
              have HR : Hid ((∀ x, x < L r → wr.cell? ⟨G r, x, none⟩ = some (.int .u8 (2 * r + 1))) ∧ (∀ x, L r ≤ x → x < L r + 80 → wr.cell? ⟨G r, x, none⟩ = some (.int .u8 (2 * r + 2))) ∧ ∀ x, x < L r → wr.cell? ⟨B r, x, none⟩ = some (.int .u8 (2 * r + 1))) := ⟨fun x hx => by have q := hR.2.2.cell (i := x) (by omega); rw [hF1 x hx] at q; exact q, fun x h1 h2 => by have q := hR.2.2.cell (i := x) (by omega); rw [hF2 x h1 h2] at q; exact q, HG.out.oc r hlt⟩
              clear hR hF1 hF2 a1 a2 hr
              go_wp2
              go_loopw [11] (fun jv wq => ∃ j : Nat, j ≤ L r + 80 ∧ jv = .int .i64 j ∧ wq = wr) (fun jv _ => L r + 80 - (intOf jv).toNat)
              case atStart => exact ⟨0, Nat.zero_le _, rfl, rfl⟩
              case round =>
                obtain ⟨j, hj, rfl, hw⟩ := hrel
                subst hw
                by_cases hjl : j < L r + 80
                · have jN : ((j : Nat) : Int) < ((L r + 80 : Nat) : Int) := by omega
                  by_cases h6 : j < L r
                  · have q3 := HR.out.1 j h6
                    have q4 := HR.out.2.2 j h6
                    have j6 : ((j : Nat) : Int) < (L r : Int) := by omega
                    have j7 : ¬ (L r : Int) ≤ ((j : Nat) : Int) := by omega
                    have m1 : IntKind.u8.wrap (2 * (r : Int) + 1) = 2 * (r : Int) + 1 := by rw [IntKind.wrap_u8]; omega
                    have m2 : IntKind.u8.wrap (2 * (r : Int) + 2) = 2 * (r : Int) + 2 := by rw [IntKind.wrap_u8]; omega
                    go_wp2
                    go_roundw
                    case rel => exact ⟨j + 1, by omega, by go_num, by first | rfl | trivial⟩
                    case measure => simp [intOf]; omega
                  · have q3 := HR.out.2.1 j (by omega) hjl
                    have j6 : ¬ ((j : Nat) : Int) < (L r : Int) := by omega
                    have j7 : (L r : Int) ≤ ((j : Nat) : Int) := by omega
                    have m1 : IntKind.u8.wrap (2 * (r : Int) + 1) = 2 * (r : Int) + 1 := by rw [IntKind.wrap_u8]; omega
                    have m2 : IntKind.u8.wrap (2 * (r : Int) + 2) = 2 * (r : Int) + 2 := by rw [IntKind.wrap_u8]; omega
                    go_wp2
                    go_roundw
                    case rel => exact ⟨j + 1, by omega, by go_num, by first | rfl | trivial⟩
                    case measure => simp [intOf]; omega
                · have jN : ¬ ((j : Nat) : Int) < ((L r + 80 : Nat) : Int) := by omega
                  go_wp2
                  go_roundw
                  case rel => exact ⟨r + 1, hlt, by go_num, by first | rfl | trivial⟩
                  case measure => simp [intOf]; omega
            · have iN : ¬ ((r : Nat) : Int) < (i : Int) := by omega
              have HE : Hid _ := HG.out.ke
              clear HG
              go_wp2
              go_ret
              exact ⟨rfl, HE.out⟩
end Go.Proofs.YtaoapplbcgflmaaGreat
