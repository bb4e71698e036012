import Derived.Test.YthofhphlfgmklaaGreatMzal
namespace Go.Proofs.YthofhphlfgmklaaGreat
open Go.RowKit Gf2
set_option linter.unusedVariables false

-- append to lists whose elements are of one cell each, of whatever type
/-- the element's type te, the list's type ts, the zero value z, the bytes of one element. -/
structure Elm (te ts : TypeId) (z : Value) (bb : Nat) : Prop where
  und : Tryz.prog.underlying ts = some (.slice te)
  info : ∃ i, Tryz.prog.info? te = some i ∧ i.zero = some z ∧ i.size = 1 ∧ i.bytes = bb
  cz : z.cells = #[z]
  pos : 1 ≤ bb
/-- S 0, .., S (n - 1). -/
def vl : Nat → (Nat → Value) → List Value
  | 0, _ => []
  | n + 1, S => S 0 :: vl n (fun i => S (i + 1))
theorem vl_len : ∀ (n : Nat) (S : Nat → Value), (vl n S).length = n
  | 0, _ => rfl
  | n + 1, S => by rw [vl, List.length_cons, vl_len n]
theorem vl_get : ∀ (n : Nat) (S : Nat → Value) (i : Nat), i < n → (vl n S)[i]? = some (S i)
  | 0, _, i, h => absurd h (Nat.not_lt_zero _)
  | n + 1, S, 0, _ => rfl
  | n + 1, S, i + 1, h => by rw [vl, List.getElem?_cons_succ]; exact vl_get n _ i (by omega)
theorem vl_one {n : Nat} {S : Nat → Value} (h1 : ∀ i, i < n → (S i).oneCell' = true) : ∀ u ∈ vl n S, u.oneCell' = true := by
  intro u hu
  obtain ⟨i, hi⟩ := List.getElem?_of_mem hu
  have hl : i < n := by
    rcases Nat.lt_or_ge i n with h | h
    · exact h
    · rw [List.getElem?_eq_none (by rw [vl_len]; exact h)] at hi; cases hi
  rw [vl_get n S i hl] at hi
  cases hi
  exact h1 i hl
/-- S from place o on, n of them. -/
def plv (F : Nat → Value) (o n : Nat) (S : Nat → Value) (i : Nat) : Value := if o ≤ i ∧ i < o + n then S (i - o) else F i
theorem plv_out {F S : Nat → Value} {o n i : Nat} (h : i < o ∨ o + n ≤ i) : plv F o n S i = F i := by unfold plv; rw [if_neg (by omega)]
theorem plv_in {F S : Nat → Value} {o n i : Nat} (h : i < n) : plv F o n S (o + i) = S i := by unfold plv; rw [if_pos (by omega), Nat.add_sub_cancel_left]
theorem setCells_rv {te : TypeId} {g N : Nat} : ∀ (n : Nat) (S : Nat → Value) (o : Nat) (w : World) (F : Nat → Value), w.rowIs g te N F → o + n ≤ N → (w.setCells g o (vl n S)).rowIs g te N (plv F o n S) ∧ Only g w (w.setCells g o (vl n S))
  | 0, S, o, w, F, h, _ => ⟨h.congr (fun i hi => (plv_out (by omega)).symm), Only.refl _ _⟩
  | n + 1, S, o, w, F, h, ho => by
    have h1 : (w.setCell ⟨g, o, none⟩ (S 0)).rowIs g te N (fun i => if i = o then S 0 else F i) := h.set o _
    have o1 : Only g w (w.setCell ⟨g, o, none⟩ (S 0)) := (Only.refl g w).setCell o _
    obtain ⟨h2, o2⟩ := setCells_rv n (fun i => S (i + 1)) (o + 1) _ _ h1 (by omega)
    refine ⟨h2.congr (fun i hi => ?_), o1.trans o2⟩
    unfold plv
    dsimp only
    by_cases e : i = o
    · rw [if_neg (by omega), if_pos e, if_pos (by omega), e, Nat.sub_self]
    · by_cases e2 : o + 1 ≤ i ∧ i < o + 1 + n
      · rw [if_pos e2, if_pos (by omega)]
        show S (i - (o + 1) + 1) = S (i - o)
        rw [show i - (o + 1) + 1 = i - o by omega]
      · rw [if_neg e2, if_neg e, if_neg (by omega)]
/-- n elements more behind the first L of a row. -/
theorem appv {te ts : TypeId} {z : Value} {bb : Nat} (E : Elm te ts z bb) (w : World) {g C L : Nat} {F : Nat → Value} (hr : w.rowIs g te C F) (hL : L ≤ C) {x : Option Addr} {n cx : Nat} {S : Nat → Value} (h1 : ∀ i, i < n → (S i).oneCell' = true)
    (h4 : 0 < n → ∃ b p, x = some ⟨b, p, none⟩ ∧ ∀ i, i < n → w.cell? ⟨b, p + i, none⟩ = some (S i)) (hn : (L + n) * bb ≤ 140737488355328) :
    ∃ w' g' C' F', (Builtin.append_ #[ts, ts] ts #[.slice (some ⟨g, 0, none⟩) L C, .slice x n cx]).run Tryz.prog w = .ok (.slice (some ⟨g', 0, none⟩) (L + n) C') w' ∧
      L + n ≤ C' ∧ w'.rowIs g' te C' F' ∧ (∀ i, i < L → F' i = F i) ∧ (∀ i, i < n → F' (L + i) = S i) ∧ ((g' = g ∧ C' = C ∧ Only g w w') ∨ (g' = w.heap.size ∧ C' ≤ big ∧ w'.heap.size = w.heap.size + 1 ∧ Below w.heap.size w w')) := by
  obtain ⟨ti, hi, hz, hs1, hb1⟩ := E.info
  have hu := E.und
  have hln : L + n ≤ 140737488355328 := Nat.le_trans (Nat.le_mul_of_pos_right _ E.pos) hn
  by_cases h0 : n = 0
  · subst h0
    refine ⟨w, g, C, F, ?_, hL, hr, fun _ _ => rfl, fun i hi => absurd hi (Nat.not_lt_zero _), .inl ⟨rfl, rfl, Only.refl _ _⟩⟩
    cases x with
    | none =>
      have hs : Src Tryz.prog ti.size ts (.slice none 0 cx) 0 [] w := Src.ofNil w hu cx
      exact run_append_nothing w ts ts ts te ti hu hi _ L C hL _ hs
    | some a =>
      have hs : Src Tryz.prog ti.size ts (.slice (some a) 0 cx) 0 [] w := Src.ofSlice w hu a 0 cx [] (by simp) (fun j u h => by simp at h) (fun u h => by cases h)
      exact run_append_nothing w ts ts ts te ti hu hi _ L C hL _ hs
  · obtain ⟨b, p, rfl, hc⟩ := h4 (by omega)
    have ea : ∀ j, (⟨b, p, none⟩ : Addr).add j = ⟨b, p + j, none⟩ := fun j => by unfold Addr.add; split <;> simp_all
    have hs : Src Tryz.prog ti.size ts (.slice (some ⟨b, p, none⟩) n cx) n (vl n S) w := Src.ofSlice w hu ⟨b, p, none⟩ n cx (vl n S) (by rw [vl_len, hs1, Nat.mul_one]) (fun j u h => by
      have hj : j < n := by
        rcases Nat.lt_or_ge j n with h9 | h9
        · exact h9
        · rw [List.getElem?_eq_none (by rw [vl_len]; exact h9)] at h; cases h
      rw [vl_get n S j hj] at h
      cases h
      rw [ea]
      exact hc j hj) (vl_one h1)
    by_cases hroom : L + n ≤ C
    · obtain ⟨k1, k2⟩ := setCells_rv n S L w F hr hroom
      have hrun := run_append_room_src w ts ts ts te ti hu hi g 0 L C _ n (vl n S) hs hroom
        (fun j hj => by rw [vl_len] at hj; rw [hs1, Nat.mul_one, Nat.zero_add, hr.cell (i := L + j) (by omega)]; rfl)
        (fun j hj => by rw [hs1, Nat.mul_one, Nat.zero_add]; exact hr.frozen _)
      rw [hs1, Nat.mul_one, Nat.zero_add] at hrun
      exact ⟨_, g, C, _, hrun, hroom, k1, fun i hi => plv_out (by omega), fun i hi => plv_in hi, .inl ⟨rfl, rfl, k2⟩⟩
    · have hold : (Builtin.firstCells ti.size L (.slice (some ⟨g, 0, none⟩) L C)).run Tryz.prog w.drew = .ok (vl L F).toArray w.drew := by
        refine run_firstCells_some w.drew ti.size L ⟨g, 0, none⟩ L C (vl L F) (by rw [vl_len, hs1, Nat.mul_one]) (fun j u hu => ?_)
        have hj : j < L := by
          rcases Nat.lt_or_ge j L with h9 | h9
          · exact h9
          · rw [List.getElem?_eq_none (by rw [vl_len]; exact h9)] at hu; cases hu
        rw [vl_get L F j hj] at hu
        cases hu
        rw [Addr.add_lit, Nat.zero_add]
        exact hr.cell (i := j) (by omega)
      have hrun := run_append_grow_src w ts ts ts te ti z hu hi hz (some ⟨g, 0, none⟩) L C (vl L F) hold _ n (vl n S) hs (by omega) (by omega) (growslice_fits (by omega) (by rw [hb1]; exact hn))
      have hge := grownCap_ge w (L + n) C te
      have hcm := grownCap_le_maxLen w (L + n) C te (by unfold maxLen; omega)
      obtain ⟨C', hC'⟩ : ∃ C', C' = grownCap w (L + n) C te := ⟨_, rfl⟩
      rw [← hC'] at hrun hge hcm
      refine ⟨_, w.heap.size, C', fun i => if i < L then F i else if i < L + n then S (i - L) else z, hrun, hge, ⟨_, heap_alloc_new _ _, ?_, fun i hi => ?_⟩, fun i hi => if_pos hi, fun i hi => ?_, .inr ⟨rfl, by unfold big; unfold maxLen at hcm; exact hcm, by simp, ?_⟩⟩
      · rw [Array.size_append, List.size_toArray, List.length_append, vl_len, vl_len, size_zeroCells, E.cz]
        show L + n + (C' - (L + n)) * 1 = C'
        omega
      · show _ = some (if i < L then F i else if i < L + n then S (i - L) else z)
        by_cases e1 : i < L
        · rw [if_pos e1, Array.getElem?_append_left (by simp [vl_len]; omega), List.getElem?_toArray, List.getElem?_append_left (by rw [vl_len]; exact e1), vl_get _ _ _ e1]
        · by_cases e2 : i < L + n
          · rw [if_neg e1, if_pos e2, Array.getElem?_append_left (by simp [vl_len]; omega), List.getElem?_toArray, List.getElem?_append_right (by rw [vl_len]; omega), vl_len, vl_get _ _ _ (by omega)]
          · rw [if_neg e1, if_neg e2, Array.getElem?_append_right (by simp [vl_len]; omega)]
            have hk : i - ((vl L F ++ vl n S).toArray).size < C' - (L + n) := by simp [vl_len]; omega
            generalize i - ((vl L F ++ vl n S).toArray).size = k at hk
            simp [Builtin.zeroCells, E.cz, hk, Nat.mod_one]
      · show (if L + i < L then F (L + i) else if L + i < L + n then S (L + i - L) else z) = S i
        rw [if_neg (by omega), if_pos (by omega), Nat.add_sub_cancel_left]
      · exact ((Below.refl w.heap.size w).drew).alloc (by simp) _
/-- lists of lists of bytes. -/
theorem elm_l8 : Elm 31 22 (.slice none 0 0) 24 := by
  refine ⟨Tryz.underlying22, ?_, rfl, by decide⟩
  have h : (Tryz.prog.info? 31).map (fun i => (i.zero, i.size, i.bytes)) = some (some (Value.slice none 0 0), 1, 24) := by kernel_rfl
  obtain ⟨i, hi, hz⟩ := Option.map_eq_some_iff.1 h
  simp only [Prod.mk.injEq] at hz
  exact ⟨i, hi, hz.1, hz.2.1, hz.2.2⟩
end Go.Proofs.YthofhphlfgmklaaGreat
namespace Go.Proofs.YthofhphlfgmklaaGreat
open Go.RowKit Gf2
set_option linter.unusedVariables false

/-- N lists at the heads of blocks of their own, laid in the row lb. -/
structure Mn (W : World) (base lb N : Nat) (B L C : Nat → Nat) (F : Nat → Nat → Nat) : Prop where
  cell : ∀ r, r < N → W.cell? ⟨lb, r, none⟩ = some (.slice (some ⟨B r, 0, none⟩) (L r) (C r))
  row : ∀ r, r < N → Rw W (B r) (C r) (F r)
  inj : ∀ r s, r < N → s < N → B r = B s → r = s
  ne : ∀ r, r < N → B r ≠ lb
  lo : ∀ r, r < N → base ≤ B r
  lh : lb < W.heap.size
  cl : ∀ r, r < N → L r ≤ C r ∧ L r ≤ 1000
section
variable {W : World} {base lb N : Nat} {B L C : Nat → Nat} {F : Nat → Nat → Nat}
theorem Mn.set (h : Mn W base lb N B L C F) {i j v : Nat} (hi : i < N) (hv : v < 256) : Mn (W.setCell ⟨B i, j, none⟩ (.int .u8 (v : Nat))) base lb N B L C (fun r x => if r = i ∧ x = j then v else F r x) := by
  refine ⟨fun r hr => ?_, fun r hr => ?_, h.inj, h.ne, h.lo, by simpa using h.lh, h.cl⟩
  · rw [World.cell?_of_block (w := W) (Below.heap_setCell _ _ _ _ (fun e => h.ne i hi e.symm))]
    exact h.cell r hr
  · by_cases e : r = i
    · subst e
      refine ((h.row r hr).set j v hv).congr (fun x hx => ?_)
      by_cases e2 : x = j <;> simp [e2]
    · refine Rw.congr ((h.row r hr).of_block (Below.heap_setCell _ _ _ _ (fun e2 => e (h.inj r i hr hi e2)))) (fun x hx => ?_)
      simp [e]
theorem Mn.other (h : Mn W base lb N B L C F) {a : Addr} (v : Value) (h1 : lb ≠ a.block) (h2 : ∀ r, r < N → B r ≠ a.block) : Mn (W.setCell a v) base lb N B L C F :=
  ⟨fun r hr => (World.cell?_of_block (w := W) (a := ⟨lb, r, none⟩) (Below.heap_setCell _ _ _ _ h1)).trans (h.cell r hr), fun r hr => (h.row r hr).of_block (Below.heap_setCell _ _ _ _ (h2 r hr)), h.inj, h.ne, h.lo, by simpa using h.lh, h.cl⟩
theorem Mn.below (h : Mn W base lb N B L C F) {W' : World} (hb : Below W.heap.size W W') : Mn W' base lb N B L C F :=
  ⟨fun r hr => (hb.cell (p := ⟨lb, r, none⟩) h.lh).trans (h.cell r hr), fun r hr => rw_below (h.row r hr) hb, h.inj, h.ne, h.lo, Nat.lt_of_lt_of_le h.lh hb.size, h.cl⟩

/-- below base nothing has turned; of what was there before gb, nothing but the lists. -/
def Bk (base gb N : Nat) (B : Nat → Nat) (w W : World) : Prop := Below base w W ∧ ∀ k, k < gb → (∀ r, r < N → B r ≠ k) → W.heap[k]? = w.heap[k]?
theorem Bk.trans {base gb N : Nat} {B : Nat → Nat} {w W V : World} (h : Bk base gb N B w W) (h2 : Bk base gb N B W V) : Bk base gb N B w V := ⟨h.1.trans h2.1, fun k hk hn => (h2.2 k hk hn).trans (h.2 k hk hn)⟩
theorem Bk.set {base gb N : Nat} {B : Nat → Nat} {w W : World} (h : Bk base gb N B w W) (a : Addr) (v : Value) (h1 : base ≤ a.block) (h2 : gb ≤ a.block ∨ ∃ r, r < N ∧ B r = a.block) : Bk base gb N B w (W.setCell a v) :=
  ⟨h.1.setCell h1 _, fun k hk hn => (Below.heap_setCell _ _ _ _ (fun e => by
    rcases h2 with h2 | ⟨r, hr, h2⟩
    · omega
    · exact hn r hr (h2.trans e.symm))).trans (h.2 k hk hn)⟩
/-- the lists and what has grown out of them: J r places more. -/
structure Gng (W : World) (base lb gb N : Nat) (B L C J G Cg : Nat → Nat) : Prop where
  cell : ∀ r, r < N → W.cell? ⟨lb, r, none⟩ = some (.slice (some ⟨B r, 0, none⟩) (L r) (C r))
  gcell : W.rowIs gb 31 N (fun r => .slice (some ⟨G r, 0, none⟩) (L r + J r) (Cg r))
  old : ∀ r, r < N → ∀ x, x < L r → W.cell? ⟨B r, x, none⟩ = some (.int .u8 (r : Int))
  row : ∀ r, r < N → ∃ F, Rw W (G r) (Cg r) F ∧ ∀ x, x < L r + J r → F x = r
  le : ∀ r, r < N → L r + J r ≤ Cg r
  hi : ∀ r, r < N → B r < W.heap.size
  glo : ∀ r, r < N → base ≤ G r
  bl : ∀ r, r < N → B r ≠ lb ∧ B r ≠ gb
  gl : ∀ r, r < N → G r ≠ lb ∧ G r ≠ gb
  lg : lb ≠ gb
  inj : ∀ r s, r < N → s < N → r ≠ s → G r ≠ G s
  inj2 : ∀ r s, r < N → s < N → r ≠ s → G r ≠ B s
  lh : lb < W.heap.size
  gh : base ≤ gb
  gt : ∀ r, r < N → G r = B r ∨ gb ≤ G r
theorem Mn.gn (h : Mn W base lb N B L C F) {gb : Nat} (hg : W.rowIs gb 31 N (fun r => .slice (some ⟨B r, 0, none⟩) (L r) (C r))) (hF : ∀ r, r < N → ∀ x, x < L r → F r x = r) (h1 : ∀ r, r < N → B r ≠ gb) (h2 : lb ≠ gb) (h3 : base ≤ gb) : Gng W base lb gb N B L C (fun _ => 0) B C :=
  ⟨h.cell, hg, fun r hr x hx => by have c := (h.row r hr).2.2.cell (i := x) (by have := h.cl r hr; omega); rw [hF r hr x hx] at c; exact c, fun r hr => ⟨_, h.row r hr, fun x hx => hF r hr x (by omega)⟩, fun r hr => (h.cl r hr).1, fun r hr => (h.row r hr).lt, h.lo, fun r hr => ⟨h.ne r hr, h1 r hr⟩, fun r hr => ⟨h.ne r hr, h1 r hr⟩, h2, fun r s hr hs e e2 => e (h.inj r s hr hs e2), fun r s hr hs e e2 => e (h.inj r s hr hs e2), h.lh, h3, fun r hr => .inl rfl⟩
end
/-- one place more. -/
theorem Gng.step {W : World} {base lb gb N : Nat} {B L C J G Cg : Nat → Nat} (h : Gng W base lb gb N B L C J G Cg) (hbase : base ≤ W.heap.size) {i : Nat} (hi : i < N) (hN : N ≤ 250) (hJ : L i + J i ≤ 2000) :
    ∃ w' g' C', (Builtin.append_ #[31, 31] 31 #[.slice (some ⟨G i, 0, none⟩) (L i + J i) (Cg i), .slice (some ⟨W.heap.size, 0, none⟩) 1 1]).run Tryz.prog (W.alloc (.cells #[.int .u8 (i : Int)] 5)) = .ok (.slice (some ⟨g', 0, none⟩) (L i + J i + 1) C') w' ∧
      w'.rowIs gb 31 N (fun r => .slice (some ⟨G r, 0, none⟩) (L r + J r) (Cg r)) ∧
      Gng (w'.setCell ⟨gb, i, none⟩ (.slice (some ⟨g', 0, none⟩) (L i + J i + 1) C')) base lb gb N B L C (fun r => if r = i then J i + 1 else J r) (fun r => if r = i then g' else G r) (fun r => if r = i then C' else Cg r) ∧
      Bk base gb N B W (w'.setCell ⟨gb, i, none⟩ (.slice (some ⟨g', 0, none⟩) (L i + J i + 1) C')) := by
  obtain ⟨W1, hW1⟩ : ∃ W1, W1 = W.alloc (.cells #[.int .u8 (i : Int)] 5) := ⟨_, rfl⟩
  have hb0 : Below W.heap.size W W1 := by rw [hW1]; exact (Below.refl _ _).alloc (Nat.le_refl _) _
  have hsz : W1.heap.size = W.heap.size + 1 := by rw [hW1]; simp
  have hcell : ∀ k, k < 1 → W1.cell? ⟨W.heap.size, 0 + k, none⟩ = some (.int .u8 ((fun _ => i) k : Nat)) := by
    intro k hk
    obtain rfl : k = 0 := by omega
    rw [hW1, cell_of_row _ W.heap.size (0 + 0) _ _ _ (heap_alloc_new _ _)]
    rfl
  obtain ⟨F, hR, hF⟩ := h.row i hi
  have hGi := hR.lt
  obtain ⟨w', g', C', F', hrun, hC, hR', hF1, hF2, hcase⟩ := app8 W1 (g := G i) (C := Cg i) (L := L i + J i) (rw_below hR hb0) (h.le i hi) (x := some ⟨W.heap.size, 0, none⟩) (n := 1) (cx := 1) (S := fun _ => i) (fun _ _ => by omega) (fun _ => ⟨_, _, rfl, hcell⟩) (by omega)
  have hsz' : W1.heap.size ≤ w'.heap.size := by
    rcases hcase with ⟨-, ho⟩ | ⟨-, hs, -⟩
    · rw [ho.2.1]; exact Nat.le_refl _
    · omega
  have hblk : ∀ k, k < W.heap.size → k ≠ G i → w'.heap[k]? = W.heap[k]? := by
    intro k hk hne
    rcases hcase with ⟨-, ho⟩ | ⟨-, -, hb⟩
    · exact (ho.2.2 k hne).trans (hb0.block k hk)
    · exact (hb.block k (by omega)).trans (hb0.block k hk)
  have hgb := h.gcell.lt
  have hg1 := h.gcell.of_block (hblk gb hgb (fun e => (h.gl i hi).2 e.symm))
  have hg' : (g' = G i) ∨ W.heap.size < g' := by
    rcases hcase with ⟨e, -⟩ | ⟨e, -, -⟩
    · exact .inl e
    · exact .inr (by omega)
  have hg'l : base ≤ g' := by
    rcases hg' with e | e
    · rw [e]; exact h.glo i hi
    · omega
  have hg'1 : g' ≠ lb ∧ g' ≠ gb := by
    rcases hg' with e | e
    · rw [e]; exact h.gl i hi
    · have := h.lh; exact ⟨by omega, by omega⟩
  have hGr : ∀ r, r < N → G r < W.heap.size := fun r hr => by obtain ⟨F, a, -⟩ := h.row r hr; exact a.lt
  refine ⟨w', g', C', by rw [← hW1]; exact hrun, hg1, ⟨fun r hr => ?_, ?_, fun r hr x hx => ?_, fun r hr => ?_, fun r hr => ?_, fun r hr => ?_, fun r hr => ?_, h.bl, fun r hr => ?_, h.lg, fun r s hr hs e => ?_, fun r s hr hs e => ?_, ?_, h.gh, fun r hr => ?_⟩, ?_, fun k hk hne => ?_⟩
  · rw [World.cell?_of_block (w := W) (a := ⟨lb, r, none⟩) ((Below.heap_setCell _ _ _ _ h.lg).trans (hblk lb h.lh (fun e => (h.gl i hi).1 e.symm)))]
    exact h.cell r hr
  · refine (hg1.set i _).congr (fun r hr => ?_)
    by_cases e : r = i
    · subst e; simp only [if_pos]; rfl
    · simp only [if_neg e]
  · have hB := h.bl r hr
    by_cases e : B r = G i
    · rcases hcase with ⟨e2, ho⟩ | ⟨e2, hs, hb⟩
      · have er : r = i := Classical.byContradiction fun c => h.inj2 i r hi hr (fun c2 => c c2.symm) e.symm
        subst er
        have hc := hR'.2.2.cell (i := x) (by omega)
        rw [hF1 x (by omega), hF x (by omega), e2, ← e] at hc
        exact (World.cell?_of_block (w := w') (a := ⟨B r, x, none⟩) (Below.heap_setCell _ _ _ _ hB.2)).trans hc
      · have hl := h.hi r hr
        exact (World.cell?_of_block (w := W) (a := ⟨B r, x, none⟩) ((Below.heap_setCell _ _ _ _ hB.2).trans ((hb.block (B r) (by omega)).trans (hb0.block (B r) hl)))).trans (h.old r hr x hx)
    · exact (World.cell?_of_block (w := W) (a := ⟨B r, x, none⟩) ((Below.heap_setCell _ _ _ _ hB.2).trans (hblk _ (h.hi r hr) e))).trans (h.old r hr x hx)
  · by_cases e : r = i
    · subst e
      simp only [if_pos]
      refine ⟨F', hR'.of_block (Below.heap_setCell _ _ _ _ hg'1.2), fun x hx => ?_⟩
      by_cases e2 : x < L r + J r
      · rw [hF1 x e2]; exact hF x e2
      · obtain rfl : x = L r + J r + 0 := by omega
        rw [hF2 0 (by decide)]
    · simp only [if_neg e]
      obtain ⟨F2, a1, a2⟩ := h.row r hr
      exact ⟨F2, a1.of_block ((Below.heap_setCell _ _ _ _ (h.gl r hr).2).trans (hblk _ a1.lt (h.inj r i hr hi e))), a2⟩
  · by_cases e : r = i
    · subst e; simp only [if_pos]; omega
    · simp only [if_neg e]; exact h.le r hr
  · have := h.hi r hr
    simp only [World.size_setCell]
    omega
  · by_cases e : r = i
    · subst e; simp only [if_pos]; exact hg'l
    · simp only [if_neg e]; exact h.glo r hr
  · by_cases e : r = i
    · subst e; simp only [if_pos]; exact hg'1
    · simp only [if_neg e]; exact h.gl r hr
  · by_cases e1 : r = i
    · subst e1
      simp only [if_pos, if_neg (fun c => e (Eq.symm c))]
      rcases hg' with e2 | e2
      · rw [e2]; exact h.inj r s hr hs e
      · have := hGr s hs; omega
    · by_cases e2 : s = i
      · subst e2
        simp only [if_pos, if_neg e1]
        rcases hg' with e3 | e3
        · rw [e3]; exact h.inj r s hr hs e
        · have := hGr r hr; omega
      · simp only [if_neg e1, if_neg e2]
        exact h.inj r s hr hs e
  · by_cases e1 : r = i
    · subst e1
      simp only [if_pos]
      rcases hg' with e2 | e2
      · rw [e2]; exact h.inj2 r s hr hs e
      · have := h.hi s hs; omega
    · simp only [if_neg e1]
      exact h.inj2 r s hr hs e
  · have := h.lh
    simp only [World.size_setCell]
    omega
  · by_cases e : r = i
    · subst e
      simp only [if_pos]
      rcases hg' with e2 | e2
      · rw [e2]; exact h.gt r hr
      · exact .inr (by omega)
    · simp only [if_neg e]; exact h.gt r hr
  · refine Below.setCell ?_ h.gh _
    rcases hcase with ⟨-, ho⟩ | ⟨-, -, hb⟩
    · exact (hb0.mono hbase).trans (ho.below (h.glo i hi))
    · exact (hb0.mono hbase).trans (hb.mono (by omega))
  · have e1 : k ≠ gb := by omega
    have e2 : k ≠ G i := by
      rcases h.gt i hi with e | e
      · rw [e]; exact fun c => hne i hi c.symm
      · omega
    exact (Below.heap_setCell _ _ _ _ e1).trans (hblk k (by omega) e2)
end Go.Proofs.YthofhphlfgmklaaGreat
namespace Go.Proofs.YthofhphlfgmklaaGreat
open Go.RowKit Gf2
set_option linter.unusedVariables false

theorem info_l16m : (Tryz.prog.info? 31).map (fun i => (i.zero, i.size, i.bytes)) = some (some (Value.slice none 0 0), 1, 24) := by kernel_rfl
/-- the lists while they are marked: those below i, and j places of list i. -/
def Pn (w W : World) (base lb gb N : Nat) (B L C : Nat → Nat) (i j : Nat) : Prop := ∃ F S, Mn W base lb N B L C F ∧ W.rowIs gb 31 N S ∧ (∀ r, r < i → S r = .slice (some ⟨B r, 0, none⟩) (L r) (C r)) ∧ (∀ r, r < i → ∀ x, x < L r → F r x = r) ∧ (∀ x, x < j → F i x = i) ∧ Bk base gb N B w W
section
variable {w W : World} {base lb gb N : Nat} {B L C : Nat → Nat} {i j : Nat}
theorem Pn.mark (h : Pn w W base lb gb N B L C i j) (hi : i < N) (hN : N ≤ 250) (hg : ∀ r, r < N → B r ≠ gb) {k : Nat} (hk : k = i) : Pn w (W.setCell ⟨B i, j, none⟩ (.int .u8 (k : Nat))) base lb gb N B L C i (j + 1) := by
  rw [hk]
  obtain ⟨F, S, h1, h2, h3, h4, h5, h6⟩ := h
  refine ⟨_, S, h1.set (j := j) hi (by omega), h2.of_block (Below.heap_setCell _ _ _ _ (fun e => hg i hi e.symm)), h3, fun r hr x hx => ?_, fun x hx => ?_, h6.set _ _ (h1.lo i hi) (.inr ⟨i, hi, rfl⟩)⟩
  · rw [if_neg (by omega)]
    exact h4 r hr x hx
  · by_cases e : x = j
    · rw [if_pos ⟨rfl, e⟩]
    · rw [if_neg (by omega)]
      exact h5 x (by omega)
theorem Pn.next (h : Pn w W base lb gb N B L C i (L i)) (hi : i < N) (hl : lb ≠ gb) (hg : ∀ r, r < N → B r ≠ gb) (hb : base ≤ gb) : Pn w (W.setCell ⟨gb, i, none⟩ (.slice (some ⟨B i, 0, none⟩) (L i) (C i))) base lb gb N B L C (i + 1) 0 := by
  obtain ⟨F, S, h1, h2, h3, h4, h5, h6⟩ := h
  refine ⟨F, _, h1.other _ hl hg, h2.set i _, fun r hr => ?_, fun r hr x hx => ?_, fun x hx => absurd hx (Nat.not_lt_zero _), h6.set _ _ hb (.inl (Nat.le_refl _))⟩
  · by_cases e : r = i
    · subst e; rw [if_pos rfl]
    · rw [if_neg e]; exact h3 r (by omega)
  · by_cases e : r = i
    · subst e; exact h5 x hx
    · exact h4 r (by omega) x hx
theorem Pn.done (h : Pn w W base lb gb N B L C N 0) (hl : lb ≠ gb) (hg : ∀ r, r < N → B r ≠ gb) (hb : base ≤ gb) : Gng W base lb gb N B L C (fun _ => 0) B C ∧ Bk base gb N B w W := by
  obtain ⟨F, S, h1, h2, h3, h4, h5, h6⟩ := h
  exact ⟨h1.gn (h2.congr fun r hr => h3 r hr) h4 hg hl hb, h6⟩
theorem Pn.at (h : Pn w W base lb gb N B L C i j) (hi : i < N) : W.cell? ⟨lb, i, none⟩ = some (.slice (some ⟨B i, 0, none⟩) (L i) (C i)) := by
  obtain ⟨F, S, h1, -⟩ := h
  exact h1.cell i hi
theorem Pn.cells (h : Pn w W base lb gb N B L C i j) (hi : i < N) (hj : j < L i) : (∃ z, W.cell? ⟨B i, j, none⟩ = some (.int .u8 z)) ∧ W.frozen? ⟨B i, j, none⟩ = false := by
  obtain ⟨F, S, h1, -⟩ := h
  have := h1.cl i hi
  exact ⟨⟨_, (h1.row i hi).2.2.cell (i := j) (by omega)⟩, (h1.row i hi).2.2.frozen j⟩
theorem Pn.slot (h : Pn w W base lb gb N B L C i j) (hi : i < N) : (∃ z, W.cell? ⟨gb, i, none⟩ = some z) ∧ W.frozen? ⟨gb, i, none⟩ = false := by
  obtain ⟨F, S, h1, h2, -⟩ := h
  exact ⟨⟨_, h2.cell hi⟩, h2.frozen i⟩
end
/-- how far each list has grown. -/
def Jf (i j r : Nat) : Nat := if r < i then 70 else if r = i then j else 0
theorem Jf_at (i j : Nat) : Jf i j i = j := by unfold Jf; rw [if_neg (Nat.lt_irrefl _), if_pos rfl]
theorem Jf_lt {i j r : Nat} (h : r < i) : Jf i j r = 70 := if_pos h
theorem Jf_more (i j : Nat) : (fun r => if r = i then Jf i j i + 1 else Jf i j r) = Jf i (j + 1) := by
  funext r
  unfold Jf
  by_cases e : r = i
  · subst e; simp
  · simp [e]
theorem Jf_next (i : Nat) : Jf i 70 = Jf (i + 1) 0 := by
  funext r
  unfold Jf
  by_cases e : r < i
  · rw [if_pos e, if_pos (by omega)]
  · by_cases e2 : r = i
    · rw [if_neg e, if_pos e2, if_pos (by omega)]
    · rw [if_neg e, if_neg e2, if_neg (by omega)]; split <;> rfl
theorem Jf_zero : (fun _ => 0) = Jf 0 0 := by
  funext r
  unfold Jf
  rw [if_neg (Nat.not_lt_zero _)]; split <;> rfl

end Go.Proofs.YthofhphlfgmklaaGreat
namespace Go.Proofs.YthofhphlfgmklaaGreat
open Go.RowKit Gf2
set_option linter.unusedVariables false

-- layer 19: apart (as layer 16's)
set_option maxHeartbeats 8000000 in
set_option maxRecDepth 100000 in
theorem apart19 (base lb N lcap : Nat) (B L C : Nat → Nat) (F0 : Nat → Nat → Nat) (w : World) (hN : N ≤ 250) (hbase : base ≤ w.heap.size) (M : Mn w base lb N B L C F0) :
    Calls Tryz.prog 17 #[.slice (some ⟨lb, 0, none⟩) N lcap] w fun e w' => e = .returned (.bool true) ∧ Bk base w.heap.size N B w w' := by
  have hmk := run_make_row' (P := Tryz.prog) 22 31 (.slice none 0 0) 24 Tryz.underlying22 info_l16m rfl .i64 .i64 N (by omega) (by omega)
  have hgs := World.rowIs_made w (.slice none 0 0) N 31
  have lne : lb ≠ w.heap.size := by have := M.lh; omega
  have Bne : ∀ r, r < N → B r ≠ w.heap.size := fun r hr => by have := (M.row r hr).lt; omega
  have Ll : ∀ r, r < N → L r ≤ 1000 := fun r hr => (M.cl r hr).2
  have P0 : Pn w (w.alloc (.cells (madeCells #[.slice none 0 0] N) 31)) base lb w.heap.size N B L C 0 0 := ⟨F0, _, M.below ((Below.refl _ _).alloc (Nat.le_refl _) _), hgs, fun r hr => absurd hr (Nat.not_lt_zero _), fun r hr => absurd hr (Nat.not_lt_zero _), fun r hr => absurd hr (Nat.not_lt_zero _), (Below.refl _ _).alloc hbase _, fun k hk _ => Below.heap_alloc w _ k hk⟩
  have HP : Hid _ := P0
  have HB : Hid (lb ≠ w.heap.size ∧ (∀ r, r < N → B r ≠ w.heap.size) ∧ (∀ r, r < N → L r ≤ 1000) ∧ base ≤ w.heap.size) := ⟨lne, Bne, Ll, hbase⟩
  clear P0 hgs M lne Bne Ll hbase
  go_enter Tryz.func17, Tryz.ntmps17
  go_wp2
  clear hmk
  go_loopw [4] (fun iv wr => ∃ i : Nat, i ≤ N ∧ iv = .int .i64 i ∧ Pn w wr base lb w.heap.size N B L C i 0) (fun iv _ => N - (intOf iv).toNat)
  case atStart => exact ⟨0, Nat.zero_le _, rfl, HP.out⟩
  case round =>
    obtain ⟨i, hi, rfl, hP⟩ := hrel
    clear HP
    by_cases hlt : i < N
    · have iN : ((i : Nat) : Int) < (N : Int) := by omega
      have HQ : Hid _ := hP
      clear hP
      go_wp2
      go_loopw [5] (fun jv wq => ∃ j : Nat, j ≤ L i ∧ jv = .int .i64 j ∧ Pn w wq base lb w.heap.size N B L C i j) (fun jv _ => L i - (intOf jv).toNat)
      case atStart => exact ⟨0, Nat.zero_le _, rfl, HQ.out⟩
      case round =>
        obtain ⟨j, hj, rfl, hP⟩ := hrel
        clear HQ
        have q1 := hP.at hlt
        by_cases hjl : j < L i
        · have jN : ((j : Nat) : Int) < (L i : Int) := by omega
          have jL := HB.out.2.2.1 i hlt
          obtain ⟨⟨z, q2⟩, f2⟩ := hP.cells hlt hjl
          have m1 : IntKind.u8.wrap (i : Int) = (i : Int) := by rw [IntKind.wrap_u8]; omega
          have HQ : Hid _ := hP
          clear hP
          go_wp2
          go_roundw
          case rel => exact ⟨j + 1, hjl, by go_num, Pn.mark HQ.out hlt hN HB.out.2.1 rfl⟩
          case measure => simp [intOf]; omega
        · obtain rfl : j = L i := by omega
          obtain ⟨⟨z, q2⟩, f2⟩ := hP.slot hlt
          have HQ : Hid _ := hP
          clear hP
          go_wp2
          go_roundw
          case rel => exact ⟨i + 1, hlt, by go_num, Pn.next HQ.out hlt HB.out.1 HB.out.2.1 HB.out.2.2.2⟩
          case measure => simp [intOf]; omega
    · obtain rfl : N = i := by omega
      obtain ⟨hG, hb⟩ := hP.done HB.out.1 HB.out.2.1 HB.out.2.2.2
      rw [Jf_zero] at hG
      have HG : Hid (Gng wr base lb w.heap.size N B L C (Jf 0 0) B C ∧ Bk base w.heap.size N B w wr) := ⟨hG, hb⟩
      clear hP hG hb
      go_wp2
      go_loopw [6] (fun iv wq => ∃ (i : Nat) (G Cg : Nat → Nat), i ≤ N ∧ iv = .int .i64 i ∧ Gng wq base lb w.heap.size N B L C (Jf i 0) G Cg ∧ Bk base w.heap.size N B w wq) (fun iv _ => N - (intOf iv).toNat)
      case atStart => exact ⟨0, _, _, Nat.zero_le _, rfl, HG.out⟩
      case round =>
        obtain ⟨i, G, Cg, hi2, rfl, hG, hb⟩ := hrel
        clear HG
        by_cases hlt : i < N
        · have iN : ((i : Nat) : Int) < (N : Int) := by omega
          have HG : Hid (Gng wr base lb w.heap.size N B L C (Jf i 0) G Cg ∧ Bk base w.heap.size N B w wr) := ⟨hG, hb⟩
          clear hG hb
          go_wp2
          go_loopw [7] (fun jv wq => ∃ (j : Nat) (G Cg : Nat → Nat), j ≤ 70 ∧ jv = .int .i64 j ∧ Gng wq base lb w.heap.size N B L C (Jf i j) G Cg ∧ Bk base w.heap.size N B w wq) (fun jv _ => 70 - (intOf jv).toNat)
          case atStart => exact ⟨0, _, _, Nat.zero_le _, rfl, HG.out⟩
          case round =>
            obtain ⟨j, G, Cg, hj, rfl, hG, hb⟩ := hrel
            clear HG
            by_cases hjl : j < 70
            · have jN : ((j : Nat) : Int) < 70 := by omega
              have q1 := hG.gcell.cell hlt
              rw [Jf_at] at q1
              have jL := HB.out.2.2.1 i hlt
              obtain ⟨w', g', C', hrun, hg', hG', hb'⟩ := hG.step (Nat.le_trans HB.out.2.2.2 hb.1.size) hlt hN (by rw [Jf_at]; omega)
              rw [Jf_more, Jf_at] at hG'
              rw [Jf_at] at hrun hb'
              have q2 := hg'.cell hlt
              have f2 := hg'.frozen i
              have m1 : IntKind.u8.wrap (i : Int) = (i : Int) := by rw [IntKind.wrap_u8]; omega
              have HG : Hid (Gng _ base lb w.heap.size N B L C (Jf i (j + 1)) _ _ ∧ Bk base w.heap.size N B w _) := ⟨hG', hb.trans hb'⟩
              clear hG hb hg' hG' hb'
              go_wp2_with (at_builtin; refine Lib.wpList_append_run _ rfl _ _ _ _ rfl _ _ rfl rfl _ _ hrun ?_; clear hrun)
              go_roundw
              case rel => exact ⟨j + 1, _, _, hjl, by go_num, HG.out⟩
              case measure => simp [intOf]; omega
            · obtain rfl : j = 70 := by omega
              rw [Jf_next] at hG
              have HG : Hid (Gng wr base lb w.heap.size N B L C (Jf (i + 1) 0) G Cg ∧ Bk base w.heap.size N B w wr) := ⟨hG, hb⟩
              clear hG hb
              go_wp2
              go_roundw
              case rel => exact ⟨i + 1, _, _, hlt, by go_num, HG.out⟩
              case measure => simp [intOf]; omega
        · obtain rfl : N = i := by omega
          have HG : Hid (Gng wr base lb w.heap.size N B L C (Jf N 0) G Cg ∧ Bk base w.heap.size N B w wr) := ⟨hG, hb⟩
          clear hG hb
          go_wp2
          go_loopw [8] (fun iv wq => ∃ i : Nat, i ≤ N ∧ iv = .int .i64 i ∧ wq = wr) (fun iv _ => N - (intOf iv).toNat)
          case atStart => exact ⟨0, Nat.zero_le _, rfl, rfl⟩
          case round =>
            obtain ⟨i, hi3, rfl, hwr⟩ := hrel
            subst hwr
            by_cases hlt : i < N
            · have iN : ((i : Nat) : Int) < (N : Int) := by omega
              have jL := HB.out.2.2.1 i hlt
              have q1 := HG.out.1.cell i hlt
              have q2 := HG.out.1.gcell.cell hlt
              rw [Jf_lt hlt] at q2
              obtain ⟨F, hR, hF⟩ := HG.out.1.row i hlt
              have hCg := HG.out.1.le i hlt
              rw [Jf_lt hlt] at hF hCg
              have m1 : IntKind.u8.wrap (i : Int) = (i : Int) := by rw [IntKind.wrap_u8]; omega
              have HR : Hid ((∀ x, x < L i + 70 → wr.cell? ⟨G i, x, none⟩ = some (.int .u8 (i : Int))) ∧ ∀ x, x < L i → wr.cell? ⟨B i, x, none⟩ = some (.int .u8 (i : Int))) := ⟨fun x hx => by have c := hR.2.2.cell (i := x) (by omega); rw [hF x hx] at c; exact c, fun x hx => by exact HG.out.1.old i hlt x hx⟩
              clear hR hF hCg
              go_wp2
              go_loopw [9] (fun jv wq => ∃ j : Nat, j ≤ L i + 70 ∧ jv = .int .i64 j ∧ wq = wr) (fun jv _ => L i + 70 - (intOf jv).toNat)
              case atStart => exact ⟨0, Nat.zero_le _, rfl, rfl⟩
              case round =>
                obtain ⟨j, hj, rfl, hwq⟩ := hrel
                subst hwq
                by_cases hjl : j < L i + 70
                · have q3 := HR.out.1 j hjl
                  have jN : ((j : Nat) : Int) < ((L i + 70 : Nat) : Int) := by omega
                  by_cases h6 : j < L i
                  · have q4 := HR.out.2 j h6
                    have j6 : ((j : Nat) : Int) < (L i : Int) := by omega
                    have D2 : decide ((L i : Int) ≤ j) = false := by simp; omega
                    go_wp2
                    go_roundw
                    case rel => exact ⟨j + 1, by omega, by go_num, by first | rfl | trivial⟩
                    case measure => simp [intOf]; omega
                  · have j6 : (L i : Int) ≤ ((j : Nat) : Int) := by omega
                    have D1 : decide ((j : Int) < (L i : Int)) = false := by simp; omega
                    go_wp2
                    go_roundw
                    case rel => exact ⟨j + 1, by omega, by go_num, by first | rfl | trivial⟩
                    case measure => simp [intOf]; omega
                · obtain rfl : j = L i + 70 := by omega
                  go_wp2
                  go_roundw
                  case rel => exact ⟨i + 1, hlt, by go_num, by first | rfl | trivial⟩
                  case measure => simp [intOf]; omega
            · obtain rfl : N = i := by omega
              go_wp2
              go_ret
              exact ⟨rfl, HG.out.2⟩
end Go.Proofs.YthofhphlfgmklaaGreat
