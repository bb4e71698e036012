import Derived.Test.YtldacjpkblffbabYj6
namespace Go.Proofs.Ytldacjpkblffbab
open Go.RowKit Gf2
set_option linter.unusedVariables false

/-- N lists at the heads of blocks of their own, laid in the row lb. -/
structure Mn (W : World) (base lb N : Nat) (B L C : Nat → Nat) (F : Nat → Nat → Nat) : Prop where
  cell : ∀ r, r < N → W.cell? ⟨lb, r, none⟩ = some (.slice (some ⟨B r, 0, none⟩) (L r) (C r))
  row : ∀ r, r < N → Rw W (B r) (C r) (F r)
  inj : ∀ r s, r < N → s < N → B r = B s → r = s
  ne : ∀ r, r < N → B r ≠ lb
  lo : ∀ r, r < N → base ≤ B r
  lh : lb < W.heap.size
  cl : ∀ r, r < N → L r ≤ C r ∧ L r ≤ 1000
section
variable {W : World} {base lb N : Nat} {B L C : Nat → Nat} {F : Nat → Nat → Nat}
theorem Mn.set (h : Mn W base lb N B L C F) {i j v : Nat} (hi : i < N) (hv : v < 256) : Mn (W.setCell ⟨B i, j, none⟩ (.int .u8 (v : Nat))) base lb N B L C (fun r x => if r = i ∧ x = j then v else F r x) := by
  refine ⟨fun r hr => ?_, fun r hr => ?_, h.inj, h.ne, h.lo, by simpa using h.lh, h.cl⟩
  · rw [World.cell?_of_block (w := W) (Below.heap_setCell _ _ _ _ (fun e => h.ne i hi e.symm))]
    exact h.cell r hr
  · by_cases e : r = i
    · subst e
      refine ((h.row r hr).set j v hv).congr (fun x hx => ?_)
      by_cases e2 : x = j <;> simp [e2]
    · refine Rw.congr ((h.row r hr).of_block (Below.heap_setCell _ _ _ _ (fun e2 => e (h.inj r i hr hi e2)))) (fun x hx => ?_)
      simp [e]
theorem Mn.other (h : Mn W base lb N B L C F) {a : Addr} (v : Value) (h1 : lb ≠ a.block) (h2 : ∀ r, r < N → B r ≠ a.block) : Mn (W.setCell a v) base lb N B L C F :=
  ⟨fun r hr => (World.cell?_of_block (w := W) (a := ⟨lb, r, none⟩) (Below.heap_setCell _ _ _ _ h1)).trans (h.cell r hr), fun r hr => (h.row r hr).of_block (Below.heap_setCell _ _ _ _ (h2 r hr)), h.inj, h.ne, h.lo, by simpa using h.lh, h.cl⟩
theorem Mn.below (h : Mn W base lb N B L C F) {W' : World} (hb : Below W.heap.size W W') : Mn W' base lb N B L C F :=
  ⟨fun r hr => (hb.cell (p := ⟨lb, r, none⟩) h.lh).trans (h.cell r hr), fun r hr => rw_below (h.row r hr) hb, h.inj, h.ne, h.lo, Nat.lt_of_lt_of_le h.lh hb.size, h.cl⟩

/-- below base nothing has turned; of what was there before gb, nothing but the lists. -/
def Bk (base gb N : Nat) (B : Nat → Nat) (w W : World) : Prop := Below base w W ∧ ∀ k, k < gb → (∀ r, r < N → B r ≠ k) → W.heap[k]? = w.heap[k]?
theorem Bk.trans {base gb N : Nat} {B : Nat → Nat} {w W V : World} (h : Bk base gb N B w W) (h2 : Bk base gb N B W V) : Bk base gb N B w V := ⟨h.1.trans h2.1, fun k hk hn => (h2.2 k hk hn).trans (h.2 k hk hn)⟩
theorem Bk.set {base gb N : Nat} {B : Nat → Nat} {w W : World} (h : Bk base gb N B w W) (a : Addr) (v : Value) (h1 : base ≤ a.block) (h2 : gb ≤ a.block ∨ ∃ r, r < N ∧ B r = a.block) : Bk base gb N B w (W.setCell a v) :=
  ⟨h.1.setCell h1 _, fun k hk hn => (Below.heap_setCell _ _ _ _ (fun e => by
    rcases h2 with h2 | ⟨r, hr, h2⟩
    · omega
    · exact hn r hr (h2.trans e.symm))).trans (h.2 k hk hn)⟩
/-- the lists and what has grown out of them: J r places more. -/
structure Gn (W : World) (base lb gb N : Nat) (B L C J G Cg : Nat → Nat) : Prop where
  cell : ∀ r, r < N → W.cell? ⟨lb, r, none⟩ = some (.slice (some ⟨B r, 0, none⟩) (L r) (C r))
  gcell : W.rowIs gb 24 N (fun r => .slice (some ⟨G r, 0, none⟩) (L r + J r) (Cg r))
  old : ∀ r, r < N → ∀ x, x < L r → W.cell? ⟨B r, x, none⟩ = some (.int .u8 (r : Int))
  row : ∀ r, r < N → ∃ F, Rw W (G r) (Cg r) F ∧ ∀ x, x < L r + J r → F x = r
  le : ∀ r, r < N → L r + J r ≤ Cg r
  hi : ∀ r, r < N → B r < W.heap.size
  glo : ∀ r, r < N → base ≤ G r
  bl : ∀ r, r < N → B r ≠ lb ∧ B r ≠ gb
  gl : ∀ r, r < N → G r ≠ lb ∧ G r ≠ gb
  lg : lb ≠ gb
  inj : ∀ r s, r < N → s < N → r ≠ s → G r ≠ G s
  inj2 : ∀ r s, r < N → s < N → r ≠ s → G r ≠ B s
  lh : lb < W.heap.size
  gh : base ≤ gb
  gt : ∀ r, r < N → G r = B r ∨ gb ≤ G r
theorem Mn.gn (h : Mn W base lb N B L C F) {gb : Nat} (hg : W.rowIs gb 24 N (fun r => .slice (some ⟨B r, 0, none⟩) (L r) (C r))) (hF : ∀ r, r < N → ∀ x, x < L r → F r x = r) (h1 : ∀ r, r < N → B r ≠ gb) (h2 : lb ≠ gb) (h3 : base ≤ gb) : Gn W base lb gb N B L C (fun _ => 0) B C :=
  ⟨h.cell, hg, fun r hr x hx => by have c := (h.row r hr).2.2.cell (i := x) (by have := h.cl r hr; omega); rw [hF r hr x hx] at c; exact c, fun r hr => ⟨_, h.row r hr, fun x hx => hF r hr x (by omega)⟩, fun r hr => (h.cl r hr).1, fun r hr => (h.row r hr).lt, h.lo, fun r hr => ⟨h.ne r hr, h1 r hr⟩, fun r hr => ⟨h.ne r hr, h1 r hr⟩, h2, fun r s hr hs e e2 => e (h.inj r s hr hs e2), fun r s hr hs e e2 => e (h.inj r s hr hs e2), h.lh, h3, fun r hr => .inl rfl⟩
end
/-- one place more. -/
theorem Gn.step {W : World} {base lb gb N : Nat} {B L C J G Cg : Nat → Nat} (h : Gn W base lb gb N B L C J G Cg) (hbase : base ≤ W.heap.size) {i : Nat} (hi : i < N) (hN : N ≤ 250) (hJ : L i + J i ≤ 2000) :
    ∃ w' g' C', (Builtin.append_ #[24, 24] 24 #[.slice (some ⟨G i, 0, none⟩) (L i + J i) (Cg i), .slice (some ⟨W.heap.size, 0, none⟩) 1 1]).run Try.prog (W.alloc (.cells #[.int .u8 (i : Int)] 5)) = .ok (.slice (some ⟨g', 0, none⟩) (L i + J i + 1) C') w' ∧
      w'.rowIs gb 24 N (fun r => .slice (some ⟨G r, 0, none⟩) (L r + J r) (Cg r)) ∧
      Gn (w'.setCell ⟨gb, i, none⟩ (.slice (some ⟨g', 0, none⟩) (L i + J i + 1) C')) base lb gb N B L C (fun r => if r = i then J i + 1 else J r) (fun r => if r = i then g' else G r) (fun r => if r = i then C' else Cg r) ∧
      Bk base gb N B W (w'.setCell ⟨gb, i, none⟩ (.slice (some ⟨g', 0, none⟩) (L i + J i + 1) C')) := by
  obtain ⟨W1, hW1⟩ : ∃ W1, W1 = W.alloc (.cells #[.int .u8 (i : Int)] 5) := ⟨_, rfl⟩
  have hb0 : Below W.heap.size W W1 := by rw [hW1]; exact (Below.refl _ _).alloc (Nat.le_refl _) _
  have hsz : W1.heap.size = W.heap.size + 1 := by rw [hW1]; simp
  have hcell : ∀ k, k < 1 → W1.cell? ⟨W.heap.size, 0 + k, none⟩ = some (.int .u8 ((fun _ => i) k : Nat)) := by
    intro k hk
    obtain rfl : k = 0 := by omega
    rw [hW1, cell_of_row _ W.heap.size (0 + 0) _ _ _ (heap_alloc_new _ _)]
    rfl
  obtain ⟨F, hR, hF⟩ := h.row i hi
  have hGi := hR.lt
  obtain ⟨w', g', C', F', hrun, hC, hR', hF1, hF2, hcase⟩ := app8 W1 (g := G i) (C := Cg i) (L := L i + J i) (rw_below hR hb0) (h.le i hi) (x := some ⟨W.heap.size, 0, none⟩) (n := 1) (cx := 1) (S := fun _ => i) (fun _ _ => by omega) (fun _ => ⟨_, _, rfl, hcell⟩) (by omega)
  have hsz' : W1.heap.size ≤ w'.heap.size := by
    rcases hcase with ⟨-, ho⟩ | ⟨-, hs, -⟩
    · rw [ho.2.1]; exact Nat.le_refl _
    · omega
  have hblk : ∀ k, k < W.heap.size → k ≠ G i → w'.heap[k]? = W.heap[k]? := by
    intro k hk hne
    rcases hcase with ⟨-, ho⟩ | ⟨-, -, hb⟩
    · exact (ho.2.2 k hne).trans (hb0.block k hk)
    · exact (hb.block k (by omega)).trans (hb0.block k hk)
  have hgb := h.gcell.lt
  have hg1 := h.gcell.of_block (hblk gb hgb (fun e => (h.gl i hi).2 e.symm))
  have hg' : (g' = G i) ∨ W.heap.size < g' := by
    rcases hcase with ⟨e, -⟩ | ⟨e, -, -⟩
    · exact .inl e
    · exact .inr (by omega)
  have hg'l : base ≤ g' := by
    rcases hg' with e | e
    · rw [e]; exact h.glo i hi
    · omega
  have hg'1 : g' ≠ lb ∧ g' ≠ gb := by
    rcases hg' with e | e
    · rw [e]; exact h.gl i hi
    · have := h.lh; exact ⟨by omega, by omega⟩
  have hGr : ∀ r, r < N → G r < W.heap.size := fun r hr => by obtain ⟨F, a, -⟩ := h.row r hr; exact a.lt
  refine ⟨w', g', C', by rw [← hW1]; exact hrun, hg1, ⟨fun r hr => ?_, ?_, fun r hr x hx => ?_, fun r hr => ?_, fun r hr => ?_, fun r hr => ?_, fun r hr => ?_, h.bl, fun r hr => ?_, h.lg, fun r s hr hs e => ?_, fun r s hr hs e => ?_, ?_, h.gh, fun r hr => ?_⟩, ?_, fun k hk hne => ?_⟩
  · rw [World.cell?_of_block (w := W) (a := ⟨lb, r, none⟩) ((Below.heap_setCell _ _ _ _ h.lg).trans (hblk lb h.lh (fun e => (h.gl i hi).1 e.symm)))]
    exact h.cell r hr
  · refine (hg1.set i _).congr (fun r hr => ?_)
    by_cases e : r = i
    · subst e; simp only [if_pos]; rfl
    · simp only [if_neg e]
  · have hB := h.bl r hr
    by_cases e : B r = G i
    · rcases hcase with ⟨e2, ho⟩ | ⟨e2, hs, hb⟩
      · have er : r = i := Classical.byContradiction fun c => h.inj2 i r hi hr (fun c2 => c c2.symm) e.symm
        subst er
        have hc := hR'.2.2.cell (i := x) (by omega)
        rw [hF1 x (by omega), hF x (by omega), e2, ← e] at hc
        exact (World.cell?_of_block (w := w') (a := ⟨B r, x, none⟩) (Below.heap_setCell _ _ _ _ hB.2)).trans hc
      · have hl := h.hi r hr
        exact (World.cell?_of_block (w := W) (a := ⟨B r, x, none⟩) ((Below.heap_setCell _ _ _ _ hB.2).trans ((hb.block (B r) (by omega)).trans (hb0.block (B r) hl)))).trans (h.old r hr x hx)
    · exact (World.cell?_of_block (w := W) (a := ⟨B r, x, none⟩) ((Below.heap_setCell _ _ _ _ hB.2).trans (hblk _ (h.hi r hr) e))).trans (h.old r hr x hx)
  · by_cases e : r = i
    · subst e
      simp only [if_pos]
      refine ⟨F', hR'.of_block (Below.heap_setCell _ _ _ _ hg'1.2), fun x hx => ?_⟩
      by_cases e2 : x < L r + J r
      · rw [hF1 x e2]; exact hF x e2
      · obtain rfl : x = L r + J r + 0 := by omega
        rw [hF2 0 (by decide)]
    · simp only [if_neg e]
      obtain ⟨F2, a1, a2⟩ := h.row r hr
      exact ⟨F2, a1.of_block ((Below.heap_setCell _ _ _ _ (h.gl r hr).2).trans (hblk _ a1.lt (h.inj r i hr hi e))), a2⟩
  · by_cases e : r = i
    · subst e; simp only [if_pos]; omega
    · simp only [if_neg e]; exact h.le r hr
  · have := h.hi r hr
    simp only [World.size_setCell]
    omega
  · by_cases e : r = i
    · subst e; simp only [if_pos]; exact hg'l
    · simp only [if_neg e]; exact h.glo r hr
  · by_cases e : r = i
    · subst e; simp only [if_pos]; exact hg'1
    · simp only [if_neg e]; exact h.gl r hr
  · by_cases e1 : r = i
    · subst e1
      simp only [if_pos, if_neg (fun c => e (Eq.symm c))]
      rcases hg' with e2 | e2
      · rw [e2]; exact h.inj r s hr hs e
      · have := hGr s hs; omega
    · by_cases e2 : s = i
      · subst e2
        simp only [if_pos, if_neg e1]
        rcases hg' with e3 | e3
        · rw [e3]; exact h.inj r s hr hs e
        · have := hGr r hr; omega
      · simp only [if_neg e1, if_neg e2]
        exact h.inj r s hr hs e
  · by_cases e1 : r = i
    · subst e1
      simp only [if_pos]
      rcases hg' with e2 | e2
      · rw [e2]; exact h.inj2 r s hr hs e
      · have := h.hi s hs; omega
    · simp only [if_neg e1]
      exact h.inj2 r s hr hs e
  · have := h.lh
    simp only [World.size_setCell]
    omega
  · by_cases e : r = i
    · subst e
      simp only [if_pos]
      rcases hg' with e2 | e2
      · rw [e2]; exact h.gt r hr
      · exact .inr (by omega)
    · simp only [if_neg e]; exact h.gt r hr
  · refine Below.setCell ?_ h.gh _
    rcases hcase with ⟨-, ho⟩ | ⟨-, -, hb⟩
    · exact (hb0.mono hbase).trans (ho.below (h.glo i hi))
    · exact (hb0.mono hbase).trans (hb.mono (by omega))
  · have e1 : k ≠ gb := by omega
    have e2 : k ≠ G i := by
      rcases h.gt i hi with e | e
      · rw [e]; exact fun c => hne i hi c.symm
      · omega
    exact (Below.heap_setCell _ _ _ _ e1).trans (hblk k (by omega) e2)
end Go.Proofs.Ytldacjpkblffbab
