import Derived.Test.YtgdnjbaohfiijaaDoorRj3
import Derived.Test.YtgdnjbaohfiijaaDoorAcl
namespace Go.Proofs.YtgdnjbaohfiijaaDoor
open Go.RowKit Gf2
set_option linter.unusedVariables false

-- layer 14: rows that came in, rows that are laid
/-- rows that came in: of what lengths, with what words. -/
structure Ri14 (w : World) (gb ob nr : Nat) (X : Nat → Option Addr) (L Cx : Nat → Nat) (F : Nat → Nat → Nat) : Prop where
  lt : gb < w.heap.size
  cell : ∀ i, i < nr → w.cell? ⟨gb, ob + i, none⟩ = some (.slice (X i) (L i) (Cx i))
  row : ∀ i, i < nr → Q6 w (.slice (X i) (L i) (Cx i)) (L i) (F i)
  len : ∀ i, i < nr → 2 * L i ≤ 140737488351232
theorem Ri14.below {w w' : World} {gb ob nr : Nat} {X : Nat → Option Addr} {L Cx : Nat → Nat} {F : Nat → Nat → Nat} (h : Ri14 w gb ob nr X L Cx F) (b : Below w.heap.size w w') : Ri14 w' gb ob nr X L Cx F :=
  ⟨Nat.lt_of_lt_of_le h.lt b.size, fun i hi => (b.cell (p := ⟨gb, ob + i, none⟩) h.lt).trans (h.cell i hi), fun i hi => (h.row i hi).below b, h.len⟩
/-- rows of their own, i of them laid; spare: what stands behind the words. -/
structure Lr (w0 wr : World) (gr M i : Nat) (L : Nat → Nat) (F : Nat → Nat → Nat) (ex3 : Bool) (B C : Nat → Nat) (G : Nat → Nat → Nat) : Prop where
  bel : Below w0.heap.size w0 wr
  lst : wr.rowIs gr 26 M (fun j => if j < i then .slice (some ⟨B j, 0, none⟩) (L j) (C j) else .slice none 0 0)
  row : ∀ j, j < i → R6 wr (B j) (C j) (G j) ∧ L j ≤ C j ∧ gr < B j ∧ (∀ x, x < L j → G j x = F j x) ∧ (ex3 = true → L j + 3 ≤ C j ∧ G j (L j) = 71 ∧ G j (L j + 1) = 72 ∧ G j (L j + 2) = 73)
  inj : ∀ j j', j < i → j' < i → B j = B j' → j = j'
theorem Lr.below {w0 wr w' : World} {gr M i : Nat} {L : Nat → Nat} {F : Nat → Nat → Nat} {e3 : Bool} {B C : Nat → Nat} {G : Nat → Nat → Nat} (h : Lr w0 wr gr M i L F e3 B C G) (hb : Below wr.heap.size wr w') : Lr w0 w' gr M i L F e3 B C G :=
  ⟨h.bel.trans (hb.mono h.bel.size), h.lst.of_block (hb.block gr h.lst.lt), fun j hj => ⟨(h.row j hj).1.below hb, (h.row j hj).2⟩, h.inj⟩
theorem Lr.next {w0 wr w' : World} {gr M i g C0 : Nat} {L : Nat → Nat} {F : Nat → Nat → Nat} {e3 : Bool} {B C : Nat → Nat} {G : Nat → Nat → Nat} {F0 : Nat → Nat} (h : Lr w0 wr gr M i L F e3 B C G) (h0 : w0.heap.size ≤ gr) (hi : i < M) (hb : Below wr.heap.size wr w') (hg : wr.heap.size ≤ g) (hR : R6 w' g C0 F0) (hC : L i ≤ C0) (hF : ∀ x, x < L i → F0 x = F i x)
    (h3 : e3 = true → L i + 3 ≤ C0 ∧ F0 (L i) = 71 ∧ F0 (L i + 1) = 72 ∧ F0 (L i + 2) = 73) :
    Lr w0 (w'.setCell ⟨gr, i, none⟩ (.slice (some ⟨g, 0, none⟩) (L i) C0)) gr M (i + 1) L F e3 (fun j => if j = i then g else B j) (fun j => if j = i then C0 else C j) (fun j => if j = i then F0 else G j) := by
  have glt := h.lst.lt
  have k : Kp gr w' (w'.setCell ⟨gr, i, none⟩ (.slice (some ⟨g, 0, none⟩) (L i) C0)) := (Kp.refl gr w').setCell _ _
  have b1 := h.bel.trans (hb.mono h.bel.size)
  refine ⟨b1.trans (k.below h0 b1.size), ((h.lst.of_block (hb.block gr glt)).set i _).congr (fun j hj => ?_), fun j hj => ?_, fun j j' hj hj' e => ?_⟩
  · by_cases e : j = i
    · subst e
      rw [if_pos rfl, if_pos (by omega), if_pos rfl, if_pos rfl]
    · rw [if_neg e]
      by_cases e2 : j < i
      · rw [if_pos e2, if_pos (by omega), if_neg e, if_neg e]
      · rw [if_neg e2, if_neg (by omega)]
  · by_cases e : j = i
    · subst e
      simp only [if_true]
      exact ⟨hR.kp k (by omega), hC, by omega, hF, h3⟩
    · simp only [if_neg e]
      obtain ⟨a1, a2, a3, a4⟩ := h.row j (by omega)
      exact ⟨(a1.below hb).kp k (by omega), a2, a3, a4⟩
  · by_cases e1 : j = i
    · by_cases e2 : j' = i
      · rw [e1, e2]
      · simp only [if_pos e1, if_neg e2] at e
        have := (h.row j' (by omega)).1.lt
        omega
    · by_cases e2 : j' = i
      · simp only [if_neg e1, if_pos e2] at e
        have := (h.row j (by omega)).1.lt
        omega
      · simp only [if_neg e1, if_neg e2] at e
        exact h.inj j j' (by omega) (by omega) e
theorem elem_l14 : Tryd.prog.elem 27 = 26 := by kernel_rfl
theorem size_l14 (W : World) : (sizeOf 26).run Tryd.prog W = .ok 1 W := by
  have h := info_l14
  cases hi : Tryd.prog.info? 26 with
  | none => rw [hi] at h; cases h
  | some i =>
    rw [hi] at h
    simp at h
    simp [sizeOf, typeInfo, hi, h.2.1]
/-- x[:m] of a list of lists. -/
theorem headL (b n cx m : Nat) (hm : m ≤ cx) (W : World) : (Instr.slice 27 (.slice (some ⟨b, 0, none⟩) n cx) none (some (.int .i64 (m : Int))) none).run Tryd.prog W = .ok (.slice (some ⟨b, 0, none⟩) m cx) W := by
  have hu : Tryd.prog.underlying 27 = some (.slice (Tryd.prog.elem 27)) := by rw [elem_l14]; exact Tryd.underlying27
  have h := run_slice_h (P := Tryd.prog) (w := W) 27 (some ⟨b, 0, none⟩) n cx hu .i64 (m : Int) (by omega) (by omega)
  have e : (if cx = 0 then some (⟨b, 0, none⟩ : Addr) else (some (⟨b, 0, none⟩ : Addr)).map (·.add 0)) = some ⟨b, 0, none⟩ := by
    split
    · rfl
    · show some ((⟨b, 0, none⟩ : Addr).add 0) = _
      rw [Addr.add_lit]
  rw [h, elem_l14, size_l14]
  simp only [Result.andThen, sliced, Int.toNat_natCast, Nat.zero_mul, Nat.sub_zero, e]
end Go.Proofs.YtgdnjbaohfiijaaDoor
namespace Go.Proofs.YtgdnjbaohfiijaaDoor
open Go.RowKit Gf2
set_option linter.unusedVariables false

-- layer 14: laidRows
/-- three marks more behind the first L of a row. -/
theorem app_marks (W : World) {g C L : Nat} {F : Nat → Nat} (hr : R6 W g C F) (hL : L ≤ C) (hn : (L + 3) * 2 ≤ 140737488355328) :
    ∃ w' g' C' F', (Builtin.append_ #[26, 26] 26 #[.slice (some ⟨g, 0, none⟩) L C, .slice (some ⟨W.heap.size, 0, none⟩) 3 3]).run Tryd.prog (W.alloc (.cells #[.int .u16 71, .int .u16 72, .int .u16 73] 34)) = .ok (.slice (some ⟨g', 0, none⟩) (L + 3) C') w' ∧
      L + 3 ≤ C' ∧ R6 w' g' C' F' ∧ (∀ i, i < L → F' i = F i) ∧ (F' L = 71 ∧ F' (L + 1) = 72 ∧ F' (L + 2) = 73) ∧ ∀ N, N ≤ W.heap.size → N ≤ g → N ≤ g' ∧ Below N W w' := by
  have hb0 : Below W.heap.size W (W.alloc (.cells #[.int .u16 71, .int .u16 72, .int .u16 73] 34)) := (Below.refl _ _).alloc (Nat.le_refl _) _
  have hsz : (W.alloc (.cells #[.int .u16 71, .int .u16 72, .int .u16 73] 34)).heap.size = W.heap.size + 1 := by simp
  have hcell : ∀ i, i < 3 → (W.alloc (.cells #[.int .u16 71, .int .u16 72, .int .u16 73] 34)).cell? ⟨W.heap.size, 0 + i, none⟩ = some (.int .u16 ((fun i => 71 + i) i : Nat)) := by
    intro i hi
    rw [cell_of_row _ W.heap.size (0 + i) _ _ _ (heap_alloc_new _ _)]
    have : i = 0 ∨ i = 1 ∨ i = 2 := by omega
    rcases this with rfl | rfl | rfl <;> rfl
  obtain ⟨w', g', C', F', hrun, hC, hR, hF1, hF2, hcase⟩ := app16 (W.alloc (.cells #[.int .u16 71, .int .u16 72, .int .u16 73] 34)) (g := g) (C := C) (L := L) (hr.below hb0) hL (x := some ⟨W.heap.size, 0, none⟩) (n := 3) (cx := 3) (S := fun i => 71 + i) (fun i hi => by omega) (fun _ => ⟨_, _, rfl, hcell⟩) hn
  refine ⟨w', g', C', F', hrun, hC, hR, hF1, ⟨hF2 0 (by decide), hF2 1 (by decide), hF2 2 (by decide)⟩, fun N h1 h2 => ?_⟩
  rcases hcase with ⟨rfl, ho⟩ | ⟨rfl, -, hb⟩
  · exact ⟨h2, (hb0.mono h1).trans (ho.below h2)⟩
  · exact ⟨by omega, (hb0.mono h1).trans (hb.mono (by omega))⟩
theorem r6_one14 (w : World) (t : Nat) (ht : t < 65536) : R6 (w.alloc (.cells #[.int .u16 (t : Nat)] 34)) w.heap.size 1 (fun _ => t) := by
  refine ⟨by decide, fun i hi => ht, #[.int .u16 (t : Nat)], heap_alloc_new _ _, rfl, fun i hi => ?_⟩
  obtain rfl : i = 0 := by omega
  rfl
/-- rows of their own, all laid, with their marks; a last row behind them. -/
structure La14 (w0 wr : World) (gr nr : Nat) (L : Nat → Nat) (F : Nat → Nat → Nat) (B C : Nat → Nat) (G : Nat → Nat → Nat) (gl : Nat) : Prop where
  bel : Below w0.heap.size w0 wr
  lst : wr.rowIs gr 26 (nr + 1) (fun j => if j < nr then .slice (some ⟨B j, 0, none⟩) (L j) (C j) else .slice (some ⟨gl, 0, none⟩) 1 1)
  row : ∀ j, j < nr → R6 wr (B j) (C j) (G j) ∧ L j + 3 ≤ C j ∧ gr < B j ∧ (∀ x, x < L j → G j x = F j x) ∧ G j (L j) = 71 ∧ G j (L j + 1) = 72 ∧ G j (L j + 2) = 73
  inj : ∀ j j', j < nr → j' < nr → B j = B j' → j = j'
  last : R6 wr gl 1 (fun _ => 74)
  lt : gr < gl
  dif : ∀ j, j < nr → B j < gl
theorem Lr.last {w0 wr : World} {gr nr : Nat} {L : Nat → Nat} {F : Nat → Nat → Nat} {B C : Nat → Nat} {G : Nat → Nat → Nat} (h : Lr w0 wr gr (nr + 1) nr L F true B C G) (h0 : w0.heap.size ≤ gr) :
    La14 w0 ((wr.alloc (.cells #[.int .u16 74] 34)).setCell ⟨gr, nr, none⟩ (.slice (some ⟨wr.heap.size, 0, none⟩) 1 1)) gr nr L F B C G wr.heap.size := by
  have glt := h.lst.lt
  have hb : Below wr.heap.size wr (wr.alloc (.cells #[.int .u16 74] 34)) := (Below.refl _ _).alloc (Nat.le_refl _) _
  have k : Kp gr (wr.alloc (.cells #[.int .u16 74] 34)) ((wr.alloc (.cells #[.int .u16 74] 34)).setCell ⟨gr, nr, none⟩ (.slice (some ⟨wr.heap.size, 0, none⟩) 1 1)) := (Kp.refl gr _).setCell _ _
  have b1 := h.bel.trans (hb.mono h.bel.size)
  have hl : R6 (wr.alloc (.cells #[.int .u16 74] 34)) wr.heap.size 1 (fun _ => 74) := r6_one14 wr 74 (by decide)
  refine ⟨b1.trans (k.below h0 b1.size), ((h.lst.of_block (hb.block gr glt)).set nr _).congr (fun j hj => ?_), fun j hj => ?_, h.inj, hl.kp k (by omega), glt, fun j hj => (h.row j hj).1.lt⟩
  · by_cases e : j = nr
    · rw [if_pos e, if_neg (by omega)]
    · rw [if_neg e, if_pos (by omega), if_pos (by omega)]
  · obtain ⟨a1, a2, a3, a4, a5⟩ := h.row j hj
    obtain ⟨c1, c2, c3, c4⟩ := a5 rfl
    exact ⟨(a1.below hb).kp k (by omega), c1, a3, a4, c2, c3, c4⟩
end Go.Proofs.YtgdnjbaohfiijaaDoor
namespace Go.Proofs.YtgdnjbaohfiijaaDoor
open Go.RowKit Gf2
set_option linter.unusedVariables false

theorem lens14 {l : Nat} (h : 2 * l ≤ 140737488351232) : l * 2 ≤ 140737488355328 ∧ (l + 3) * 2 ≤ 140737488355328 := by omega
theorem wrap14 {i n : Nat} (h : i < n) (hn : 24 * n ≤ 140737488351232) : wrap64 ((i : Int) + 1) = (i : Int) + 1 := by unfold wrap64; omega
set_option maxHeartbeats 8000000 in
set_option maxRecDepth 100000 in
theorem laidRows14 (A : Option Addr) (gb ob nr cr : Nat) (X : Nat → Option Addr) (L Cx : Nat → Nat) (F : Nat → Nat → Nat) (w : World) (hA : 0 < nr → A = some ⟨gb, ob, none⟩) (h : Ri14 w gb ob nr X L Cx F) (hn : 24 * nr ≤ 140737488351232) :
    Calls Tryd.prog 36 #[.slice A nr cr] w fun e w' => ∃ (gr : Nat) (B C : Nat → Nat) (G : Nat → Nat → Nat) (gl : Nat), e = .returned (.slice (some ⟨gr, 0, none⟩) nr (nr + 1)) ∧ w.heap.size ≤ gr ∧ La14 w w' gr nr L F B C G gl := by
  have W0 : wrap64 ((nr : Int) + 1) = ((nr + 1 : Nat) : Int) := by unfold wrap64; omega
  have hmr := make_rows14 (nr + 1) (by omega) w
  have hhd := headL w.heap.size (nr + 1) (nr + 1) nr (by omega)
  obtain ⟨gr, hgr⟩ : ∃ gr, gr = w.heap.size := ⟨_, rfl⟩
  obtain ⟨W3, hW3⟩ : ∃ W3, W3 = w.alloc (.cells (madeCells #[.slice none 0 0] (nr + 1)) 26) := ⟨_, rfl⟩
  have HW3 : Hid (Lr w W3 gr (nr + 1) 0 L F true (fun _ => 0) (fun _ => 0) (fun _ _ => 0) ∧ w.heap.size ≤ gr) := by
    refine ⟨⟨by rw [hW3]; exact below_alloc _ _, ?_, fun j hj => absurd hj (Nat.not_lt_zero _), fun j j' hj => absurd hj (Nat.not_lt_zero _)⟩, by rw [hgr]; exact Nat.le_refl _⟩
    rw [hW3, hgr]
    exact (World.rowIs_made w (.slice none 0 0) (nr + 1) 26).congr (fun j hj => by rw [if_neg (Nat.not_lt_zero _)])
  obtain ⟨M, hM⟩ : ∃ M, M = nr + 1 := ⟨_, rfl⟩
  have HR : Hid (Ri14 w gb ob nr X L Cx F ∧ 24 * nr ≤ 140737488351232 ∧ (0 < nr → A = some ⟨gb, ob, none⟩) ∧ M = nr + 1) := ⟨h, hn, hA, hM⟩
  replace hgr : Hid (gr = w.heap.size) := hgr
  replace hW3 : Hid (W3 = w.alloc (.cells (madeCells #[.slice none 0 0] M) 26)) := by rw [hM]; exact hW3
  rw [← hM] at W0 hmr hhd HW3 ⊢
  clear h hn hA hM
  go_enter Tryd.func36, Tryd.ntmps36
  go_wp2
  rw [← hgr.out, ← hW3.out]
  go_loopw [4] (fun iv wr => ∃ (i : Nat) (B C : Nat → Nat) (G : Nat → Nat → Nat), i ≤ nr ∧ iv = .int .i64 i ∧ Lr w wr gr M i L F true B C G) (fun iv _ => nr - (intOf iv).toNat)
  case atStart => exact ⟨0, _, _, _, Nat.zero_le _, rfl, HW3.out.1⟩
  case round =>
    obtain ⟨i, B, C, G, hi, rfl, hl⟩ := hrel
    by_cases hlt : i < nr
    · obtain rfl := HR.out.2.2.1 (by omega)
      have ib : ((i : Nat) : Int) < (nr : Int) := by omega
      have hM := HR.out.2.2.2
      have him : i < M := by rw [hM]; exact Nat.lt_succ_of_lt hlt
      have jb : ((i : Nat) : Int) < (M : Int) := Int.ofNat_lt.mpr him
      have hr := HR.out.1.below hl.bel
      have c0 := hr.cell i hlt
      have c1 : (wr.alloc (.cells #[] 34)).cell? ⟨gb, ob + i, none⟩ = some (.slice (X i) (L i) (Cx i)) := ((below_alloc wr _).cell (p := ⟨gb, ob + i, none⟩) hr.lt).trans c0
      obtain ⟨w4, g4, C4, F4, run4, hC4, hg4, hR4, hF4, hb4⟩ := app_lit14 wr (hr.row i hlt) (lens14 (hr.len i hlt)).1
      obtain ⟨w5, g5, C5, F5, run5, hC5, hR5, hF5, hm5, hb5⟩ := app_marks w4 hR4 hC4 (lens14 (hr.len i hlt)).2
      obtain ⟨hg5, hB5⟩ := hb5 wr.heap.size hb4.size hg4
      have hbb := hb4.trans hB5
      have c5 : w5.cell? ⟨gb, ob + i, none⟩ = some (.slice (X i) (L i) (Cx i)) := (hbb.cell (p := ⟨gb, ob + i, none⟩) hr.lt).trans c0
      have hd5 := head6 g5 0 (L i + 3) C5 (L i) (Nat.le_trans (Nat.le_add_right _ 3) hC5)
      have y1 : w5.cell? ⟨gr, i, none⟩ = some (.slice none 0 0) := by
        have := (hl.lst.of_block (hbb.block gr hl.lst.lt)).cell (i := i) him
        rw [if_neg (Nat.lt_irrefl _)] at this
        exact this
      have y2 := (hl.lst.of_block (hbb.block gr hl.lst.lt)).frozen i
      have W1 : wrap64 ((i : Int) + 1) = (i : Int) + 1 := wrap14 hlt HR.out.2.1
      have HX : Hid (Lr w (w5.setCell ⟨gr, i, none⟩ (.slice (some ⟨g5, 0, none⟩) (L i) C5)) gr M (i + 1) L F true _ _ _) := hl.next HW3.out.2 him hbb hg5 hR5 (Nat.le_trans (Nat.le_add_right _ 3) hC5) (fun x hx => (hF5 x hx).trans (hF4 x hx)) (fun _ => ⟨hC5, hm5⟩)
      obtain ⟨Y, hY⟩ : ∃ Y, Y = L i := ⟨_, rfl⟩
      obtain ⟨Z, hZ⟩ : ∃ Z, Z = L i + 3 := ⟨_, rfl⟩
      rw [← hZ, ← hY] at *
      clear hl hr hC4 hg4 hR4 hF4 hb4 hC5 hR5 hF5 hm5 hb5 hg5 hB5 hbb hM hmr hhd hW3 hgr hZ
      go_wp2_with (at_builtin; first | refine Lib.wpList_append_run _ rfl _ _ _ _ rfl _ _ rfl rfl _ _ run4 ?_ | refine Lib.wpList_append_run _ rfl _ _ _ _ rfl _ _ rfl rfl _ _ run5 ?_)
      go_roundw
      case rel => exact ⟨i + 1, _, _, _, hlt, by first | rfl | (rw [W1]; rfl), HX.out⟩
      case measure => first | exact meas_lt8 hlt | (rw [W1]; exact meas_lt8 hlt)
    · obtain rfl : i = nr := Nat.le_antisymm hi (Nat.le_of_not_lt hlt)
      have tb : ¬ ((i : Nat) : Int) < (i : Int) := by omega
      have hM := HR.out.2.2.2
      have him : i < M := by rw [hM]; exact Nat.lt_succ_self i
      have jb : ((i : Nat) : Int) < (M : Int) := Int.ofNat_lt.mpr him
      have hb : Below wr.heap.size wr (wr.alloc (.cells #[.int .u16 74] 34)) := below_alloc _ _
      have y1 : (wr.alloc (.cells #[.int .u16 74] 34)).cell? ⟨gr, i, none⟩ = some (.slice none 0 0) := by
        have := (hl.lst.of_block (hb.block gr hl.lst.lt)).cell (i := i) him
        rw [if_neg (Nat.lt_irrefl _)] at this
        exact this
      have y2 := (hl.lst.of_block (hb.block gr hl.lst.lt)).frozen i
      have HL : Hid (La14 w ((wr.alloc (.cells #[.int .u16 74] 34)).setCell ⟨gr, i, none⟩ (.slice (some ⟨wr.heap.size, 0, none⟩) 1 1)) gr i L F B C G wr.heap.size) := by
        subst hM
        exact hl.last HW3.out.2
      rw [← hgr.out] at hhd
      clear hl hM hmr hW3 hb
      go_wp2
      go_ret
      exact ⟨gr, rfl, HW3.out.2, B, C, G, _, HL.out⟩
end Go.Proofs.YtgdnjbaohfiijaaDoor
