import Derived.Test.YtehbiccpbopkfaaDoorFfaj
import Derived.Test.YtehbiccpbopkfaaDoorFfam
import Derived.Test.YtehbiccpbopkfaaDoorFfap
namespace Go.Proofs.YtehbiccpbopkfaaDoor
open Go.RowKit Gf2
set_option linter.unusedVariables false

-- layer 25: the document's head bytes
/-- a list of bytes in memory made since w. -/
structure Gw25 (w X : World) (g C n : Nat) (F : Nat → Nat) : Prop where
  le : n ≤ C
  lo : w.heap.size ≤ g
  bel : Below w.heap.size w X
  row : ∃ R, Rw X g C R ∧ ∀ i, i < n → R i = F i
def ap25 (T : Nat → Nat) (L : Nat) (S : Nat → Nat) (i : Nat) : Nat := if i < L then T i else S (i - L)
section
variable {w w0 X X' : World} {g C n L : Nat} {F T S : Nat → Nat}
theorem Gw25.below (h : Gw25 w X g C n F) (hb : Below X.heap.size X X') : Gw25 w X' g C n F := by
  obtain ⟨R, hr, he⟩ := h.row
  exact ⟨h.le, h.lo, h.bel.trans (hb.mono h.bel.size), R, hr.of_block (hb.block _ hr.lt), he⟩
theorem Gw25.base (h : Gw25 w X g C n F) (hb : Below w0.heap.size w0 w) : Gw25 w0 X g C n F := ⟨h.le, Nat.le_trans hb.size h.lo, hb.trans (h.bel.mono hb.size), h.row⟩
theorem Gw25.congr (h : Gw25 w X g C n F) (e : ∀ i, i < n → F i = T i) : Gw25 w X g C n T := by
  obtain ⟨R, hr, he⟩ := h.row
  exact ⟨h.le, h.lo, h.bel, R, hr, fun i hi => (he i hi).trans (e i hi)⟩
theorem Gw25.rb (h : Gw25 w X g C n F) : Rb X (.slice (some ⟨g, 0, none⟩) n C) n F := by
  obtain ⟨R, hr, he⟩ := h.row
  exact (hr.rb (o := 0) (n := n) (cap := C) (by have := h.le; omega) h.le hr.1).congr (fun i hi => by rw [Nat.zero_add]; exact he i hi)
theorem Gw25.lt (h : Gw25 w X g C n F) : g < X.heap.size := by
  obtain ⟨R, hr, he⟩ := h.row
  exact hr.lt
theorem Gw25.of (hr : Rw X w.heap.size n F) (hb : Below w.heap.size w X) : Gw25 w X w.heap.size n n F := ⟨Nat.le_refl _, Nat.le_refl _, hb, F, hr, fun _ _ => rfl⟩
theorem Gw25.app (h : Gw25 w X g C L T) {x : Option Addr} {cx : Nat} (hv : Rb X (.slice x n cx) n S) (hn : L + n ≤ 140737488355328) :
    ∃ X' g' C', (Builtin.append_ #[27, 27] 27 #[.slice (some ⟨g, 0, none⟩) L C, .slice x n cx]).run Tryd.prog X = .ok (.slice (some ⟨g', 0, none⟩) (L + n) C') X' ∧ Gw25 w X' g' C' (L + n) (ap25 T L S) := by
  obtain ⟨h1, h2, h3, R, h4, h5⟩ := h
  obtain ⟨b1, b2, a, c', b3, b5, b6, b4⟩ := hv
  cases b3
  obtain ⟨X', g', C', F', hrun, hC, hR, hF1, hF2, hcase⟩ := app8 X (g := g) (C := C) (L := L) h4 h1 (x := x) (n := n) (cx := cx) (S := S) b2 (fun h0 => by
    obtain ⟨b, o, e, hl, hcl⟩ := b4 h0
    exact ⟨b, o, e, hcl⟩) hn
  refine ⟨X', g', C', hrun, hC, ?_, ?_, F', hR, fun i hi => ?_⟩
  · rcases hcase with ⟨rfl, ho⟩ | ⟨rfl, -, hb⟩
    · exact h2
    · exact h3.size
  · rcases hcase with ⟨rfl, ho⟩ | ⟨rfl, -, hb⟩
    · exact h3.trans (ho.below h2)
    · exact h3.trans (hb.mono h3.size)
  · unfold ap25
    by_cases e : i < L
    · rw [if_pos e, hF1 i e, h5 i e]
    · rw [if_neg e, ← hF2 (i - L) (by omega), show L + (i - L) = i by omega]
end
theorem hcellsT25 {X : World} {bx : Nat} {T : TypeId} {f k m i s l b : Int} {st : Nat} (h : X.heap[bx]? = some (.cells (hc25 f k m i s l b st) T (0, 0))) :
    X.cell? ⟨bx, 0, none⟩ = some (.int .i64 f) ∧ X.cell? ⟨bx, 1, none⟩ = some (.int .i64 k) ∧ X.cell? ⟨bx, 2, none⟩ = some (.int .i64 m) ∧ X.cell? ⟨bx, 3, none⟩ = some (.int .i64 i) ∧ X.cell? ⟨bx, 4, none⟩ = some (.int .i64 s) ∧ X.cell? ⟨bx, 5, none⟩ = some (.int .i64 l) ∧ X.cell? ⟨bx, 6, none⟩ = some (.int .i64 b) ∧ X.cell? ⟨bx, 7, none⟩ = some (.int .u64 (st : Int)) :=
  ⟨by rw [cell_of_row _ _ 0 _ _ _ h]; rfl, by rw [cell_of_row _ _ 1 _ _ _ h]; rfl, by rw [cell_of_row _ _ 2 _ _ _ h]; rfl, by rw [cell_of_row _ _ 3 _ _ _ h]; rfl, by rw [cell_of_row _ _ 4 _ _ _ h]; rfl, by rw [cell_of_row _ _ 5 _ _ _ h]; rfl, by rw [cell_of_row _ _ 6 _ _ _ h]; rfl, by rw [cell_of_row _ _ 7 _ _ _ h]; rfl⟩
theorem w64_25 {x : Nat} (h : x < 18446744073709551616) : IntKind.u64.wrap ((x : Nat) : Int) = ((x : Nat) : Int) := by rw [IntKind.wrap_u64]; omega
/-- the bytes one behind the other. -/
def hq25 (f k m i s l b st : Nat) : Nat → Nat :=
  ap25 (ap25 (ap25 (ap25 (ap25 (ap25 (ap25 (ap25 (fun c => [67, 85, 76, 76, 1, f].getD c 0) 6 (by25 k)) 8 (by25 m)) 10 (by25 i)) 12 (by25 b)) 16 (by25 s)) 24 (by25 l)) 32 (by25 st)) 40 (fun c => [0, 0, 0, 0].getD c 0)
theorem ap_pn25 {T T' : Nat → Nat} {L d x c : Nat} (hc : c < L + d) (h : c < L → T c = T' c) : ap25 T L (by25 x) c = pn25 T' L d x c := by
  unfold ap25 pn25
  by_cases e : c < L
  · rw [if_pos e, if_neg (by omega), h e]
  · rw [if_neg e, if_pos (by omega)]
theorem ap_lo25 {T S : Nat → Nat} {L c : Nat} (h : c < L) : ap25 T L S c = T c := by unfold ap25; rw [if_pos h]
theorem ap_hi25 {T S : Nat → Nat} {L c : Nat} (h : ¬ c < L) : ap25 T L S c = S (c - L) := by unfold ap25; rw [if_neg h]
theorem hq_hp25 {f k m i s l b st c : Nat} (hc : c < 44) : hq25 f k m i s l b st c = hp25 (fun _ => 0) f k m i s l b st c := by
  by_cases h : c < 40
  · unfold hq25 hp25
    rw [ap_lo25 h]
    refine ap_pn25 (L := 32) (d := 8) h (fun h => ap_pn25 (L := 24) (d := 8) h (fun h => ap_pn25 (L := 16) (d := 8) h (fun h => ap_pn25 (L := 12) (d := 4) h (fun h => ap_pn25 (L := 10) (d := 2) h (fun h => ap_pn25 (L := 8) (d := 2) h (fun h => ap_pn25 (L := 6) (d := 2) h (fun h => ?_)))))))
    have : c = 0 ∨ c = 1 ∨ c = 2 ∨ c = 3 ∨ c = 4 ∨ c = 5 := by omega
    rcases this with rfl | rfl | rfl | rfl | rfl | rfl <;> rfl
  · rw [hp_out25 (by omega)]
    unfold hq25
    rw [ap_hi25 h]
    have : c = 40 ∨ c = 41 ∨ c = 42 ∨ c = 43 := by omega
    rcases this with rfl | rfl | rfl | rfl <;> rfl
set_option maxHeartbeats 8000000 in
set_option maxRecDepth 100000 in
theorem headBytes25 (f k m i s l b st : Nat) (w : World) (hf : f < 256) (hk : k < 9223372036854775808) (hm : m < 9223372036854775808) (hi : i < 9223372036854775808) (hs : s < 9223372036854775808) (hl : l < 9223372036854775808) (hb : b < 9223372036854775808) (hst : st < 18446744073709551616) :
    Calls Tryd.prog 29 #[hd25 f k m i s l b st] w fun e w' => ∃ g C, e = .returned (.slice (some ⟨g, 0, none⟩) 44 C) ∧ Gw25 w w' g C 44 (hp25 (fun _ => 0) f k m i s l b st) := by
  obtain ⟨W0, hW0⟩ : ∃ W0, w.alloc (.cells (hc25 f k m i s l b st) 26) = W0 := ⟨_, rfl⟩
  have b0 : Below w.heap.size w W0 := by rw [← hW0]; exact (Below.refl _ _).alloc (Nat.le_refl _) _
  have k0 : W0.heap[w.heap.size]? = some (.cells (hc25 f k m i s l b st) 26 (0, 0)) := by rw [← hW0]; exact heap_alloc_new _ _
  have z0 : w.heap.size < W0.heap.size := (Array.getElem?_eq_some_iff.1 k0).1
  have V0 : IntKind.u8.wrap ((f : Nat) : Int) = ((f : Nat) : Int) := by rw [IntKind.wrap_u8]; omega
  have HV : Hid (IntKind.u64.wrap ((k : Nat) : Int) = ((k : Nat) : Int) ∧ IntKind.u64.wrap ((m : Nat) : Int) = ((m : Nat) : Int) ∧ IntKind.u64.wrap ((i : Nat) : Int) = ((i : Nat) : Int) ∧ IntKind.u64.wrap ((b : Nat) : Int) = ((b : Nat) : Int) ∧ IntKind.u64.wrap ((s : Nat) : Int) = ((s : Nat) : Int) ∧ IntKind.u64.wrap ((l : Nat) : Int) = ((l : Nat) : Int)) := by
    exact ⟨w64_25 (by omega), w64_25 (by omega), w64_25 (by omega), w64_25 (by omega), w64_25 (by omega), w64_25 (by omega)⟩
  have r0 : Rw (W0.alloc (.cells #[.int .u8 67, .int .u8 85, .int .u8 76, .int .u8 76, .int .u8 1, .int .u8 (f : Int)] 5)) W0.heap.size 6 (fun c => [67, 85, 76, 76, 1, f].getD c 0) := lit_rw [67, 85, 76, 76, 1, f] W0 (by intro x hx; simp at hx; omega) (by simp)
  obtain ⟨W1, hW1⟩ : ∃ W1, W0.alloc (.cells #[.int .u8 67, .int .u8 85, .int .u8 76, .int .u8 76, .int .u8 1, .int .u8 (f : Int)] 5) = W1 := ⟨_, rfl⟩
  have G : Gw25 W0 (W0.alloc (.cells #[.int .u8 67, .int .u8 85, .int .u8 76, .int .u8 76, .int .u8 1, .int .u8 (f : Int)] 5)) W0.heap.size 6 6 (fun c => [67, 85, 76, 76, 1, f].getD c 0) := Gw25.of r0 ((Below.refl _ _).alloc (Nat.le_refl _) _)
  rw [hW1] at G
  have c_k : Hid (∀ W, Calls Tryd.prog 30 #[.int .u64 (k : Int), .int .i64 2] W fun e w' => e = .returned (.slice (some ⟨W.heap.size, 0, none⟩) 2 2) ∧ Below W.heap.size W w' ∧ Rw w' W.heap.size 2 (by25 k)) := fun W => little25 k 2 W (by omega) (by omega)
  have c_m : Hid (∀ W, Calls Tryd.prog 30 #[.int .u64 (m : Int), .int .i64 2] W fun e w' => e = .returned (.slice (some ⟨W.heap.size, 0, none⟩) 2 2) ∧ Below W.heap.size W w' ∧ Rw w' W.heap.size 2 (by25 m)) := fun W => little25 m 2 W (by omega) (by omega)
  have c_i : Hid (∀ W, Calls Tryd.prog 30 #[.int .u64 (i : Int), .int .i64 2] W fun e w' => e = .returned (.slice (some ⟨W.heap.size, 0, none⟩) 2 2) ∧ Below W.heap.size W w' ∧ Rw w' W.heap.size 2 (by25 i)) := fun W => little25 i 2 W (by omega) (by omega)
  have c_b : Hid (∀ W, Calls Tryd.prog 30 #[.int .u64 (b : Int), .int .i64 4] W fun e w' => e = .returned (.slice (some ⟨W.heap.size, 0, none⟩) 4 4) ∧ Below W.heap.size W w' ∧ Rw w' W.heap.size 4 (by25 b)) := fun W => little25 b 4 W (by omega) (by omega)
  have c_s : Hid (∀ W, Calls Tryd.prog 30 #[.int .u64 (s : Int), .int .i64 8] W fun e w' => e = .returned (.slice (some ⟨W.heap.size, 0, none⟩) 8 8) ∧ Below W.heap.size W w' ∧ Rw w' W.heap.size 8 (by25 s)) := fun W => little25 s 8 W (by omega) (by omega)
  have c_l : Hid (∀ W, Calls Tryd.prog 30 #[.int .u64 (l : Int), .int .i64 8] W fun e w' => e = .returned (.slice (some ⟨W.heap.size, 0, none⟩) 8 8) ∧ Below W.heap.size W w' ∧ Rw w' W.heap.size 8 (by25 l)) := fun W => little25 l 8 W (by omega) (by omega)
  have c_st : Hid (∀ W, Calls Tryd.prog 30 #[.int .u64 (st : Int), .int .i64 8] W fun e w' => e = .returned (.slice (some ⟨W.heap.size, 0, none⟩) 8 8) ∧ Below W.heap.size W w' ∧ Rw w' W.heap.size 8 (by25 st)) := fun W => little25 st 8 W (by omega) (by omega)
  have HG := HV.out
  obtain ⟨V1, V2, V3, V4, V5, V6⟩ := HG
  have HB : Hid (Below w.heap.size w W0 ∧ W0.heap[w.heap.size]? = some (.cells (hc25 f k m i s l b st) 26 (0, 0)) ∧ w.heap.size < W0.heap.size) := ⟨b0, k0, z0⟩
  have HK : Hid (∀ X, Below W0.heap.size W0 X → X.heap[w.heap.size]? = some (.cells (hc25 f k m i s l b st) 26 (0, 0))) := fun X hb => (hb.block _ z0).trans k0
  obtain ⟨q0, q1, q2, q3, q4, q5, q6, q7⟩ := hcellsT25 (HK.out _ G.bel)
  obtain ⟨y0, y1, y2, y3, y4, y5, y6, y7⟩ := hcellsT25 k0
  unfold hd25
  clear b0 k0 z0 HV hf hk hm hi hs hl hb hst r0
  unfold hc25 at hW0
  go_enter Tryd.func29, Tryd.ntmps29
  go_wp2_with (first
    | (go_at_call 30; (with_reducible refine (c_k.out _).mono ?_); rintro e X_k ⟨rfl, hb, hr⟩; clear c_k q0 q1 q2 q3 q4 q5 q6 q7; have G2 := G.below hb; clear G hb; obtain ⟨Y_k, g_k, C_k, hrun, G⟩ := G2.app hr.rb0 (by omega); clear G2 hr; have G : Gw25 W0 Y_k g_k C_k 8 _ := G; obtain ⟨q0, q1, q2, q3, q4, q5, q6, q7⟩ := hcellsT25 (HK.out _ G.bel))
    | (go_at_call 30; (with_reducible refine (c_m.out _).mono ?_); rintro e X_m ⟨rfl, hb, hr⟩; clear c_m q0 q1 q2 q3 q4 q5 q6 q7; have G2 := G.below hb; clear G hb; obtain ⟨Y_m, g_m, C_m, hrun, G⟩ := G2.app hr.rb0 (by omega); clear G2 hr; have G : Gw25 W0 Y_m g_m C_m 10 _ := G; obtain ⟨q0, q1, q2, q3, q4, q5, q6, q7⟩ := hcellsT25 (HK.out _ G.bel))
    | (go_at_call 30; (with_reducible refine (c_i.out _).mono ?_); rintro e X_i ⟨rfl, hb, hr⟩; clear c_i q0 q1 q2 q3 q4 q5 q6 q7; have G2 := G.below hb; clear G hb; obtain ⟨Y_i, g_i, C_i, hrun, G⟩ := G2.app hr.rb0 (by omega); clear G2 hr; have G : Gw25 W0 Y_i g_i C_i 12 _ := G; obtain ⟨q0, q1, q2, q3, q4, q5, q6, q7⟩ := hcellsT25 (HK.out _ G.bel))
    | (go_at_call 30; (with_reducible refine (c_b.out _).mono ?_); rintro e X_b ⟨rfl, hb, hr⟩; clear c_b q0 q1 q2 q3 q4 q5 q6 q7; have G2 := G.below hb; clear G hb; obtain ⟨Y_b, g_b, C_b, hrun, G⟩ := G2.app hr.rb0 (by omega); clear G2 hr; have G : Gw25 W0 Y_b g_b C_b 16 _ := G; obtain ⟨q0, q1, q2, q3, q4, q5, q6, q7⟩ := hcellsT25 (HK.out _ G.bel))
    | (go_at_call 30; (with_reducible refine (c_s.out _).mono ?_); rintro e X_s ⟨rfl, hb, hr⟩; clear c_s q0 q1 q2 q3 q4 q5 q6 q7; have G2 := G.below hb; clear G hb; obtain ⟨Y_s, g_s, C_s, hrun, G⟩ := G2.app hr.rb0 (by omega); clear G2 hr; have G : Gw25 W0 Y_s g_s C_s 24 _ := G; obtain ⟨q0, q1, q2, q3, q4, q5, q6, q7⟩ := hcellsT25 (HK.out _ G.bel))
    | (go_at_call 30; (with_reducible refine (c_l.out _).mono ?_); rintro e X_l ⟨rfl, hb, hr⟩; clear c_l q0 q1 q2 q3 q4 q5 q6 q7; have G2 := G.below hb; clear G hb; obtain ⟨Y_l, g_l, C_l, hrun, G⟩ := G2.app hr.rb0 (by omega); clear G2 hr; have G : Gw25 W0 Y_l g_l C_l 32 _ := G; obtain ⟨q0, q1, q2, q3, q4, q5, q6, q7⟩ := hcellsT25 (HK.out _ G.bel))
    | (go_at_call 30; (with_reducible refine (c_st.out _).mono ?_); rintro e X_st ⟨rfl, hb, hr⟩; clear c_st q0 q1 q2 q3 q4 q5 q6 q7; have G2 := G.below hb; clear G hb; obtain ⟨Y_st, g_st, C_st, hrun, G⟩ := G2.app hr.rb0 (by omega); clear G2 hr; have G : Gw25 W0 Y_st g_st C_st 40 _ := G; obtain ⟨q0, q1, q2, q3, q4, q5, q6, q7⟩ := hcellsT25 (HK.out _ G.bel); obtain ⟨Z, hZ⟩ : ∃ Z, Y_st.alloc (.cells #[.int .u8 0, .int .u8 0, .int .u8 0, .int .u8 0] 5) = Z := ⟨_, rfl⟩; have rz : Rw (Y_st.alloc (.cells #[.int .u8 0, .int .u8 0, .int .u8 0, .int .u8 0] 5)) Y_st.heap.size 4 (fun c => [0, 0, 0, 0].getD c 0) := lit_rw [0, 0, 0, 0] Y_st (by decide) (by decide); have Gz := G.below ((Below.refl _ _).alloc (Nat.le_refl _) _ : Below Y_st.heap.size Y_st (Y_st.alloc (.cells #[.int .u8 0, .int .u8 0, .int .u8 0, .int .u8 0] 5))); rw [hZ] at rz Gz; obtain ⟨Y9, g9, C9, hrunZ, G9⟩ := Gz.app rz.rb0 (by omega); clear rz Gz G)
    | (at_builtin; refine Lib.wpList_append_run _ rfl _ _ _ _ rfl _ _ rfl rfl _ _ hrun ?_; clear hrun)
    | (at_builtin; refine Lib.wpList_append_run _ rfl _ _ _ _ rfl _ _ rfl rfl _ _ hrunZ ?_; clear hrunZ))
  go_ret
  exact ⟨g9, C9, rfl, (G9.base HB.out.1).congr (fun c hc => hq_hp25 hc)⟩
end Go.Proofs.YtehbiccpbopkfaaDoor
namespace Go.Proofs.YtehbiccpbopkfaaDoor
open Go.RowKit Gf2
set_option linter.unusedVariables false

-- layer 25: the document's sum of a block
set_option maxHeartbeats 8000000 in
set_option maxRecDepth 100000 in
theorem rblockSum25 (v u : Value) (n q j HS : Nat) (F S : Nat → Nat) (w : World) (h : Rb w v n F) (hu : Rb w u q S) (hH : nt (fol25 (nt 0) F n) = HS) (hj : j ≤ 1048576) :
    Calls Tryd.prog 31 #[v, .int .i64 (j : Int), u] w fun e w' => ∃ g, e = .returned (.slice (some ⟨g, 0, none⟩) 4 4) ∧ Below w.heap.size w w' ∧ w.heap.size ≤ g ∧ Rw w' g 4 (by25 (bsm25 HS j q S)) := by
  have lH : HS < 4294967296 := by rw [← hH]; exact nt_lt (fol_lt (nt_lt (by decide)) n h.2.1)
  have c1 := rsum25 v n F w h
  rw [hH] at c1
  have c2 : Hid (∀ W, Calls Tryd.prog 30 #[.int .u64 (j : Int), .int .i64 4] W fun e w' => e = .returned (.slice (some ⟨W.heap.size, 0, none⟩) 4 4) ∧ Below W.heap.size W w' ∧ Rw w' W.heap.size 4 (by25 j)) := fun W => little25 j 4 W (by omega) (by omega)
  have c3 : Hid (∀ W g, Rw W g 4 (by25 j) → Calls Tryd.prog 11 #[.int .u32 (HS : Int), .slice (some ⟨g, 0, none⟩) 4 4] W fun e w' => e = .returned (.int .u32 ((nt (fol25 (nt HS) (by25 j) 4) : Nat) : Int)) ∧ w' = W) := fun W g hr => rfold25 HS _ 4 (by25 j) W hr.rb0 lH
  have c4 : Hid (∀ W, Below w.heap.size w W → Calls Tryd.prog 11 #[.int .u32 ((nt (fol25 (nt HS) (by25 j) 4) : Nat) : Int), u] W fun e w' => e = .returned (.int .u32 ((bsm25 HS j q S : Nat) : Int)) ∧ w' = W) := fun W hb =>
    rfold25 _ u q S W (hu.below hb) (nt_lt (fol_lt (nt_lt lH) 4 (fun i _ => by_lt25 j i)))
  have lB : bsm25 HS j q S < 4294967296 := bsm_lt25 lH hu.2.1
  have c5 : Hid (∀ W, Calls Tryd.prog 30 #[.int .u64 ((bsm25 HS j q S : Nat) : Int), .int .i64 4] W fun e w' => e = .returned (.slice (some ⟨W.heap.size, 0, none⟩) 4 4) ∧ Below W.heap.size W w' ∧ Rw w' W.heap.size 4 (by25 (bsm25 HS j q S))) := fun W => little25 _ 4 W (by omega) (by omega)
  have U1 : IntKind.u64.wrap ((j : Nat) : Int) = ((j : Nat) : Int) := w64_25 (by omega)
  have U2 : IntKind.u64.wrap ((bsm25 HS j q S : Nat) : Int) = ((bsm25 HS j q S : Nat) : Int) := w64_25 (by omega)
  generalize bsm25 HS j q S = z at c4 c5 U2 ⊢
  generalize nt (fol25 (nt HS) (by25 j) 4) = y at c3 c4
  clear h hu hH hj lH lB
  go_enter Tryd.func31, Tryd.ntmps31
  go_wp2_with (first
    | (go_at_call 9; (with_reducible refine c1.mono ?_); rintro e w9 ⟨rfl, hw⟩; have hw := hw.symm; subst hw; clear c1)
    | (go_at_call 30; (with_reducible refine (c2.out _).mono ?_); rintro e X1 ⟨rfl, hb1, hr1⟩; clear c2; have d3 := c3.out X1 _ hr1; have d4 := c4.out X1 hb1; clear c3 c4 hr1)
    | (go_at_call 11; (with_reducible refine d3.mono ?_); rintro e w9 ⟨rfl, hw⟩; have hw := hw.symm; subst hw; clear d3)
    | (go_at_call 11; (with_reducible refine d4.mono ?_); rintro e w9 ⟨rfl, hw⟩; have hw := hw.symm; subst hw; clear d4)
    | (go_at_call 30; (with_reducible refine (c5.out _).mono ?_); rintro e X2 ⟨rfl, hb2, hr2⟩; clear c5))
  go_ret
  exact ⟨_, rfl, hb1.trans (hb2.mono hb1.size), hb1.size, hr2⟩
end Go.Proofs.YtehbiccpbopkfaaDoor
namespace Go.Proofs.YtehbiccpbopkfaaDoor
open Go.RowKit Gf2
set_option linter.unusedVariables false

-- layer 25: the document's Pack
theorem ap_zero25 {T S : Nat → Nat} {c : Nat} : ap25 T 0 S c = S c := by unfold ap25; rw [if_neg (by omega), Nat.sub_zero]
theorem hsm_def25 (f k m i s l b st : Nat) : hsm25 f k m i s l b st = nt (fol25 (nt 0) (hp25 (fun _ => 0) f k m i s l b st) 44) := by unfold hsm25; rfl
/-- a block and its sum behind what is there. -/
theorem ap_step25 {HD : Nat → Nat} {HS L b : Nat} {Sh P : Nat → Nat} {j n q c : Nat} (hb : 1 ≤ b) (h : j * b < L) (hn : en25 L b j = n) (hq : gb25 L b j = q) (hP : ∀ c, c < n → P c = fl25 HD HS L b Sh c) (hc : c < n + q + 4) :
    ap25 (ap25 P n (fun x => Sh (j * b + x))) (n + q) (by25 (bsm25 HS j q (fun x => Sh (j * b + x)))) c = fl25 HD HS L b Sh c := by
  have e1 := en_mid25 h
  have hg := gb_le25 L b j
  rw [hn] at e1
  rw [hq] at hg
  by_cases h1 : c < n
  · rw [ap_lo25 (by omega), ap_lo25 h1, hP c h1]
  · obtain ⟨r, rfl⟩ : ∃ r, c = 48 + j * b + 4 * j + r := ⟨c - n, by omega⟩
    rw [fl_in25 (by omega), hq]
    by_cases h2 : r < q
    · rw [ap_lo25 (by omega), ap_hi25 h1, if_pos h2]
      show Sh _ = Sh _
      congr 2
      omega
    · rw [ap_hi25 (by omega), if_neg h2]
      congr 1
      omega
set_option maxHeartbeats 8000000 in
set_option maxRecDepth 100000 in
theorem rpack25_yes (f k m i s l b st : Nat) (v : Value) (Sh : Nat → Nat) (w : World) (h : Gh25 f k m i s l b) (hst : st < 18446744073709551616) (hv : Rb w v l Sh) :
    Calls Tryd.prog 15 #[hd25 f k m i s l b st, v] w fun e w' => ∃ g C, e = .returned (.tuple #[.slice (some ⟨g, 0, none⟩) (48 + l + 4 * nb25 l b) C, .int .i64 0]) ∧ Gw25 w w' g C (48 + l + 4 * nb25 l b) (fl25 (hdb25 f k m i s l b st) (hsm25 f k m i s l b st) l b Sh) := by
  have hv1 := h.pv
  have hf : f < 256 := by have := hv1.fam; omega
  have hb1 : 1 ≤ b := by have := h.blk.1; omega
  have hb2 : b ≤ 1048576 := by have := h.blk.2.1; omega
  have hl2 := h.l2
  have hcn := h.cnt
  have hk9 := hv1.hk
  have hm9 := hv1.hm
  have hs9 := hv1.sum
  have hi9 := h.idx
  have hs8 := h.s2
  have hl1 : 1 ≤ l := by
    have h1 := ln16_ge (f : Int) (k := k) (n := s) (by omega)
    rw [← h.len] at h1
    rcases Nat.eq_zero_or_pos l with e | e
    · rw [e, Nat.mul_zero] at h1
      have := h.s1
      omega
    · exact e
  obtain ⟨hnb, hF, va, cs, rfl, hc1, hc2, h4⟩ := id hv
  obtain ⟨bs, os, rfl, hbl, hcc⟩ := h4 hl1
  have b0 : Below w.heap.size w (w.alloc (.cells (hc25 f k m i s l b st) 26)) := (Below.refl _ _).alloc (Nat.le_refl _) _
  have k0 : (w.alloc (.cells (hc25 f k m i s l b st) 26)).heap[w.heap.size]? = some (.cells (hc25 f k m i s l b st) 26 (0, 0)) := heap_alloc_new _ _
  have c1 : Hid (∀ W, Calls Tryd.prog 14 #[hd25 f k m i s l b st] W fun e w' => e = .returned (.int .i64 0) ∧ Below W.heap.size W w') := fun W => rcheck25_yes f k m i s l b st W h
  have c2 : Hid (∀ W, Calls Tryd.prog 29 #[hd25 f k m i s l b st] W fun e w' => ∃ g C, e = .returned (.slice (some ⟨g, 0, none⟩) 44 C) ∧ Gw25 W w' g C 44 (hp25 (fun _ => 0) f k m i s l b st)) := fun W => headBytes25 f k m i s l b st W hf (by omega) (by omega) (by omega) (by omega) (by omega) (by omega) hst
  have lHS : hsm25 f k m i s l b st < 4294967296 := hsm_lt25 hf
  have hHD : ∀ c, c < 48 → ap25 (ap25 (fun c => ([] : List Nat).getD c 0) 0 (hp25 (fun _ => 0) f k m i s l b st)) 44 (by25 (hsm25 f k m i s l b st)) c = hdb25 f k m i s l b st c := fun c hc => by
    unfold hdb25
    exact ap_pn25 (by omega) (fun _ => ap_zero25)
  have c4 : Hid (∀ (X : World) (g C : Nat) (W0 : World), Gw25 W0 X g C 44 (hp25 (fun _ => 0) f k m i s l b st) → Calls Tryd.prog 9 #[.slice (some ⟨g, 0, none⟩) 44 C] X fun e w' => e = .returned (.int .u32 ((hsm25 f k m i s l b st : Nat) : Int)) ∧ w' = X) := fun X g C W0 hG => by
    have c := rsum25 _ 44 _ X hG.rb
    rw [← hsm_def25] at c
    exact c
  have c5 : Hid (∀ W, Calls Tryd.prog 30 #[.int .u64 ((hsm25 f k m i s l b st : Nat) : Int), .int .i64 4] W fun e w' => e = .returned (.slice (some ⟨W.heap.size, 0, none⟩) 4 4) ∧ Below W.heap.size W w' ∧ Rw w' W.heap.size 4 (by25 (hsm25 f k m i s l b st))) := fun W => little25 _ 4 W (by omega) (by omega)
  have c6 : Hid (∀ W, Calls Tryd.prog 28 #[.int .i64 (l : Int), .int .i64 (b : Int)] W fun e w' => e = .returned (.int .i64 ((nb25 l b : Nat) : Int)) ∧ w' = W) := fun W => spans25 l b W (by omega) hb1 hb2
  have c7 : Hid (∀ (X : World) (g C : Nat) (W0 : World) (j q : Nat) (u : Value) (S : Nat → Nat), Gw25 W0 X g C 44 (hp25 (fun _ => 0) f k m i s l b st) → Rb X u q S → j ≤ 1048576 → Calls Tryd.prog 31 #[.slice (some ⟨g, 0, none⟩) 44 C, .int .i64 (j : Int), u] X fun e w' => ∃ g9 : Nat, e = .returned (.slice (some ⟨g9, 0, none⟩) 4 4) ∧ Below X.heap.size X w' ∧ X.heap.size ≤ g9 ∧ Rw w' g9 4 (by25 (bsm25 (hsm25 f k m i s l b st) j q S))) := fun X g C W0 j q u S hG hu hj => by
    have e := (hsm_def25 f k m i s l b st).symm
    generalize hsm25 f k m i s l b st = HS at e ⊢
    generalize hp25 (fun _ => 0) f k m i s l b st = HP at e hG
    exact rblockSum25 _ u 44 q j HS HP S X hG.rb hu e hj
  have U2 : IntKind.u64.wrap ((hsm25 f k m i s l b st : Nat) : Int) = ((hsm25 f k m i s l b st : Nat) : Int) := w64_25 (by omega)
  have D1 : (((l : Nat) : Int) != ((l : Nat) : Int)) = false := by simp
  have D2 : (((l : Nat) : Int) == ((l : Nat) : Int)) = true := by simp
  have HK0 : Hid (∀ X, Below (w.alloc (.cells (hc25 f k m i s l b st) 26)).heap.size (w.alloc (.cells (hc25 f k m i s l b st) 26)) X → X.heap[w.heap.size]? = some (.cells (hc25 f k m i s l b st) 26 (0, 0)) ∧ Below w.heap.size w X) := fun X hb => ⟨(hb.block _ (by simp)).trans k0, b0.trans (hb.mono (by simp))⟩
  generalize hp25 (fun _ => 0) f k m i s l b st = HP at c2 c4 c7 hHD
  generalize hsm25 f k m i s l b st = HS at c4 c5 c7 U2 lHS hHD ⊢
  generalize hdb25 f k m i s l b st = HD at hHD ⊢
  have HHD : Hid (∀ c, c < 48 → ap25 (ap25 (fun c => ([] : List Nat).getD c 0) 0 HP) 44 (by25 HS) c = HD c) := hHD
  obtain ⟨nb, hnb9⟩ : ∃ nb, Hid (nb25 l b = nb) := ⟨_, rfl⟩
  rw [hnb9.out] at c6 hcn ⊢
  have HH : Hid (1 ≤ b ∧ b ≤ 1048576 ∧ l ≤ 67108864 ∧ nb ≤ 65536 ∧ Rb w (.slice (some ⟨bs, os, none⟩) l cs) l Sh ∧ l ≤ cs) := ⟨hb1, hb2, hl2, hcn, hv, hc1⟩
  unfold hd25 at c1 c2 ⊢
  unfold hc25 at HK0
  clear h hv1 hf hb1 hb2 hl2 hcn hk9 hm9 hs9 hi9 hs8 hl1 hnb hF hc1 hc2 h4 hbl hcc lHS hst hv hHD b0 k0
  go_enter Tryd.func15, Tryd.ntmps15
  go_wp2_with (first
    | (go_at_call 14; (with_reducible refine (c1.out _).mono ?_); rintro e X0 ⟨rfl, hb⟩; clear c1; have z := (HK0.out X0 hb).1; obtain ⟨q0, q1, q2, q3, q4, q5, q6, q7⟩ := hcellsT25 z)
    | (go_at_call 29; (with_reducible refine (c2.out _).mono ?_); rintro e X1 ⟨g1, C1, rfl, G1⟩; clear c2 q0 q1 q2 q3 q4 q5 q6 q7 z;
       have HK : Hid (∀ X, Below X1.heap.size X1 X → X.heap[w.heap.size]? = some (.cells #[.int .i64 f, .int .i64 k, .int .i64 m, .int .i64 i, .int .i64 s, .int .i64 l, .int .i64 b, .int .u64 st] 26 (0, 0)) ∧ Below w.heap.size w X) := (fun X hx => HK0.out X ((hb.trans (G1.bel.mono hb.size)).trans (hx.mono (Nat.le_trans hb.size G1.bel.size))));
       clear HK0 hb;
       obtain ⟨Z, hZ⟩ : ∃ Z, X1.alloc (.cells #[] 5) = Z := ⟨_, rfl⟩;
       have rz : Rw (X1.alloc (.cells #[] 5)) X1.heap.size 0 (fun c => ([] : List Nat).getD c 0) := lit_rw [] X1 (by decide) (by decide);
       have Gz : Gw25 X1 (X1.alloc (.cells #[] 5)) X1.heap.size 0 0 (fun c => ([] : List Nat).getD c 0) := Gw25.of rz ((Below.refl _ _).alloc (Nat.le_refl _) _);
       rw [hZ] at rz Gz;
       obtain ⟨Y0, gA, CA, hrunA, GA⟩ := Gz.app (G1.below Gz.bel).rb (by omega);
       have d4 := c4.out Y0 _ _ _ (G1.below GA.bel); clear c4 rz Gz)
    | (at_builtin; refine Lib.wpList_append_run _ rfl _ _ _ _ rfl _ _ rfl rfl _ _ hrunA ?_; clear hrunA)
    | (go_at_call 9; (with_reducible refine d4.mono ?_); rintro e w9 ⟨rfl, hw⟩; have hw := hw.symm; subst hw; clear d4)
    | (go_at_call 30; (with_reducible refine (c5.out _).mono ?_); rintro e X2 ⟨rfl, hb2, hr2⟩; clear c5; obtain ⟨Y1, gB, CB, hrunB, GB⟩ := (GA.below hb2).app hr2.rb0 (by omega); clear GA hb2 hr2)
    | (at_builtin; refine Lib.wpList_append_run _ rfl _ _ _ _ rfl _ _ rfl rfl _ _ hrunB ?_; clear hrunB))
  go_loopw [7, 8] (fun sf sn wr => ∃ j g C : Nat, j ≤ nb ∧ sn = .int .i64 ((j : Nat) : Int) ∧ sf = .slice (some ⟨g, 0, none⟩) (en25 l b j) C ∧ Gw25 X1 wr g C (en25 l b j) (fl25 HD HS l b Sh)) (fun _ sn _ => nb - (intOf sn).toNat)
  case atStart => exact ⟨0, gB, CB, Nat.zero_le _, rfl, by rw [en_first25], by rw [en_first25]; exact GB.congr (fun c hc => by rw [fl_head25 hc]; exact HHD.out c hc)⟩
  case round =>
    clear GB hZ U2
    obtain ⟨j, g, C, hj, rfl, rfl, G⟩ := hrel
    by_cases hjn : j < nb
    · have ib : ((j : Nat) : Int) < (nb : Int) := Int.ofNat_lt.2 hjn
      have hjl : j * b < l := (nb_lt25 HH.out.1).1 (by rw [hnb9.out]; exact hjn)
      have hj2 : j ≤ 1048576 := by have := HH.out; omega
      have hyx := gb_pos25 HH.out.1 hjl
      have henx := en_next25 HH.out.1 hjl
      have hem := en_mid25 (b := b) hjl
      obtain ⟨n, hn9⟩ : ∃ n, Hid (en25 l b j = n) := ⟨_, rfl⟩
      obtain ⟨q, hq9⟩ : ∃ q, Hid (gb25 l b j = q) := ⟨_, rfl⟩
      rw [hn9.out] at G hem ⊢
      have hql : j * b + q ≤ l := by
        have h1 : Nat.min (j * b + b) l ≤ l := Nat.min_le_right _ _
        have h2 := hq9.out
        unfold gb25 at h2
        omega
      have hqy : Nat.min (j * b + b) l - j * b = q := hq9.out
      rw [← hem, hq9.out] at henx
      have hjb : j * b ≤ 1048576 * 1048576 := Nat.mul_le_mul hj2 HH.out.2.1
      have hnq : n + q + 4 ≤ 140737488355328 := by have := HH.out; omega
      have hx9 : (j + 1) * b = j * b + b := by rw [Nat.add_mul, Nat.one_mul]
      have rbu8 : ∀ X, Below X1.heap.size X1 X → Rb X (.slice (some ⟨bs, os + j * b, none⟩) q (cs - j * b)) q (fun c => Sh (j * b + c)) := fun X hb =>
        ((HH.out.2.2.2.2.1.below (HK.out X hb).2).drop (o := j * b) (by omega)).cut (by omega) (by have := HH.out.2.2.2.2.2; omega)
      have rbu := rbu8 wr G.bel
      have HC1 : Hid (∀ W, (Instr.slice 27 (.slice (some ⟨bs, os, none⟩) l cs) (some (.int .i64 ((j * b : Nat) : Int))) (some (.int .i64 ((Nat.min (j * b + b) l : Nat) : Int))) none).run Tryd.prog W = .ok (.slice (some ⟨bs, os + j * b, none⟩) q (cs - j * b)) W) := fun W => by
        have c := cut25 bs os l cs (j * b) _ hyx (Nat.le_trans (Nat.min_le_right _ _) HH.out.2.2.2.2.2) W
        rw [hqy] at c
        exact c
      have HW3 : Hid (wrap64 (((j : Nat) : Int) + 1) = ((j : Nat) : Int) + 1) := wrap_succ8 (j := j) (by unfold big; omega)
      have HP1 : Hid ((((j : Nat) : Int) + 1) * ((b : Nat) : Int) = ((j * b + b : Nat) : Int)) := by show _ = _; rw [← hx9]; simp
      have HP2 : Hid (((j : Nat) : Int) * ((b : Nat) : Int) = ((j * b : Nat) : Int)) := by show _ = _; simp
      have HW1 : Hid (wrap64 ((j * b + b : Nat) : Int) = ((j * b + b : Nat) : Int)) := by show _ = _; have := HH.out.2.1; clear hx9; unfold wrap64; omega
      have HW2 : Hid (wrap64 ((j * b : Nat) : Int) = ((j * b : Nat) : Int)) := by show _ = _; clear hx9; unfold wrap64; omega
      by_cases hcase : l < j * b + b
      · have D3 : decide (((l : Nat) : Int) < ((j * b + b : Nat) : Int)) = true := decide_eq_true (by omega)
        have D3N : decide (l < j * b + b) = true := decide_eq_true hcase
        have em : Nat.min (j * b + b) l = l := Nat.min_eq_right (by omega)
        rw [em] at HC1 hyx hqy
        clear hcase em hqy hql hjb hem
        obtain ⟨w8, g8, C8, hrun1, G8⟩ := G.app rbu (by omega)
        have d7 := c7.out w8 g1 C1 X0 j q _ _ (G1.below G8.bel) (rbu8 w8 G8.bel) hj2
        have HX1 : Hid (∀ X3 gq, Below w8.heap.size w8 X3 → Rw X3 gq 4 (by25 (bsm25 HS j q (fun c => Sh (j * b + c)))) → ∃ X4 g9 C9, (Builtin.append_ #[27, 27] 27 #[.slice (some ⟨g8, 0, none⟩) (n + q) C8, .slice (some ⟨gq, 0, none⟩) 4 4]).run Tryd.prog X3 = .ok (.slice (some ⟨g9, 0, none⟩) (n + q + 4) C9) X4 ∧ Gw25 X1 X4 g9 C9 (n + q + 4) (fl25 HD HS l b Sh)) := fun X3 gq hb hr => by
          obtain ⟨X4, g9, C9, h1, h2⟩ := (G8.below hb).app hr.rb0 (by omega)
          exact ⟨X4, g9, C9, h1, h2.congr (fun c hc => ap_step25 HH.out.1 hjl hn9.out hq9.out (fun _ _ => rfl) hc)⟩
        obtain ⟨q0, q1, q2, q3, q4, q5, q6, q7⟩ := hcellsT25 (HK.out wr G.bel).1
        have HZ : Hid (en25 l b (j + 1) = n + q + 4 ∧ j < nb) := ⟨henx, hjn⟩
        have W1 := HW1.out
        have W2 := HW2.out
        have W3 := HW3.out
        have C1x := HC1.out
        have P1 := HP1.out
        have P2 := HP2.out
        clear G rbu rbu8 hnq hj hjn hjl hj2 henx HW1 HW2 HW3 HC1 HP1 HP2 hyx hx9
        generalize bsm25 HS j q (fun c => Sh (j * b + c)) = bs9 at d7 HX1
        generalize j * b + b = y9 at *
        generalize j * b = x9 at *
        go_wp2_with (first
          | (go_at_call 28; (with_reducible refine (c6.out _).mono ?_); rintro e w9 ⟨rfl, hw⟩; have hw := hw.symm; subst hw)
          | (at_builtin; refine Lib.wpList_append_run _ rfl _ _ _ _ rfl _ _ rfl rfl _ _ hrun1 ?_; clear hrun1 q0 q1 q2 q3 q4 q5 q6 q7)
          | (go_at_call 31; (with_reducible refine d7.mono ?_); rintro e X3 ⟨gq, rfl, hb, -, hr⟩; clear d7; obtain ⟨X4, g9, C9, hrun2, G9⟩ := HX1.out X3 gq hb hr; clear HX1 hb hr)
          | (at_builtin; refine Lib.wpList_append_run _ rfl _ _ _ _ rfl _ _ rfl rfl _ _ hrun2 ?_; clear hrun2))
        go_roundw
        case rel => exact ⟨j + 1, g9, C9, HZ.out.2, by first | rfl | (rw [W3]; rfl), by rw [HZ.out.1], by rw [HZ.out.1]; exact G9⟩
        case measure => first | exact meas_lt8 HZ.out.2 | (rw [W3]; exact meas_lt8 HZ.out.2)
      · have D3 : decide (((l : Nat) : Int) < ((j * b + b : Nat) : Int)) = false := decide_eq_false (by omega)
        have D3N : decide (l < j * b + b) = false := decide_eq_false hcase
        have em : Nat.min (j * b + b) l = j * b + b := Nat.min_eq_left (by omega)
        rw [em] at HC1 hyx hqy
        clear hcase em hqy hql hjb hem
        obtain ⟨w8, g8, C8, hrun1, G8⟩ := G.app rbu (by omega)
        have d7 := c7.out w8 g1 C1 X0 j q _ _ (G1.below G8.bel) (rbu8 w8 G8.bel) hj2
        have HX1 : Hid (∀ X3 gq, Below w8.heap.size w8 X3 → Rw X3 gq 4 (by25 (bsm25 HS j q (fun c => Sh (j * b + c)))) → ∃ X4 g9 C9, (Builtin.append_ #[27, 27] 27 #[.slice (some ⟨g8, 0, none⟩) (n + q) C8, .slice (some ⟨gq, 0, none⟩) 4 4]).run Tryd.prog X3 = .ok (.slice (some ⟨g9, 0, none⟩) (n + q + 4) C9) X4 ∧ Gw25 X1 X4 g9 C9 (n + q + 4) (fl25 HD HS l b Sh)) := fun X3 gq hb hr => by
          obtain ⟨X4, g9, C9, h1, h2⟩ := (G8.below hb).app hr.rb0 (by omega)
          exact ⟨X4, g9, C9, h1, h2.congr (fun c hc => ap_step25 HH.out.1 hjl hn9.out hq9.out (fun _ _ => rfl) hc)⟩
        obtain ⟨q0, q1, q2, q3, q4, q5, q6, q7⟩ := hcellsT25 (HK.out wr G.bel).1
        have HZ : Hid (en25 l b (j + 1) = n + q + 4 ∧ j < nb) := ⟨henx, hjn⟩
        have W1 := HW1.out
        have W2 := HW2.out
        have W3 := HW3.out
        have C1x := HC1.out
        have P1 := HP1.out
        have P2 := HP2.out
        clear G rbu rbu8 hnq hj hjn hjl hj2 henx HW1 HW2 HW3 HC1 HP1 HP2 hyx hx9
        generalize bsm25 HS j q (fun c => Sh (j * b + c)) = bs9 at d7 HX1
        generalize j * b + b = y9 at *
        generalize j * b = x9 at *
        go_wp2_with (first
          | (go_at_call 28; (with_reducible refine (c6.out _).mono ?_); rintro e w9 ⟨rfl, hw⟩; have hw := hw.symm; subst hw)
          | (at_builtin; refine Lib.wpList_append_run _ rfl _ _ _ _ rfl _ _ rfl rfl _ _ hrun1 ?_; clear hrun1 q0 q1 q2 q3 q4 q5 q6 q7)
          | (go_at_call 31; (with_reducible refine d7.mono ?_); rintro e X3 ⟨gq, rfl, hb, -, hr⟩; clear d7; obtain ⟨X4, g9, C9, hrun2, G9⟩ := HX1.out X3 gq hb hr; clear HX1 hb hr)
          | (at_builtin; refine Lib.wpList_append_run _ rfl _ _ _ _ rfl _ _ rfl rfl _ _ hrun2 ?_; clear hrun2))
        go_roundw
        case rel => exact ⟨j + 1, g9, C9, HZ.out.2, by first | rfl | (rw [W3]; rfl), by rw [HZ.out.1], by rw [HZ.out.1]; exact G9⟩
        case measure => first | exact meas_lt8 HZ.out.2 | (rw [W3]; exact meas_lt8 HZ.out.2)
    · have hin2 : j = nb := by omega
      have ib : ¬ ((j : Nat) : Int) < (nb : Int) := by omega
      have D9 : decide (((j : Nat) : Int) < (nb : Int)) = false := decide_eq_false ib
      obtain ⟨q0, q1, q2, q3, q4, q5, q6, q7⟩ := hcellsT25 (HK.out wr G.bel).1
      have el : en25 l b j = 48 + l + 4 * nb := by rw [hin2, ← hnb9.out]; exact en_last25 HH.out.1
      rw [el] at G ⊢
      have HF : Hid (Gw25 w wr g C (48 + l + 4 * nb) (fl25 HD HS l b Sh)) := G.base (HK.out X1 (Below.refl _ _)).2
      clear G hin2 hjn hj el
      go_wp2_with (go_at_call 28; (with_reducible refine (c6.out _).mono ?_); rintro e w9 ⟨rfl, hw⟩; have hw := hw.symm; subst hw)
      go_ret2
      exact ⟨g, C, rfl, HF.out⟩
end Go.Proofs.YtehbiccpbopkfaaDoor
namespace Go.Proofs.YtehbiccpbopkfaaDoor
open Go.RowKit Gf2
set_option linter.unusedVariables false

-- layer 25: the document's Pack: its refusals
set_option maxHeartbeats 4000000 in
set_option maxRecDepth 100000 in
theorem rpack25_head (f k m i s l b : Int) (st : Nat) (v : Value) (w : World) (h : ¬ gd25 f k m i s l b) :
    Calls Tryd.prog 15 #[hd25 f k m i s l b st, v] w fun e w' => e = .returned (.tuple #[.slice none 0 0, .int .i64 251]) ∧ Below w.heap.size w w' := by
  have b0 : Below w.heap.size w (w.alloc (.cells (hc25 f k m i s l b st) 26)) := (Below.refl _ _).alloc (Nat.le_refl _) _
  have H0 : Hid (∀ X, Below (w.alloc (.cells (hc25 f k m i s l b st) 26)).heap.size (w.alloc (.cells (hc25 f k m i s l b st) 26)) X → Below w.heap.size w X) := fun X hb => b0.trans (hb.mono (by simp))
  have c1 : Hid (∀ W, Calls Tryd.prog 14 #[hd25 f k m i s l b st] W fun e w' => e = .returned (.int .i64 251) ∧ Below W.heap.size W w') := fun W => rcheck25_no f k m i s l b st W h
  unfold hd25 at c1 ⊢
  unfold hc25 at H0
  clear h b0
  go_enter Tryd.func15, Tryd.ntmps15
  go_wp2_with (go_at_call 14; (with_reducible refine (c1.out _).mono ?_); rintro e w9 ⟨rfl, hw9⟩; clear c1)
  go_ret2
  exact ⟨rfl, H0.out _ hw9⟩
set_option maxHeartbeats 4000000 in
set_option maxRecDepth 100000 in
theorem rpack25_lens (f k m i s l b st : Nat) (a : Option Addr) (n cap : Nat) (w : World) (h : Gh25 f k m i s l b) (hn : n ≠ l) :
    Calls Tryd.prog 15 #[hd25 f k m i s l b st, .slice a n cap] w fun e w' => e = .returned (.tuple #[.slice none 0 0, .int .i64 6]) ∧ Below w.heap.size w w' := by
  have b0 : Below w.heap.size w (w.alloc (.cells (hc25 f k m i s l b st) 26)) := (Below.refl _ _).alloc (Nat.le_refl _) _
  have k0 : (w.alloc (.cells (hc25 f k m i s l b st) 26)).heap[w.heap.size]? = some (.cells (hc25 f k m i s l b st) 26 (0, 0)) := heap_alloc_new _ _
  have H0 : Hid (∀ X, Below (w.alloc (.cells (hc25 f k m i s l b st) 26)).heap.size (w.alloc (.cells (hc25 f k m i s l b st) 26)) X → X.heap[w.heap.size]? = some (.cells (hc25 f k m i s l b st) 26 (0, 0)) ∧ Below w.heap.size w X) := fun X hb => ⟨(hb.block _ (by simp)).trans k0, b0.trans (hb.mono (by simp))⟩
  have c1 : Hid (∀ W, Calls Tryd.prog 14 #[hd25 f k m i s l b st] W fun e w' => e = .returned (.int .i64 0) ∧ Below W.heap.size W w') := fun W => rcheck25_yes f k m i s l b st W h
  unfold hd25 at c1 ⊢
  unfold hc25 at H0
  have D1 : (((n : Nat) : Int) != ((l : Nat) : Int)) = true := by simp; omega
  have D2 : (((n : Nat) : Int) == ((l : Nat) : Int)) = false := by simp; omega
  have D3 : (n == l) = false := by simpa using hn
  have D4 : (n != l) = true := by simpa using hn
  clear h hn b0 k0
  go_enter Tryd.func15, Tryd.ntmps15
  go_wp2_with (go_at_call 14; (with_reducible refine (c1.out _).mono ?_); rintro e w9 ⟨rfl, hw9⟩; clear c1; obtain ⟨q0, q1, q2, q3, q4, q5, q6, q7⟩ := hcellsT25 (H0.out _ hw9).1)
  go_ret2
  exact ⟨rfl, (H0.out _ hw9).2⟩
end Go.Proofs.YtehbiccpbopkfaaDoor
