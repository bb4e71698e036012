import Derived.Test.YtoofoamondepoaaDoorLmm
namespace Go.Proofs.YtoofoamondepoaaDoor
open Go.RowKit Gf2
set_option linter.unusedVariables false

/-- what stands behind the first calls. -/
structure MA (w X : World) (g C n : Nat) (G F : Nat → Nat) (A B wt : Value) (m : Nat) (T : Nat → Nat) : Prop where
  whl : Whl w X g C n G
  eq : ∀ i, i < n → G i = F i
  a : Lst w X g A m T
  b : Lst w X g B m T
  wt : Lst w X g wt m T
  ab : Dif A B
theorem MA.below {w X Y : World} {g C n : Nat} {G F : Nat → Nat} {A B wt : Value} {m : Nat} {T : Nat → Nat} (h : MA w X g C n G F A B wt m T) (hb : Below X.heap.size X Y) : MA w Y g C n G F A B wt m T :=
  have hB := bthen13 h.whl.bel hb
  ⟨h.whl.below hb, h.eq, h.a.kp (kp_below hb _) hB, h.b.kp (kp_below hb _) hB, h.wt.kp (kp_below hb _) hB, h.ab⟩
theorem below_same {X Y : World} (h : ∃ m, Y = X.drewN m) : Below X.heap.size X Y := by obtain ⟨m, rfl⟩ := h; exact below_drewN (Below.refl _ _) m
/-- the eight words. -/
def e8 (i : Nat) : Nat := 91 + i
theorem mem_app (w w1 : World) (g n : Nat) (F : Nat → Nat) (hw : Below w.heap.size w w1) (hg : w.heap.size ≤ g) (hr : R6 w1 g n F) (hn : n ≤ 300) :
    ∃ w2 gW C G, (Builtin.append_ #[22, 22] 22 #[.slice (some ⟨g, 0, none⟩) n n, .slice (some ⟨w1.heap.size, 0, none⟩) 8 8]).run Tryd.prog (w1.alloc (.cells #[.int .u16 91, .int .u16 92, .int .u16 93, .int .u16 94, .int .u16 95, .int .u16 96, .int .u16 97, .int .u16 98] 26)) = .ok (.slice (some ⟨gW, 0, none⟩) (n + 8) C) w2 ∧ Whl w w2 gW C n G ∧ ∀ i, i < n → G i = F i := by
  have hb := below_alloc w1 (.cells #[.int .u16 91, .int .u16 92, .int .u16 93, .int .u16 94, .int .u16 95, .int .u16 96, .int .u16 97, .int .u16 98] 26)
  obtain ⟨w2, g', C', F', hrun, hC, hR, hF1, -, hcase⟩ := app16 (w1.alloc (.cells #[.int .u16 91, .int .u16 92, .int .u16 93, .int .u16 94, .int .u16 95, .int .u16 96, .int .u16 97, .int .u16 98] 26)) (g := g) (C := n) (L := n) (hr.below hb) (Nat.le_refl _) (x := some ⟨w1.heap.size, 0, none⟩) (n := 8) (cx := 8) (S := e8) (fun i hi => by unfold e8; omega) (fun _ => ⟨_, _, rfl, fun i hi => by
    rw [cell_of_row _ w1.heap.size (0 + i) _ _ _ (heap_alloc_new _ _)]
    match i, hi with
    | 0, _ => rfl
    | 1, _ => rfl
    | 2, _ => rfl
    | 3, _ => rfl
    | 4, _ => rfl
    | 5, _ => rfl
    | 6, _ => rfl
    | 7, _ => rfl⟩) (by omega)
  have hw1 := bthen13 hw hb
  refine ⟨w2, g', C', F', hrun, ⟨?_, ?_, hR, hC⟩, hF1⟩
  · rcases hcase with ⟨rfl, ho⟩ | ⟨rfl, -, hbb⟩
    · exact hw1.trans (ho.below hg)
    · exact bthen13 hw1 hbb
  · rcases hcase with ⟨rfl, ho⟩ | ⟨rfl, -, hbb⟩
    · exact hg
    · exact hw1.size
theorem mem_A (kind : Int) (v : Value) (n m : Nat) (F T : Nat → Nat) (er : Int) (w : World) (hq : Q6 w v n F) (hn : n ≤ 300) (hC : Cant w) (hT : Tzt w)
    (hask : ∀ (W : World) (v : Value), Q6 W v n F → Tzt W → Calls Tryd.prog 21 #[.int .i64 kind, v] W fun e w' => ∃ A, e = .returned (.tuple #[A, .int .i64 er]) ∧ Gv W w' A m T) (hm : m ≤ 300) :
    Calls Tryd.prog 13 #[] w fun e w0 => e = .returned (.bool true) ∧
    Calls Tryd.prog 20 #[v] w0 fun e w1 => e = .returned (.slice (some ⟨w0.heap.size, 0, none⟩) n n) ∧
    ∃ w2 gW C, (Builtin.append_ #[22, 22] 22 #[.slice (some ⟨w0.heap.size, 0, none⟩) n n, .slice (some ⟨w1.heap.size, 0, none⟩) 8 8]).run Tryd.prog (w1.alloc (.cells #[.int .u16 91, .int .u16 92, .int .u16 93, .int .u16 94, .int .u16 95, .int .u16 96, .int .u16 97, .int .u16 98] 26)) = .ok (.slice (some ⟨gW, 0, none⟩) (n + 8) C) w2 ∧
    (∀ W : World, (Instr.slice 22 (.slice (some ⟨gW, 0, none⟩) (n + 8) C) none (some (.int .i64 (n : Int))) none).run Tryd.prog W = .ok (.slice (some ⟨gW, 0, none⟩) n C) W) ∧
    Calls Tryd.prog 20 #[.slice (some ⟨gW, 0, none⟩) (n + 8) C] w2 fun e w3 => ∃ gB, e = .returned (.slice (some ⟨gB, 0, none⟩) (n + 8) (n + 8)) ∧
    Calls Tryd.prog 21 #[.int .i64 kind, .slice (some ⟨gW, 0, none⟩) n C] w3 fun e w4 => ∃ a1 c1, e = .returned (.tuple #[.slice a1 m c1, .int .i64 er]) ∧
    Calls Tryd.prog 20 #[.slice a1 m c1] w4 fun e w5 => ∃ gC, e = .returned (.slice (some ⟨gC, 0, none⟩) m m) ∧
    Calls Tryd.prog 21 #[.int .i64 kind, .slice (some ⟨gW, 0, none⟩) n C] w5 fun e w6 => ∃ a2 c2, e = .returned (.tuple #[.slice a2 m c2, .int .i64 er]) ∧
    Calls Tryd.prog 22 #[.slice a1 m c1, .slice (some ⟨gC, 0, none⟩) m m] w6 fun e w7 => e = .returned (.bool true) ∧
    Calls Tryd.prog 22 #[.slice a2 m c2, .slice (some ⟨gC, 0, none⟩) m m] w7 fun e w8 => e = .returned (.bool true) ∧
    Calls Tryd.prog 22 #[.slice (some ⟨gW, 0, none⟩) (n + 8) C, .slice (some ⟨gB, 0, none⟩) (n + 8) (n + 8)] w8 fun e w9 => e = .returned (.bool true) ∧ Hid (∃ G, MA w w9 gW C n G F (.slice a1 m c1) (.slice a2 m c2) (.slice (some ⟨gC, 0, none⟩) m m) m T) := by
  refine (awake13 w hC hT).mono fun e w0 ⟨he, b0⟩ => ⟨he, ?_⟩
  refine (twin13_any v n F w0 (hq.below b0) (by omega)).mono fun e w1 ⟨he, h1, b1⟩ => ⟨he, ?_⟩
  obtain ⟨w2, gW, C, G, hrun, hW, hG⟩ := mem_app w w1 w0.heap.size n F (bthen13 b0 b1) b0.size h1 hn
  refine ⟨w2, gW, C, hrun, fun W => head6 gW 0 (n + 8) C n (by have := hW.le; omega) W, ?_⟩
  refine (twin13_any _ (n + 8) G w2 hW.q8 (by omega)).mono fun e w3 ⟨he, h3, b3⟩ => ⟨_, he, ?_⟩
  have hW3 := hW.below b3
  have hB := gv_row b3 (Nat.le_refl _) h3
  refine (hask w3 _ (hW3.q.congr hG) (hT.below hW3.bel)).mono fun e w4 ⟨A, he, h4⟩ => ?_
  obtain ⟨a1, c1, rfl⟩ := h4.form
  refine ⟨a1, c1, he, ?_⟩
  have hW4 := hW3.below h4.1
  obtain ⟨lA, loA, -, bel4⟩ := lst_new hW3.bel hW3.lt h4
  refine (twin13_any _ m T w4 lA.q6 (by omega)).mono fun e w5 ⟨he, h5, b5⟩ => ⟨_, he, ?_⟩
  have hW5 := hW4.below b5
  have hC5 := gv_row b5 (Nat.le_refl _) h5
  obtain ⟨lC, loC, -, -⟩ := lst_new hW4.bel hW4.lt hC5
  have lA5 := lA.kp (kp_below b5 gW) hW5.bel
  refine (hask w5 _ (hW5.q.congr hG) (hT.below hW5.bel)).mono fun e w6 ⟨B, he, h6⟩ => ?_
  obtain ⟨a2, c2, rfl⟩ := h6.form
  refine ⟨a2, c2, he, ?_⟩
  have hW6 := hW5.below h6.1
  obtain ⟨lB, loB, -, -⟩ := lst_new hW5.bel hW5.lt h6
  have m6 : MA w w6 gW C n G F (.slice a1 m c1) (.slice a2 m c2) (.slice (some ⟨w4.heap.size, 0, none⟩) m m) m T :=
    ⟨hW6, hG, lA5.kp (kp_below h6.1 gW) hW6.bel, lB, lC.kp (kp_below h6.1 gW) hW6.bel, dif_ages lA5 loB⟩
  refine (same13_true _ _ m T w6 m6.a.q6 m6.wt.q6).mono fun e w7 ⟨he, hw7⟩ => ⟨he, ?_⟩
  have m7 := m6.below (below_same hw7)
  refine (same13_true _ _ m T w7 m7.b.q6 m7.wt.q6).mono fun e w8 ⟨he, hw8⟩ => ⟨he, ?_⟩
  have m8 := m7.below (below_same hw8)
  have b38 : Below w3.heap.size w3 w8 := bthen13 (bthen13 (bthen13 (bthen13 h4.1 b5) h6.1) (below_same hw7)) (below_same hw8)
  refine (same13_true _ _ (n + 8) G w8 m8.whl.q8 (h3.below b38).all).mono fun e w9 ⟨he, hw9⟩ => ⟨he, G, m8.below (below_same hw9)⟩
end Go.Proofs.YtoofoamondepoaaDoor
