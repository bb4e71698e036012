import Derived.Test.YtngmhlpdkbekgaaSws
import Derived.Test.YtngmhlpdkbekgaaSsl
import Derived.Test.YtngmhlpdkbekgaaSap
namespace Go.Proofs.Ytngmhlpdkbekgaa
open Go.RowKit Gf2
set_option linter.unusedVariables false



theorem rq_none (w : World) (x : Option Addr) (cx : Nat) (hc : cx ≤ big) (F : Nat → Nat) : Rq w (.slice x 0 cx) 0 F :=
  ⟨Nat.zero_le _, fun i hi => absurd hi (Nat.not_lt_zero _), _, _, rfl, Nat.zero_le _, hc, fun h => absurd h (Nat.lt_irrefl _)⟩
theorem rb_none (w : World) (x : Option Addr) (cx : Nat) (hc : cx ≤ big) (F : Nat → Nat) : Rb w (.slice x 0 cx) 0 F :=
  ⟨Nat.zero_le _, fun i hi => absurd hi (Nat.not_lt_zero _), _, _, rfl, Nat.zero_le _, hc, fun h => absurd h (Nat.lt_irrefl _)⟩

set_option maxHeartbeats 4000000 in
set_option maxRecDepth 100000 in
theorem blocks7_planes_ok (c : Nat) (xD : Option Addr) (nD cD : Nat) (xS : Option Addr) (cS wv : Nat) (xW : Option Addr) (nW cW : Nat) (self : Bool) (S : Nat → Nat) (w : World) (hS : Rb w (.slice xS 64 cS) 64 S) :
    Calls Try.prog 29 #[.agg (op7 5 c xD nD cD xS 64 cS wv xW nW cW self)] w fun e w' => e = .returned (.bool true) ∧ Below w.heap.size w w' := by
  obtain ⟨A, hA⟩ : ∃ A, A = (op7 5 c xD nD cD xS 64 cS wv xW nW cW self) := ⟨_, rfl⟩
  rw [← hA]
  have b0 : Below w.heap.size w (w.alloc (.cells A 43)) := (Below.refl _ _).alloc (Nat.le_refl _) _
  have B0 : Bx (w.alloc (.cells A 43)) w.heap.size (op7 5 c xD nD cD xS 64 cS wv xW nW cW self) := by rw [hA]; exact heap_alloc_new _ _
  have cR1 := roomy7_any xS 64 cS S (w.alloc (.cells A 43)) (hS.below b0) (by decide)
  obtain ⟨z0, z1, z2, z3, -, -, z6⟩ := B0.all
  have HI : Hid (Rb w (.slice xS 64 cS) 64 S ∧ True) := ⟨hS, trivial⟩
  have HB : Hid (Below w.heap.size w (w.alloc (.cells A 43)) ∧ Bx (w.alloc (.cells A 43)) w.heap.size (op7 5 c xD nD cD xS 64 cS wv xW nW cW self)) := ⟨b0, B0⟩
  clear hS b0 B0 hA
  go_enter Try.func29, Try.ntmps29
  go_wp2_with (first
    | (go_at_call 12; (with_reducible refine cR1.mono ?_); rintro e w1 ⟨gS, CS, rfl, mS⟩; have B1 := HB.out.2.below mS.2.2.1; obtain ⟨y0, y1, y2, y3, -, -, y6⟩ := B1.all; have b1 := HB.out.1.trans (mS.2.2.1.mono HB.out.1.size); have cP := splanes_ok (.slice (some ⟨gS, 3, none⟩) 64 (CS - 3)) S w1 (mS.rb (Below.refl _ _)); have H1 : Hid (Rmy _ w1 gS CS 64 S ∧ Bx w1 w.heap.size (op7 5 c xD nD cD xS 64 cS wv xW nW cW self) ∧ Below w.heap.size w w1) := ⟨mS, B1, b1⟩; clear cR1 B1 b1 mS z0 z1 z2 z3 z6)
    | (go_at_call 42; (with_reducible refine cP.mono ?_); rintro e w2 ⟨bP, FP, rfl, lP, rP, eP, hb2⟩; have B2 := H1.out.2.1.below hb2; obtain ⟨z0, z1, z2, z3, -, -, z6⟩ := B2.all; have b2 := H1.out.2.2.trans (hb2.mono H1.out.2.2.size); have cQ := refPlanes7_ok xS cS S w2 (HI.out.1.below b2); have H2 : Hid (Rv w2 bP pC FP ∧ (∀ i, i < 8 → FP i = pln S i 64) ∧ Below w1.heap.size w1 w2 ∧ Bx w2 w.heap.size (op7 5 c xD nD cD xS 64 cS wv xW nW cW self) ∧ Below w.heap.size w w2) := ⟨rP, eP, hb2, B2, b2⟩; clear cP B2 b2 lP rP eP hb2 y0 y1 y2 y3 y6)
    | (go_at_call 43; (with_reducible refine cQ.mono ?_); rintro e w3 ⟨rfl, rQ, hb3⟩; have B3 := H2.out.2.2.2.1.below hb3; obtain ⟨y0, y1, y2, y3, -, -, y6⟩ := B3.all; have b3 := H2.out.2.2.2.2.trans (hb3.mono H2.out.2.2.2.2.size); have cE := samew7_true (.slice (some ⟨bP, 0, none⟩) 8 pC) (.slice (some ⟨w2.heap.size, 0, none⟩) 8 8) 8 (fun i => pln S i 64) w3 ((H2.out.1.below hb3).rq (by decide) (by decide) (by decide) H2.out.2.1) (rQ.rq (by decide) (by decide) (by decide) (fun _ _ => rfl)); have H3 : Hid (Below w1.heap.size w1 w3 ∧ Bx w3 w.heap.size (op7 5 c xD nD cD xS 64 cS wv xW nW cW self) ∧ Below w.heap.size w w3) := ⟨H2.out.2.2.1.trans (hb3.mono H2.out.2.2.1.size), B3, b3⟩; clear cQ B3 b3 rQ hb3 z0 z1 z2 z3 z6)
    | (go_at_call 44; (with_reducible refine cE.mono ?_); rintro e w4 ⟨rfl, m4, hw4⟩; have B4 : Bx w4 w.heap.size (op7 5 c xD nD cD xS 64 cS wv xW nW cW self) := (by rw [hw4]; exact H3.out.2.1.drewN m4); obtain ⟨z0, z1, z2, z3, -, -, z6⟩ := B4.all; have b4 : Below w1.heap.size w1 w4 := (by rw [hw4]; exact below_drewN H3.out.1 m4); have c4 : Below w.heap.size w w4 := (by rw [hw4]; exact below_drewN H3.out.2.2 m4); have cF := same7_true (.slice (some ⟨gS, 3, none⟩) 64 (CS - 3)) (.slice xS 64 cS) 64 S w4 (H1.out.1.rb b4) (HI.out.1.below c4); have H4 : Hid (Below w1.heap.size w1 w4 ∧ Below w.heap.size w w4) := ⟨b4, c4⟩; clear cE B4 hw4 b4 c4 y0 y1 y2 y3 y6)
    | (go_at_call 15; (with_reducible refine cF.mono ?_); rintro e w5 ⟨rfl, m5, hw5⟩; have b5 : Below w1.heap.size w1 w5 := (by rw [hw5]; exact below_drewN H4.out.1 m5); have cG : Calls Try.prog 16 #[.slice (some ⟨gS, 0, none⟩) 79 CS, .int .i64 64] w5 fun e w' => e = .returned (.bool true) ∧ w' = w5 := H1.out.1.edge b5 (by decide); have H5 : Hid (Below w.heap.size w w5) := (by rw [hw5]; exact below_drewN H4.out.2 m5); clear cF hw5 b5)
    | (go_at_call 16; (with_reducible refine cG.mono ?_); rintro e w6 ⟨rfl, hw6⟩; have hw6 := hw6.symm; subst hw6))
  go_ret
  exact ⟨rfl, H5.out⟩
set_option maxHeartbeats 4000000 in
set_option maxRecDepth 100000 in
theorem blocks7_planes_lens (c : Nat) (xD : Option Addr) (nD cD : Nat) (xS : Option Addr) (nS : Nat) (cS wv : Nat) (xW : Option Addr) (nW cW : Nat) (self : Bool) (S : Nat → Nat) (w : World) (hS : Rb w (.slice xS nS cS) nS S) (lS : nS ≤ 140737488351232) (hne : nS ≠ 64) :
    Calls Try.prog 29 #[.agg (op7 5 c xD nD cD xS nS cS wv xW nW cW self)] w fun e w' => e = .returned (.bool true) ∧ Below w.heap.size w w' := by
  obtain ⟨A, hA⟩ : ∃ A, A = (op7 5 c xD nD cD xS nS cS wv xW nW cW self) := ⟨_, rfl⟩
  rw [← hA]
  have b0 : Below w.heap.size w (w.alloc (.cells A 43)) := (Below.refl _ _).alloc (Nat.le_refl _) _
  have B0 : Bx (w.alloc (.cells A 43)) w.heap.size (op7 5 c xD nD cD xS nS cS wv xW nW cW self) := by rw [hA]; exact heap_alloc_new _ _
  have cR1 := roomy7_any xS nS cS S (w.alloc (.cells A 43)) (hS.below b0) lS
  obtain ⟨z0, z1, z2, z3, -, -, z6⟩ := B0.all
  have HI : Hid (Rb w (.slice xS nS cS) nS S ∧ nS ≤ 140737488351232 ∧ nS ≠ 64) := ⟨hS, lS, hne⟩
  have HB : Hid (Below w.heap.size w (w.alloc (.cells A 43)) ∧ Bx (w.alloc (.cells A 43)) w.heap.size (op7 5 c xD nD cD xS nS cS wv xW nW cW self)) := ⟨b0, B0⟩
  clear hS b0 B0 hA lS hne
  go_enter Try.func29, Try.ntmps29
  go_wp2_with (first
    | (go_at_call 12; (with_reducible refine cR1.mono ?_); rintro e w1 ⟨gS, CS, rfl, mS⟩; have B1 := HB.out.2.below mS.2.2.1; obtain ⟨y0, y1, y2, y3, -, -, y6⟩ := B1.all; have b1 := HB.out.1.trans (mS.2.2.1.mono HB.out.1.size); have cP := splanes_lens (some ⟨gS, 3, none⟩) nS (CS - 3) w1 HI.out.2.2; have H1 : Hid (Rmy _ w1 gS CS nS S ∧ Bx w1 w.heap.size (op7 5 c xD nD cD xS nS cS wv xW nW cW self) ∧ Below w.heap.size w w1) := ⟨mS, B1, b1⟩; clear cR1 B1 b1 mS z0 z1 z2 z3 z6)
    | (go_at_call 42; (with_reducible refine cP.mono ?_); rintro e w2 ⟨xP, cxP, rfl, lcx, hb2⟩; have B2 := H1.out.2.1.below hb2; obtain ⟨z0, z1, z2, z3, -, -, z6⟩ := B2.all; have b2 := H1.out.2.2.trans (hb2.mono H1.out.2.2.size); have cQ := refPlanes7_lens xS nS cS w2 HI.out.2.2; have H2 : Hid (cxP ≤ big ∧ Below w1.heap.size w1 w2 ∧ Bx w2 w.heap.size (op7 5 c xD nD cD xS nS cS wv xW nW cW self) ∧ Below w.heap.size w w2) := ⟨lcx, hb2, B2, b2⟩; clear cP B2 b2 lcx hb2 y0 y1 y2 y3 y6)
    | (go_at_call 43; (with_reducible refine cQ.mono ?_); rintro e w3 ⟨rfl, hw3⟩; have B3 : Bx w3 w.heap.size (op7 5 c xD nD cD xS nS cS wv xW nW cW self) := (by rw [hw3]; exact H2.out.2.2.1); obtain ⟨y0, y1, y2, y3, -, -, y6⟩ := B3.all; have cE := samew7_true (.slice xP 0 cxP) (.slice none 0 0) 0 (fun _ => 0) w3 (rq_none _ _ _ H2.out.1 _) (rq_none _ _ _ (by decide) _); have H3 : Hid (Below w1.heap.size w1 w3 ∧ Bx w3 w.heap.size (op7 5 c xD nD cD xS nS cS wv xW nW cW self) ∧ Below w.heap.size w w3) := (by rw [hw3]; exact ⟨H2.out.2.1, H2.out.2.2.1, H2.out.2.2.2⟩); clear cQ B3 hw3 z0 z1 z2 z3 z6)
    | (go_at_call 44; (with_reducible refine cE.mono ?_); rintro e w4 ⟨rfl, m4, hw4⟩; have B4 : Bx w4 w.heap.size (op7 5 c xD nD cD xS nS cS wv xW nW cW self) := (by rw [hw4]; exact H3.out.2.1.drewN m4); obtain ⟨z0, z1, z2, z3, -, -, z6⟩ := B4.all; have b4 : Below w1.heap.size w1 w4 := (by rw [hw4]; exact below_drewN H3.out.1 m4); have c4 : Below w.heap.size w w4 := (by rw [hw4]; exact below_drewN H3.out.2.2 m4); have cF := same7_true (.slice (some ⟨gS, 3, none⟩) nS (CS - 3)) (.slice xS nS cS) nS S w4 (H1.out.1.rb b4) (HI.out.1.below c4); have H4 : Hid (Below w1.heap.size w1 w4 ∧ Below w.heap.size w w4) := ⟨b4, c4⟩; clear cE B4 hw4 b4 c4 y0 y1 y2 y3 y6)
    | (go_at_call 15; (with_reducible refine cF.mono ?_); rintro e w5 ⟨rfl, m5, hw5⟩; have b5 : Below w1.heap.size w1 w5 := (by rw [hw5]; exact below_drewN H4.out.1 m5); have cG := H1.out.1.edge b5 HI.out.2.1; have H5 : Hid (Below w.heap.size w w5) := (by rw [hw5]; exact below_drewN H4.out.2 m5); clear cF hw5 b5)
    | (go_at_call 16; (with_reducible refine cG.mono ?_); rintro e w6 ⟨rfl, hw6⟩; have hw6 := hw6.symm; subst hw6))
  go_ret
  exact ⟨rfl, H5.out⟩
/-- words in a row of one's own, behind them eight more. -/
def Wds (w w' : World) (g C n : Nat) (S : Nat → Nat) : Prop := n + 8 ≤ C ∧ w.heap.size ≤ g ∧ Below w.heap.size w w' ∧ ∃ F, Rv w' g C F ∧ (∀ i, i < n → F i = S i) ∧ ∀ i, i < 8 → F (n + i) = 71 + i
theorem lit_rv (l : List Nat) (W : World) (hl : ∀ x ∈ l, x < 18446744073709551616) (hn : l.length ≤ 1000) : Rv (W.alloc (.cells (l.map (fun n : Nat => Value.int .u64 (n : Int))).toArray 40)) W.heap.size l.length (fun i => l.getD i 0) := by
  refine ⟨by unfold big; omega, fun i hi => ?_, _, heap_alloc_new _ _, by simp, fun i hi => ?_⟩
  · simp only [List.getD_eq_getElem?_getD, List.getElem?_eq_getElem hi, Option.getD_some]
    exact hl _ (List.getElem_mem _)
  · simp [List.getD_eq_getElem?_getD, hi]
theorem words_app (w : World) {x : Option Addr} {n cx : Nat} {S : Nat → Nat} (h : Rq w (.slice x n cx) n S) (hn : n * 8 ≤ 140737488351232) :
    ∃ w1 g1 C1 w2 g C, (Builtin.append_ #[41, 41] 41 #[.slice (some ⟨w.heap.size, 0, none⟩) 0 0, .slice x n cx]).run Try.prog (w.alloc (.cells #[] 40)) = .ok (.slice (some ⟨g1, 0, none⟩) n C1) w1 ∧
      (Builtin.append_ #[41, 41] 41 #[.slice (some ⟨g1, 0, none⟩) n C1, .slice (some ⟨w1.heap.size, 0, none⟩) 8 8]).run Try.prog (w1.alloc (.cells #[.int .u64 71, .int .u64 72, .int .u64 73, .int .u64 74, .int .u64 75, .int .u64 76, .int .u64 77, .int .u64 78] 40)) = .ok (.slice (some ⟨g, 0, none⟩) (n + 8) C) w2 ∧ Wds w w2 g C n S ∧ Below w.heap.size w w1 := by
  obtain ⟨b1, b2, a, c', b3, b5, b6, b4⟩ := h
  cases b3
  have r0 := lit_rv [] w (fun x h => by cases h) (by decide)
  have hb0 : Below w.heap.size w (w.alloc (.cells #[] 40)) := (Below.refl _ _).alloc (Nat.le_refl _) _
  have hs0 : (w.alloc (.cells #[] 40)).heap.size = w.heap.size + 1 := by simp
  obtain ⟨w1, g1, C1, F1, hrun1, hC1, hR1, -, hF2, hcase⟩ := app64 (w.alloc (.cells #[] 40)) (g := w.heap.size) (C := 0) (L := 0) r0 (Nat.le_refl _) (x := x) (n := n) (cx := cx) (S := S) b2 (fun h0 => by
    obtain ⟨b, o, e, hl, hcl⟩ := b4 h0
    exact ⟨b, o, e, fun i hi => (hb0.cell (p := ⟨b, o + i, none⟩) hl).trans (hcl i hi)⟩) (by omega)
  rw [Nat.zero_add] at hrun1 hC1
  have hg1 : w.heap.size ≤ g1 ∧ Below w.heap.size w w1 := by
    rcases hcase with ⟨rfl, ho⟩ | ⟨e, -, hb⟩
    · exact ⟨Nat.le_refl _, hb0.trans (ho.below (Nat.le_refl _))⟩
    · exact ⟨by omega, hb0.trans (hb.mono (by omega))⟩
  have hb1 : Below w1.heap.size w1 (w1.alloc (.cells #[.int .u64 71, .int .u64 72, .int .u64 73, .int .u64 74, .int .u64 75, .int .u64 76, .int .u64 77, .int .u64 78] 40)) := (Below.refl _ _).alloc (Nat.le_refl _) _
  have r1 := lit_rv [71, 72, 73, 74, 75, 76, 77, 78] w1 (by decide) (by decide)
  obtain ⟨w2, g, C, F, hrun2, hC, hR, hG1, hG2, hcase2⟩ := app64 (w1.alloc (.cells #[.int .u64 71, .int .u64 72, .int .u64 73, .int .u64 74, .int .u64 75, .int .u64 76, .int .u64 77, .int .u64 78] 40)) (g := g1) (C := C1) (L := n) (hR1.below hb1) hC1 (x := some ⟨w1.heap.size, 0, none⟩) (n := 8) (cx := 8) (S := fun i => [71, 72, 73, 74, 75, 76, 77, 78].getD i 0) (fun i hi => r1.2.1 i hi) (fun _ => ⟨_, _, rfl, fun i hi => by rw [Nat.zero_add]; exact r1.2.2.cell hi⟩) (by omega)
  have hg2 : w.heap.size ≤ g ∧ Below w.heap.size w w2 := by
    rcases hcase2 with ⟨rfl, ho⟩ | ⟨e, -, hb⟩
    · exact ⟨hg1.1, (hg1.2.trans (hb1.mono hg1.2.size)).trans (ho.below hg1.1)⟩
    · have := hg1.2.size
      have := hb1.size
      exact ⟨by omega, (hg1.2.trans (hb1.mono hg1.2.size)).trans (hb.mono (by omega))⟩
  refine ⟨w1, g1, C1, w2, g, C, hrun1, hrun2, ⟨hC, hg2.1, hg2.2, F, hR, fun i hi => ?_, fun i hi => ?_⟩, hg1.2⟩
  · rw [hG1 i hi, ← hF2 i hi, Nat.zero_add]
  · rw [hG2 i hi]
    have key : ∀ j, j < 8 → [71, 72, 73, 74, 75, 76, 77, 78].getD j 0 = 71 + j := by decide
    exact key i hi
end Go.Proofs.Ytngmhlpdkbekgaa
