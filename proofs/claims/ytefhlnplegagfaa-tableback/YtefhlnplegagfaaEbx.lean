import Derived.Test.YtefhlnplegagfaaEbn
import Derived.Test.YtefhlnplegagfaaEbq
import Derived.Test.YtefhlnplegagfaaEsg
namespace Go.Proofs.Ytefhlnplegagfaa
open Go.RowKit Gf2
set_option linter.unusedVariables false

theorem kw1 {t : Nat} (h : t + 3 ≤ 140737488355328) : IntKind.i64.wrap ((t : Int) + 3 - 1) = (t : Int) + 2 := by rw [IntKind.wrap_i64]; omega
theorem kw2 {t : Nat} (h : t + 3 ≤ 140737488355328) : IntKind.i64.wrap ((t : Int) + 3 - 2) = (t : Int) + 1 := by rw [IntKind.wrap_i64]; omega
theorem Ker.drew {w : World} {p : Addr} {lo hi : Nat} (h : Ker w p lo hi) : Ker w.drew p lo hi := h
theorem Rw.drew {w : World} {g N : Nat} {F : Nat → Nat} (h : Rw w g N F) : Rw w.drew g N F := ⟨h.1, h.2.1, h.2.2.drew⟩

set_option maxHeartbeats 4000000 in
set_option maxRecDepth 100000 in
theorem lapped5_any (p : Addr) (lo hi c n : Nat) (x : Option Addr) (cx : Nat) (X : Nat → Nat) (w : World) (hk : Ker w p lo hi) (hc : c < 256) (hx : Rb w (.slice x n cx) n X) (hn : n ≤ 140737488351232) :
    Calls Try.prog 20 #[.pointer (some p), .int .u8 (c : Int), .slice x n cx] w fun e w' => e = .returned (.bool true) ∧ Below w.heap.size w w' := by
  obtain ⟨b1, b2, a, c', b3, b5, b6, b4⟩ := hx
  cases b3
  have r0 := lit_rw [7] w (by decide) (by decide)
  have hb0 : Below w.heap.size w (w.alloc (.cells #[.int .u8 7] 5)) := (Below.refl _ _).alloc (Nat.le_refl _) _
  have s0 : (w.alloc (.cells #[.int .u8 7] 5)).heap.size = w.heap.size + 1 := by simp
  obtain ⟨w1, g1, C1, F1, hrun1, hC1, hR1, hF1, -, hcase1⟩ := app8 (w.alloc (.cells #[.int .u8 7] 5)) (g := w.heap.size) (C := 1) (L := 1) r0 (Nat.le_refl _) (x := x) (n := n) (cx := cx) (S := X) b2 (fun h0 => by
    obtain ⟨b, o, e, hl, hcl⟩ := b4 h0
    exact ⟨b, o, e, fun i hi => (hb0.cell (p := ⟨b, o + i, none⟩) hl).trans (hcl i hi)⟩) (by omega)
  have hb1 : Below w.heap.size w w1 := by
    rcases hcase1 with ⟨e, ho⟩ | ⟨e, -, hb⟩
    · exact hb0.trans (ho.below (Nat.le_refl _))
    · exact hb0.trans (hb.mono (by rw [s0]; omega))
  have hg1 : w.heap.size ≤ g1 := by
    rcases hcase1 with ⟨e, -⟩ | ⟨e, -, -⟩
    · omega
    · rw [s0] at e; omega
  have l1 := hR1.lt
  have hb1' : Below w1.heap.size w1 (w1.alloc (.cells #[.int .u8 1, .int .u8 2, .int .u8 9] 5)) := (Below.refl _ _).alloc (Nat.le_refl _) _
  have s1 : (w1.alloc (.cells #[.int .u8 1, .int .u8 2, .int .u8 9] 5)).heap.size = w1.heap.size + 1 := by simp
  have r3 := lit_rw [1, 2, 9] w1 (by decide) (by decide)
  obtain ⟨w2, g, C, F, hrun2, hC, hR, hF, hF3, hcase2⟩ := app8 (w1.alloc (.cells #[.int .u8 1, .int .u8 2, .int .u8 9] 5)) (g := g1) (C := C1) (L := 1 + n) (rw_below hR1 hb1') hC1 (x := some ⟨w1.heap.size, 0, none⟩) (n := 3) (cx := 3) (S := fun i => [1, 2, 9].getD i 0) (fun i hi => by
    match i, hi with
    | 0, _ => decide
    | 1, _ => decide
    | 2, _ => decide) (fun _ => ⟨_, _, rfl, fun i hi => by rw [Nat.zero_add]; exact r3.2.2.cell hi⟩) (by omega)
  have hb2 : Below w.heap.size w w2 := by
    rcases hcase2 with ⟨e, ho⟩ | ⟨e, -, hb⟩
    · exact (hb1.trans (hb1'.mono hb1.size)).trans (ho.below hg1)
    · exact (hb1.trans (hb1'.mono hb1.size)).trans (hb.mono (by rw [s1]; have := hb1.size; omega))
  have hg : w.heap.size ≤ g := by
    rcases hcase2 with ⟨e, -⟩ | ⟨e, -, -⟩
    · omega
    · rw [s1] at e; have := hb1.size; omega
  have e7 : F 0 = 7 := by rw [hF 0 (by omega), hF1 0 (by omega)]; rfl
  have e9 : F (1 + n + 2) = 9 := by rw [hF3 2 (by omega)]; rfl
  obtain ⟨t, ht⟩ : ∃ t, t = n + 1 := ⟨_, rfl⟩
  have eM : 1 + n + 3 = t + 3 := by omega
  rw [eM] at hrun2 hC
  rw [show 1 + n + 2 = t + 2 by omega] at e9
  have hk2 := ker_below hk hb2
  have hhi := hk.hi
  have tb : t + 3 ≤ 140737488355328 := by omega
  have HH : Hid (Below w.heap.size w w2 ∧ w.heap.size ≤ g ∧ Rw w2 g C F ∧ Ker w2 p lo hi ∧ hi ≤ w.heap.size ∧ F 0 = 7 ∧ F (t + 2) = 9 ∧ t + 3 ≤ C) := ⟨hb2, hg, hR, hk2, hhi, e7, e9, hC⟩
  clear b4 b2 r0 r3 hcase1 hcase2 hR1 hR hb0 hb1 hb1' hb2 hg hg1 hF hF1 hF3 e7 e9 s0 s1 l1 hk2 hk b5 b6 hn b1 eM ht
  have N1 : ((t : Int) + 2).toNat = t + 2 := by omega
  have N2 : ((t : Int) + 1).toNat = t + 1 := by omega
  have j1 : (2 : Int) ≤ (t : Int) + 2 := by omega
  have j2 : (t : Int) + 2 ≤ (C : Int) := by omega
  have j3 : (1 : Int) ≤ (t : Int) + 1 := by omega
  have j4 : (t : Int) + 1 ≤ (C : Int) := by omega
  have j5 : (t : Int) + 2 < (t : Int) + 3 := by omega
  have j6 : (0 : Int) < (t : Int) + 3 := by omega
  have j7 : (0 : Int) ≤ (t : Int) + 2 := by omega
  have n1 : ¬ C = 2 := by omega
  have n2 : ¬ C = 1 := by omega
  have tbb : t ≤ big := by unfold big; omega
  have cK1 : Calls Try.prog 13 #[.pointer (some p), .int .u8 (c : Int), .slice (some ⟨g, 2, none⟩) t (C - 2), .slice (some ⟨g, 1, none⟩) t (C - 1)] w2.drew fun e w3 => e = .returned (.int .i64 0) ∧ Only g w2.drew w3 ∧ ∃ G, Rw w3 g C G ∧ ∀ i, (i < 2 ∨ 2 + t ≤ i) → G i = F i :=
    kmul_lap 1 p lo hi c t g 2 C F _ _ (C - 2) (C - 1) w2.drew HH.out.2.2.2.1.drew hc tbb (.inr (by have := HH.out; omega)) HH.out.2.2.1.drew (fun _ => ⟨rfl, by omega⟩) (fun _ => ⟨rfl, by omega⟩)
  have cK2 : ∀ w3 G, Rw w3 g C G → Only g w2.drew w3 → Calls Try.prog 14 #[.pointer (some p), .int .u8 (c : Int), .slice (some ⟨g, 1, none⟩) t (C - 1), .slice (some ⟨g, 2, none⟩) t (C - 2)] w3 fun e w4 => e = .returned (.int .i64 0) ∧ Only g w3 w4 ∧ ∃ G', Rw w4 g C G' ∧ ∀ i, (i < 1 ∨ 1 + t ≤ i) → G' i = G i :=
    fun w3 G r3 o3 => kadd_lap 2 p lo hi c t g 1 C G _ _ (C - 1) (C - 2) w3 (ker_only HH.out.2.2.2.1.drew o3 (.inr (by have := HH.out; omega))) hc tbb (.inr (by have := HH.out; omega)) r3 (fun _ => ⟨rfl, by omega⟩) (fun _ => ⟨rfl, by omega⟩)
  have cY : ∀ (w3 w4 : World) (G G' : Nat → Nat), (∀ i, (i < 2 ∨ 2 + t ≤ i) → G i = F i) → (∀ i, (i < 1 ∨ 1 + t ≤ i) → G' i = G i) → Rw w4 g C G' → w4.cell? ⟨g, 0, none⟩ = some (.int .u8 7) ∧ w4.cell? ⟨g, t + 2, none⟩ = some (.int .u8 9) := by
    intro w3 w4 G G' e3 e4 r4
    obtain ⟨-, -, -, -, -, e7, e9, -⟩ := HH.out
    have q0 := r4.2.2.cell (i := 0) (by omega)
    have q9 := r4.2.2.cell (i := t + 2) (by omega)
    rw [e4 0 (by omega), e3 0 (by omega), e7] at q0
    rw [e4 (t + 2) (by omega), e3 (t + 2) (by omega), e9] at q9
    exact ⟨q0, q9⟩
  have HY : Hid (∀ (w3 w4 : World) (G G' : Nat → Nat), (∀ i, (i < 2 ∨ 2 + t ≤ i) → G i = F i) → (∀ i, (i < 1 ∨ 1 + t ≤ i) → G' i = G i) → Rw w4 g C G' → w4.cell? ⟨g, 0, none⟩ = some (.int .u8 7) ∧ w4.cell? ⟨g, t + 2, none⟩ = some (.int .u8 9)) := cY
  have K1 := kw1 tb
  have K2 := kw2 tb
  clear tb cY hhi tbb
  go_enter Try.func20, Try.ntmps20
  go_wp2_with (at_builtin; first | refine Lib.wpList_append_run _ rfl _ _ _ _ rfl _ _ rfl rfl _ _ hrun1 ?_ | refine Lib.wpList_append_run _ rfl _ _ _ _ rfl _ _ rfl rfl _ _ hrun2 ?_)
  clear hrun1 hrun2
  refine region_plan [10, 12, 5, 7, 3] 57 (by kernel_rfl) (by kernel_rfl) (by kernel_rfl) (fun _ a d v _ h => by cases d <;> exact h) ?_
  refine plan_step ?A1 rfl (fun w' => ?s1) rfl (fun K hK => ?n1)
  case s1 =>
    simp only [List.take_succ_cons, List.take_zero]
    repeat still_step
    exact rfl
  case n1 =>
  go_simp
  go_wp2_with (go_at_call 13; (with_reducible refine cK1.mono ?_); rintro e w3 ⟨rfl, o3, G3, r3, e3⟩; have H3 : Hid (∀ i, (i < 2 ∨ 2 + t ≤ i) → G3 i = F i) := e3; clear e3; have cK3 := cK2 w3 G3 r3 o3)
  refine plan_step ?A2 rfl (fun w' => ?s2) rfl (fun K hK => ?n2)
  case s2 =>
    simp only [List.take_succ_cons, List.take_zero]
    repeat still_step
    exact rfl
  case n2 =>
  go_simp
  go_wp2_with (go_at_call 14; (with_reducible refine cK3.mono ?_); rintro e w4 ⟨rfl, o4, G4, r4, e4⟩; have hY := HY.out w3 w4 G3 G4 H3.out e4 r4; obtain ⟨y0, y9⟩ := hY; clear e4)
  refine plan_step ?A3 rfl (fun w' => ?s3) rfl (fun K hK => ?n3)
  case s3 =>
    simp only [List.take_succ_cons, List.take_zero]
    repeat still_step
    exact rfl
  case n3 =>
  go_simp
  go_wp2
  refine plan_step ?A4 rfl (fun w' => ?s4) rfl (fun K hK => ?n4)
  case s4 =>
    simp only [List.take_succ_cons, List.take_zero]
    repeat still_step
    exact rfl
  case n4 =>
  go_simp
  go_wp2
  refine plan_last ?A5 rfl (fun w' => ?s5) rfl ?n5
  case s5 =>
    simp only [List.take_succ_cons, List.take_zero]
    repeat still_step
    exact rfl
  case n5 =>
  go_wp2
  go_ret
  obtain ⟨h1, h2, -⟩ := HH.out
  exact ⟨rfl, (h1.drew.trans (o3.below h2)).trans (o4.below h2)⟩
end Go.Proofs.Ytefhlnplegagfaa
