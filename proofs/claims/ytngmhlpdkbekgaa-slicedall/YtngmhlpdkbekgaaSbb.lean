import Derived.Test.YtngmhlpdkbekgaaSba
namespace Go.Proofs.Ytngmhlpdkbekgaa
open Go.RowKit Gf2
set_option linter.unusedVariables false

/-- what awake has made. -/
def Ax (w1 W : World) : Prop := ∃ N B G, Ow w1 2 N B G W ∧ B 0 = w1.heap.size ∧ N 0 = 3 ∧ ∀ i, i < 3 → G 0 i = [29, 2, 0].getD i 0
theorem aw_mul (w1 : World) (p : Addr) (lo hi : Nat) (hk : Sk w1 p lo hi) :
    Calls Try.prog 13 #[.pointer (some p), .int .u8 2, .slice (some ⟨w1.heap.size, 0, none⟩) 3 3, .slice (some ⟨w1.heap.size + 1, 0, none⟩) 3 3]
      ((w1.alloc (.cells #[.int .u8 7, .int .u8 7, .int .u8 7] 5)).alloc (.cells #[.int .u8 128, .int .u8 1, .int .u8 0] 5)) fun e w' => e = .returned (.int .i64 0) ∧ Ax w1 w' := by
  have o1 := (Ow.start w1 (fun _ => 0) (fun _ => 0) (fun _ _ => 0)).lit7 [7, 7, 7] (by decide) (by decide)
  have o2 := o1.lit7 [128, 1, 0] (by decide) (by decide)
  refine (sw_mul o2 hk 0 2 3 3 3 (by decide) (by decide) rfl (by decide) rfl (by decide) (o2.farRow 1 0 3 (by simp [upn]) (by decide) (by decide) (by decide) (Nat.le_refl _))).mono fun e w' ⟨h1, h2, _⟩ => ⟨h1, _, _, _, h2, rfl, rfl, fun i hi => ?_⟩
  match i, hi with
  | 0, _ => decide +kernel
  | 1, _ => decide +kernel
  | 2, _ => decide +kernel
  | i + 3, h => exact absurd h (by show ¬ i + 3 < 3; omega)
theorem aw_eq (w1 W : World) (h : Ax w1 W) :
    Calls Try.prog 15 #[.slice (some ⟨w1.heap.size, 0, none⟩) 3 3, .slice (some ⟨W.heap.size, 0, none⟩) 3 3] (W.alloc (.cells #[.int .u8 29, .int .u8 2, .int .u8 0] 5)) fun e w' => e = .returned (.bool true) ∧ Below w1.heap.size w1 w' := by
  obtain ⟨N, B, G, ho, hB, hN, hG⟩ := h
  have o2 := ho.lit7 [29, 2, 0] (by decide) (by decide)
  exact (sw_equal o2 3 (o2.own 0 3 3 (by rw [upn_other _ _ (by decide), hB]) (by decide) (by rw [upn_other _ _ (by decide), hN]) (by decide) (by decide)) (o2.own 2 3 3 (by rw [upn_same]) (by decide) rfl (by decide) (by decide)) (fun i hi => by rw [upn_other _ _ (by decide), upn_same]; exact hG i hi)).mono fun e w' ⟨h1, h2⟩ => ⟨h1, h2.1⟩
theorem aw_word (W : World) : Calls Try.prog 20 #[.int .u8 2, .int .u64 9259542123273814144] W fun e w' => e = .returned (.int .u64 2097865012304223517) ∧ Below W.heap.size W w' := by
  have h := sword_any 2 9259542123273814144 W (by decide) (by decide)
  rw [show wdk 2 9259542123273814144 8 = 2097865012304223517 by decide +kernel] at h
  exact h
set_option maxHeartbeats 2000000 in
set_option maxRecDepth 100000 in
theorem awake7_any (w : World) (p : Addr) (lo hi : Nat) (hk : Sk w p lo hi) :
    Calls Try.prog 10 #[.pointer (some p)] w fun e w' => e = .returned (.bool true) ∧ Below w.heap.size w w' := by
  have c1 := aw_mul w p lo hi hk
  have c3 := fun W => aw_word W
  go_enter Try.func10, Try.ntmps10
  go_wp2_with (first | (go_at_call 13; ((with_reducible refine (c1).mono ?_); (rintro e w2 ⟨rfl, hW2⟩))) | (go_at_call 15; ((with_reducible refine (aw_eq w w2 hW2).mono ?_); (rintro e w3 ⟨rfl, hW3⟩))) | (go_at_call 20; ((with_reducible refine (c3 _).mono ?_); (rintro e w4 ⟨rfl, hW4⟩))))
  go_ret
  exact ⟨rfl, hW3.trans (hW4.mono hW3.size)⟩

/-- what roomy lays: marks about the list. -/
def rmy (n : Nat) (S : Nat → Nat) (i : Nat) : Nat := if i < 3 then 201 + i else if i < 3 + n then S (i - 3) else 201 + (i - n)
/-- a list in the midst of marks, in a row of its own. -/
def Rmy (w w' : World) (g C n : Nat) (S : Nat → Nat) : Prop := n + 15 ≤ C ∧ w.heap.size ≤ g ∧ Below w.heap.size w w' ∧ ∃ F, Rw w' g C F ∧ ∀ i, i < n + 15 → F i = rmy n S i
theorem rmy_mid {n : Nat} {S : Nat → Nat} {j : Nat} (h : j < n) : rmy n S (3 + j) = S j := by
  unfold rmy
  rw [if_neg (by omega), if_pos (by omega), Nat.add_sub_cancel_left]
set_option maxHeartbeats 2000000 in
set_option maxRecDepth 100000 in
theorem roomy7_any (x : Option Addr) (n cx : Nat) (S : Nat → Nat) (w : World) (h : Rb w (.slice x n cx) n S) (hn : n ≤ 140737488351232) :
    Calls Try.prog 12 #[.slice x n cx] w fun e w' => ∃ g C, e = .returned (.tuple #[.slice (some ⟨g, 0, none⟩) (n + 15) C, .slice (some ⟨g, 3, none⟩) n (C - 3)]) ∧ Rmy w w' g C n S := by
  obtain ⟨b1, b2, a, c', b3, b5, b6, b4⟩ := h
  cases b3
  have r0 := lit_rw [201, 202, 203] w (by decide) (by decide)
  have hb0 : Below w.heap.size w (w.alloc (.cells #[.int .u8 201, .int .u8 202, .int .u8 203] 5)) := (Below.refl _ _).alloc (Nat.le_refl _) _
  obtain ⟨w1, g1, C1, F1, hrun1, hC1, hR1, hF1, hF2, hcase⟩ := app8 (w.alloc (.cells #[.int .u8 201, .int .u8 202, .int .u8 203] 5)) (g := w.heap.size) (C := 3) (L := 3) r0 (Nat.le_refl _) (x := x) (n := n) (cx := cx) (S := S) b2 (fun h0 => by
    obtain ⟨b, o, e, hl, hcl⟩ := b4 h0
    exact ⟨b, o, e, fun i hi => (hb0.cell (p := ⟨b, o + i, none⟩) hl).trans (hcl i hi)⟩) (by omega)
  have hg1 : w.heap.size ≤ g1 ∧ Below w.heap.size w w1 := by
    have hs : (w.alloc (.cells #[.int .u8 201, .int .u8 202, .int .u8 203] 5)).heap.size = w.heap.size + 1 := by simp
    rcases hcase with ⟨rfl, ho⟩ | ⟨e, -, hb⟩
    · exact ⟨Nat.le_refl _, hb0.trans (ho.below (Nat.le_refl _))⟩
    · exact ⟨by omega, hb0.trans (hb.mono (by omega))⟩
  have hb1 : Below w1.heap.size w1 (w1.alloc (.cells #[.int .u8 204, .int .u8 205, .int .u8 206, .int .u8 207, .int .u8 208, .int .u8 209, .int .u8 210, .int .u8 211, .int .u8 212, .int .u8 213, .int .u8 214, .int .u8 215] 5)) := (Below.refl _ _).alloc (Nat.le_refl _) _
  have r1 := lit_rw [204, 205, 206, 207, 208, 209, 210, 211, 212, 213, 214, 215] w1 (by decide) (by decide)
  obtain ⟨w2, g, C, F, hrun2, hC, hR, hG1, hG2, hcase2⟩ := app8 (w1.alloc (.cells #[.int .u8 204, .int .u8 205, .int .u8 206, .int .u8 207, .int .u8 208, .int .u8 209, .int .u8 210, .int .u8 211, .int .u8 212, .int .u8 213, .int .u8 214, .int .u8 215] 5)) (g := g1) (C := C1) (L := 3 + n) (rw_below hR1 hb1) hC1 (x := some ⟨w1.heap.size, 0, none⟩) (n := 12) (cx := 12) (S := fun i => [204, 205, 206, 207, 208, 209, 210, 211, 212, 213, 214, 215].getD i 0) (fun i hi => r1.2.1 i hi) (fun _ => ⟨_, _, rfl, fun i hi => by rw [Nat.zero_add]; exact r1.2.2.cell hi⟩) (by omega)
  have hg2 : w.heap.size ≤ g ∧ Below w.heap.size w w2 := by
    rcases hcase2 with ⟨rfl, ho⟩ | ⟨e, -, hb⟩
    · exact ⟨hg1.1, (hg1.2.trans (hb1.mono hg1.2.size)).trans (ho.below hg1.1)⟩
    · have := hg1.2.size
      have := hb1.size
      exact ⟨by omega, (hg1.2.trans (hb1.mono hg1.2.size)).trans (hb.mono (by omega))⟩
  have hF : ∀ i, i < n + 15 → F i = rmy n S i := by
    intro i hi
    unfold rmy
    by_cases e1 : i < 3
    · rw [if_pos e1, hG1 i (by omega), hF1 i e1]
      match i, e1 with
      | 0, _ => rfl
      | 1, _ => rfl
      | 2, _ => rfl
    · rw [if_neg e1]
      by_cases e2 : i < 3 + n
      · rw [if_pos e2, hG1 i e2, show i = 3 + (i - 3) by omega, hF2 (i - 3) (by omega), Nat.add_sub_cancel_left]
      · rw [if_neg e2, show i = 3 + n + (i - (3 + n)) by omega, hG2 (i - (3 + n)) (by omega)]
        obtain ⟨j, hj⟩ : ∃ j, j = i - (3 + n) := ⟨_, rfl⟩
        rw [← hj, show 201 + (3 + n + j - n) = 204 + j by omega]
        have key : ∀ j, j < 12 → [204, 205, 206, 207, 208, 209, 210, 211, 212, 213, 214, 215].getD j 0 = 204 + j := by decide
        exact key j (by omega)
  have H2 : Hid _ := hrun2
  have HE : Hid (Rmy w w2 g C n S) := ⟨by omega, hg2.1, hg2.2, F, hR, hF⟩
  have W1 : wrap64 (3 + (n : Int)) = 3 + (n : Int) := by unfold wrap64; omega
  have K1 : IntKind.i64.wrap (3 + (n : Int)) = 3 + (n : Int) := by rw [IntKind.wrap_i64]; omega
  have i1 : (3 : Int) + (n : Int) ≤ (C : Int) := by omega
  have i2 : 3 < C := by omega
  have e12 : 3 + n + 12 = n + 15 := by omega
  clear b1 b2 b4 b5 b6 r0 hb0 hC1 hR1 hF1 hF2 hcase hg1 hb1 r1 hC hR hG1 hG2 hcase2 hg2 hF hrun2 hn
  go_enter Try.func12, Try.ntmps12
  go_wp2_with (at_builtin; first | (refine Lib.wpList_append_run _ rfl _ _ _ _ rfl _ _ rfl rfl _ _ hrun1 ?_; clear hrun1; have hrun2 := H2.out) | (refine Lib.wpList_append_run _ rfl _ _ _ _ rfl _ _ rfl rfl _ _ hrun2 ?_; clear hrun2 H2))
  have i3 : ¬ C = 3 := by omega
  clear e12 i2
  go_quiet (fail)
  go_wp2
  go_ret2
  obtain ⟨h1, h2, h3, F, h4, h5⟩ := HE.out
  refine ⟨g, C, ?_, h1, h2, below_drewN h3 _, F, h4.drewN _, h5⟩
  simp
theorem Rmy.row {w w' : World} {g C n : Nat} {S : Nat → Nat} (h : Rmy w w' g C n S) : ∃ F, Rw w' g C F ∧ ∀ i, i < n + 15 → F i = rmy n S i := h.2.2.2
/-- the marks stand. -/
def Mrk (n : Nat) (F : Nat → Nat) : Prop := ∀ i, i < n + 15 → (i < 3 → F i = 201 + i) ∧ (3 + n ≤ i → F i = 201 + (i - n))
theorem Mrk.rmy {n : Nat} {S F : Nat → Nat} (h : ∀ i, i < n + 15 → F i = rmy n S i) : Mrk n F := by
  intro i hi
  rw [h i hi]
  unfold Go.Proofs.Ytngmhlpdkbekgaa.rmy
  refine ⟨fun h1 => if_pos h1, fun h1 => ?_⟩
  rw [if_neg (by omega), if_neg (by omega)]
set_option maxHeartbeats 2000000 in
set_option maxRecDepth 100000 in
theorem edges7_true (g C n : Nat) (F : Nat → Nat) (w : World) (h : Rw w g C F) (hC : n + 15 ≤ C) (hM : Mrk n F) (hn : n ≤ 140737488351232) :
    Calls Try.prog 16 #[.slice (some ⟨g, 0, none⟩) (n + 15) C, .int .i64 (n : Int)] w fun e w' => e = .returned (.bool true) ∧ w' = w := by
  have HM : Hid (Mrk n F ∧ n + 15 ≤ C ∧ Rw w g C F) := ⟨hM, hC, h⟩
  have W0 : wrap64 (3 + (n : Int)) = 3 + (n : Int) := by unfold wrap64; omega
  have W2 : wrap64 ((n : Int) + 15) = (n : Int) + 15 := by unfold wrap64; omega
  have HN : Hid (n ≤ 140737488351232) := hn
  clear hM hC h hn
  go_enter Try.func16, Try.ntmps16
  go_wp2
  go_loopw [5] (fun i wr => ∃ k : Nat, k ≤ 3 ∧ i = .int .i64 k ∧ wr = w) (fun i _ => 3 - (intOf i).toNat)
  case atStart => exact ⟨0, Nat.zero_le _, rfl, rfl⟩
  case round =>
    obtain ⟨k, hk, rfl, hw⟩ := hrel
    have hw := hw.symm
    subst hw
    by_cases hlt : k < 3
    · obtain ⟨hM, hC, hR⟩ := HM.out
      have q1 := hR.2.2.cell (i := k) (by omega)
      rw [(hM k (by omega)).1 hlt] at q1
      have i1 : ((k : Nat) : Int) < 3 := by omega
      have i2 : ((k : Nat) : Int) < (n : Int) + 15 := by omega
      have m1 : IntKind.u8.wrap (201 + (k : Int)) = 201 + (k : Int) := by rw [IntKind.wrap_u8]; omega
      clear hM hC hR W0 W2
      go_wp2
      go_roundw
      case rel => exact ⟨k + 1, by omega, by go_num, trivial⟩
      case measure => simp [intOf]; omega
    · have hk3 : k = 3 := by omega
      subst hk3
      rw [show ((3 : Nat) : Int) = 3 from rfl]
      go_wp2
      go_loopw [6] (fun i wr => ∃ k : Nat, 3 + n ≤ k ∧ k ≤ n + 15 ∧ i = .int .i64 k ∧ wr = w) (fun i _ => n + 15 - (intOf i).toNat)
      case atStart => exact ⟨3 + n, Nat.le_refl _, by omega, by simp, rfl⟩
      case round =>
        obtain ⟨k, hk1, hk2, rfl, hw⟩ := hrel
        have hw := hw.symm
        subst hw
        by_cases hlt : k < n + 15
        · obtain ⟨hM, hC, hR⟩ := HM.out
          have q1 := hR.2.2.cell (i := k) (by omega)
          rw [(hM k hlt).2 hk1] at q1
          have hn := HN.out
          obtain ⟨t, ht⟩ : ∃ t, t = 201 + (k - n) := ⟨_, rfl⟩
          rw [← ht] at q1
          have i2 : ((k : Nat) : Int) < (n : Int) + 15 := by omega
          have m1 : IntKind.u8.wrap (201 + (k : Int) - (n : Int)) = (t : Int) := by rw [IntKind.wrap_u8]; omega
          have w1 : wrap64 (201 + (k : Int)) = 201 + (k : Int) := by unfold wrap64; omega
          have w2 : wrap64 (201 + (k : Int) - (n : Int)) = 201 + (k : Int) - (n : Int) := by unfold wrap64; omega
          have w3 : wrap64 ((k : Int) + 1) = (k : Int) + 1 := by unfold wrap64; omega
          have HT : Hid (3 + n ≤ k ∧ k < n + 15) := ⟨hk1, hlt⟩
          clear hM hC hR W0 W2 hn ht hk1 hk2
          go_wp2
          go_roundw
          case rel => exact ⟨k + 1, by have := HT.out; omega, by have := HT.out; omega, by first | rfl | (rw [w3]; rfl), trivial⟩
          case measure => first | exact meas_lt8 hlt | (rw [w3]; exact meas_lt8 hlt)
        · have hkn : k = n + 15 := by omega
          subst hkn
          clear hk1 hk2
          go_wp2
          go_ret
          exact ⟨rfl, rfl⟩
end Go.Proofs.Ytngmhlpdkbekgaa
