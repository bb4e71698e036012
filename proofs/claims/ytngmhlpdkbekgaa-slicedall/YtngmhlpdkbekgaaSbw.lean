import Derived.Test.YtngmhlpdkbekgaaSbl
namespace Go.Proofs.Ytngmhlpdkbekgaa
open Go.RowKit Gf2
set_option linter.unusedVariables false

set_option maxHeartbeats 4000000 in
set_option maxRecDepth 100000 in
theorem blocks7_words_ok (kind : Int) (c : Nat) (xD : Option Addr) (nD cD : Nat) (xS : Option Addr) (nS cS wv : Nat) (xW : Option Addr) (cW : Nat) (self : Bool) (S : Nat → Nat) (w : World) (hW : Rq w (.slice xW 8 cW) 8 S) (hk5 : (kind == 5) = false) :
    Calls Try.prog 29 #[.agg (op7 kind c xD nD cD xS nS cS wv xW 8 cW self)] w fun e w' => e = .returned (.bool true) ∧ Below w.heap.size w w' := by
  obtain ⟨A, hA⟩ : ∃ A, A = (op7 kind c xD nD cD xS nS cS wv xW 8 cW self) := ⟨_, rfl⟩
  rw [← hA]
  have b0 : Below w.heap.size w (w.alloc (.cells A 43)) := (Below.refl _ _).alloc (Nat.le_refl _) _
  have B0 : Bx (w.alloc (.cells A 43)) w.heap.size (op7 kind c xD nD cD xS nS cS wv xW 8 cW self) := by rw [hA]; exact heap_alloc_new _ _
  have hs : (w.alloc (.cells A 43)).heap.size = w.heap.size + 1 := by simp
  obtain ⟨w1, g1, C1, w2, g, C, hrun1, hrun2, hD, hb1⟩ := words_app (w.alloc (.cells A 43)) (hW.below b0) (by decide)
  rw [hs] at hrun1
  have H2 : Hid _ := hrun2
  have Be : Bx ((w.alloc (.cells A 43)).alloc (.cells #[] 40)) w.heap.size (op7 kind c xD nD cD xS nS cS wv xW 8 cW self) := B0.below ((Below.refl _ _).alloc (Nat.le_refl _) _)
  obtain ⟨z0, -, -, -, -, -, -⟩ := B0.all
  obtain ⟨-, -, -, -, -, y5, -⟩ := Be.all
  have B2 := B0.below hD.2.2.1
  obtain ⟨-, -, -, -, -, x5, -⟩ := B2.all
  have b2 := b0.trans (hD.2.2.1.mono b0.size)
  obtain ⟨F, rF, eF, eM⟩ := hD.2.2.2
  have hC := hD.1
  have i1 : ((8 : Nat) : Int) ≤ (C : Int) := by omega
  have i2 : ¬ C = 0 := by omega
  have cB := sblock_ok (.slice (some ⟨g, 0, none⟩) 8 C) S w2 (rF.rq (by omega) (by omega) rF.1 eF)
  have HI : Hid (Rq w (.slice xW 8 cW) 8 S ∧ True) := ⟨hW, trivial⟩
  have H0 : Hid (Rv w2 g C F ∧ (∀ i, i < 8 → F i = S i) ∧ (∀ i, i < 8 → F (8 + i) = 71 + i) ∧ 8 + 8 ≤ C ∧ Bx w2 w.heap.size (op7 kind c xD nD cD xS nS cS wv xW 8 cW self) ∧ Below w.heap.size w w2) := ⟨rF, eF, eM, hC, B2, b2⟩
  clear hW b0 B0 hA hs hrun2 hD hb1 Be B2 b2 rF eF eM hC
  have i1 : (8 : Int) ≤ (C : Int) := i1
  go_enter Try.func29, Try.ntmps29
  go_wp2_with (first
    | (at_builtin; first | (refine Lib.wpList_append_run _ rfl _ _ _ _ rfl _ _ rfl rfl _ _ hrun1 ?_; clear hrun1; have hrun2 := H2.out) | (refine Lib.wpList_append_run _ rfl _ _ _ _ rfl _ _ rfl rfl _ _ hrun2 ?_; clear hrun2))
    | (go_at_call 45; (with_reducible refine cB.mono ?_); rintro e w3 ⟨bL, FL, rfl, lL, rL, eL, hb3⟩; have B3 := H0.out.2.2.2.2.1.below hb3; obtain ⟨-, -, -, -, -, v5, -⟩ := B3.all; have b3 := H0.out.2.2.2.2.2.trans (hb3.mono H0.out.2.2.2.2.2.size); have cM := refBlock7_ok xW cW S w3 (HI.out.1.below b3); have H3 : Hid (Rw w3 bL bC FL ∧ (∀ i, i < 64 → FL i = pln S i 8) ∧ Below w2.heap.size w2 w3 ∧ Bx w3 w.heap.size (op7 kind c xD nD cD xS nS cS wv xW 8 cW self) ∧ Below w.heap.size w w3) := ⟨rL, eL, hb3, B3, b3⟩; clear cB lL rL eL hb3 B3 b3 x5)
    | (go_at_call 46; (with_reducible refine cM.mono ?_); rintro e w4 ⟨rfl, rM, hb4⟩; have H4 : Hid (Rw w4 w3.heap.size 64 (fun i => pln S i 8) ∧ Rw w4 bL bC FL ∧ (∀ i, i < 64 → FL i = pln S i 8) ∧ Rv w4 g C F ∧ Bx w4 w.heap.size (op7 kind c xD nD cD xS nS cS wv xW 8 cW self) ∧ Below w.heap.size w w4) := ⟨rM, rw_below H3.out.1 hb4, H3.out.2.1, (H0.out.1.below H3.out.2.2.1).below hb4, H3.out.2.2.2.1.below hb4, H3.out.2.2.2.2.trans (hb4.mono H3.out.2.2.2.2.size)⟩; clear cM rM hb4 v5))
  go_loopw [15] (fun iv wr => ∃ i : Nat, i ≤ 8 ∧ iv = .int .i64 i ∧ wr = w4) (fun iv _ => 8 - (intOf iv).toNat)
  case atStart => exact ⟨0, Nat.zero_le _, rfl, rfl⟩
  case round =>
    obtain ⟨i, hi, rfl, hw⟩ := hrel
    have hw := hw.symm
    subst hw
    by_cases hlt : i < 8
    · have j1 : ((i : Nat) : Int) < 8 := by omega
      have q1 := H4.out.2.2.2.1.2.2.cell (i := 8 + i) (by have := H0.out.2.2.2.1; omega)
      rw [H0.out.2.2.1 i hlt] at q1
      have m1 : IntKind.u64.wrap (71 + (i : Int)) = 71 + (i : Int) := by rw [IntKind.wrap_u64]; omega
      have j2 : (8 : Int) + (i : Int) < 16 := by omega
      go_wp2
      go_roundw
      case rel => exact ⟨i + 1, by omega, by go_num, trivial⟩
      case measure => simp [intOf]; omega
    · have hi8 : i = 8 := by omega
      subst hi8
      rw [show ((8 : Nat) : Int) = 8 from rfl]
      have cE := same7_true (.slice (some ⟨bL, 0, none⟩) 64 bC) (.slice (some ⟨w3.heap.size, 0, none⟩) 64 64) 64 (fun i => pln S i 8) w4 (head7 H4.out.2.1 (by decide) H4.out.2.2.1) H4.out.1.rb0
      go_wp2_with (first
        | (go_at_call 15; (with_reducible refine cE.mono ?_); rintro e w5 ⟨rfl, m5, hw5⟩; have B5 : Bx w5 w.heap.size (op7 kind c xD nD cD xS nS cS wv xW 8 cW self) := (by rw [hw5]; exact H4.out.2.2.2.2.1.drewN m5); obtain ⟨-, -, -, -, -, u5, -⟩ := B5.all; have b5 : Below w.heap.size w w5 := (by rw [hw5]; exact below_drewN H4.out.2.2.2.2.2 m5); have r5 : Rv w5 g C F := (by rw [hw5]; exact H4.out.2.2.2.1.drewN m5); have cF := samew7_true (.slice (some ⟨g, 0, none⟩) 8 C) (.slice xW 8 cW) 8 S w5 (r5.rq (by have := H0.out.2.2.2.1; omega) (by have := H0.out.2.2.2.1; omega) r5.1 H0.out.2.1) (HI.out.1.below b5); have H5 : Hid (Below w.heap.size w w5) := b5; clear cE hw5 B5 b5 r5)
        | (go_at_call 44; (with_reducible refine cF.mono ?_); rintro e w6 ⟨rfl, m6, hw6⟩; have H6 : Below w.heap.size w w6 := (by rw [hw6]; exact below_drewN H5.out m6); clear cF hw6))
      go_ret
      exact ⟨rfl, H6⟩
set_option maxHeartbeats 4000000 in
set_option maxRecDepth 100000 in
theorem blocks7_words_lens (kind : Int) (c : Nat) (xD : Option Addr) (nD cD : Nat) (xS : Option Addr) (nS cS wv : Nat) (xW : Option Addr) (nW : Nat) (cW : Nat) (self : Bool) (S : Nat → Nat) (w : World) (hW : Rq w (.slice xW nW cW) nW S) (hk5 : (kind == 5) = false) (lW : nW * 8 ≤ 140737488351232) (hne : nW ≠ 8) :
    Calls Try.prog 29 #[.agg (op7 kind c xD nD cD xS nS cS wv xW nW cW self)] w fun e w' => e = .returned (.bool true) ∧ Below w.heap.size w w' := by
  obtain ⟨A, hA⟩ : ∃ A, A = (op7 kind c xD nD cD xS nS cS wv xW nW cW self) := ⟨_, rfl⟩
  rw [← hA]
  have b0 : Below w.heap.size w (w.alloc (.cells A 43)) := (Below.refl _ _).alloc (Nat.le_refl _) _
  have B0 : Bx (w.alloc (.cells A 43)) w.heap.size (op7 kind c xD nD cD xS nS cS wv xW nW cW self) := by rw [hA]; exact heap_alloc_new _ _
  have hs : (w.alloc (.cells A 43)).heap.size = w.heap.size + 1 := by simp
  obtain ⟨w1, g1, C1, w2, g, C, hrun1, hrun2, hD, hb1⟩ := words_app (w.alloc (.cells A 43)) (hW.below b0) lW
  rw [hs] at hrun1
  have H2 : Hid _ := hrun2
  have Be : Bx ((w.alloc (.cells A 43)).alloc (.cells #[] 40)) w.heap.size (op7 kind c xD nD cD xS nS cS wv xW nW cW self) := B0.below ((Below.refl _ _).alloc (Nat.le_refl _) _)
  obtain ⟨z0, -, -, -, -, -, -⟩ := B0.all
  obtain ⟨-, -, -, -, -, y5, -⟩ := Be.all
  have B2 := B0.below hD.2.2.1
  obtain ⟨-, -, -, -, -, x5, -⟩ := B2.all
  have b2 := b0.trans (hD.2.2.1.mono b0.size)
  obtain ⟨F, rF, eF, eM⟩ := hD.2.2.2
  have hC := hD.1
  have i1 : ((nW : Nat) : Int) ≤ (C : Int) := by omega
  have i2 : ¬ C = 0 := by omega
  have cB := sblock_lens (some ⟨g, 0, none⟩) nW C w2 hne
  have HI : Hid (Rq w (.slice xW nW cW) nW S ∧ nW * 8 ≤ 140737488351232 ∧ nW ≠ 8) := ⟨hW, lW, hne⟩
  have H0 : Hid (Rv w2 g C F ∧ (∀ i, i < nW → F i = S i) ∧ (∀ i, i < 8 → F (nW + i) = 71 + i) ∧ nW + 8 ≤ C ∧ Bx w2 w.heap.size (op7 kind c xD nD cD xS nS cS wv xW nW cW self) ∧ Below w.heap.size w w2) := ⟨rF, eF, eM, hC, B2, b2⟩
  clear hW b0 B0 hA hs hrun2 hD hb1 Be B2 b2 rF eF eM hC lW hne
  go_enter Try.func29, Try.ntmps29
  go_wp2_with (first
    | (at_builtin; first | (refine Lib.wpList_append_run _ rfl _ _ _ _ rfl _ _ rfl rfl _ _ hrun1 ?_; clear hrun1; have hrun2 := H2.out) | (refine Lib.wpList_append_run _ rfl _ _ _ _ rfl _ _ rfl rfl _ _ hrun2 ?_; clear hrun2))
    | (go_at_call 45; (with_reducible refine cB.mono ?_); rintro e w3 ⟨xL, cL, rfl, lcx, hb3⟩; have B3 := H0.out.2.2.2.2.1.below hb3; obtain ⟨-, -, -, -, -, v5, -⟩ := B3.all; have b3 := H0.out.2.2.2.2.2.trans (hb3.mono H0.out.2.2.2.2.2.size); have cM := refBlock7_lens xW nW cW w3 HI.out.2.2; have H3 : Hid (cL ≤ big ∧ Rv w3 g C F ∧ Bx w3 w.heap.size (op7 kind c xD nD cD xS nS cS wv xW nW cW self) ∧ Below w.heap.size w w3) := ⟨lcx, H0.out.1.below hb3, B3, b3⟩; clear cB lcx hb3 B3 b3 x5)
    | (go_at_call 46; (with_reducible refine cM.mono ?_); rintro e w4 ⟨rfl, hw4⟩; have H4 : Hid (cL ≤ big ∧ Rv w4 g C F ∧ Bx w4 w.heap.size (op7 kind c xD nD cD xS nS cS wv xW nW cW self) ∧ Below w.heap.size w w4) := (by rw [hw4]; exact H3.out); clear cM hw4 v5))
  go_loopw [15] (fun iv wr => ∃ i : Nat, i ≤ 8 ∧ iv = .int .i64 i ∧ wr = w4) (fun iv _ => 8 - (intOf iv).toNat)
  case atStart => exact ⟨0, Nat.zero_le _, rfl, rfl⟩
  case round =>
    obtain ⟨i, hi, rfl, hw⟩ := hrel
    have hw := hw.symm
    subst hw
    by_cases hlt : i < 8
    · have j1 : ((i : Nat) : Int) < 8 := by omega
      have q1 := H4.out.2.1.2.2.cell (i := nW + i) (by have := H0.out.2.2.2.1; omega)
      rw [H0.out.2.2.1 i hlt] at q1
      have m1 : IntKind.u64.wrap (71 + (i : Int)) = 71 + (i : Int) := by rw [IntKind.wrap_u64]; omega
      have j2 : (nW : Int) + (i : Int) < (nW : Int) + 8 := by omega
      have W1 : wrap64 ((nW : Int) + (i : Int)) = (nW : Int) + (i : Int) := by have := HI.out.2.1; unfold wrap64; omega
      go_wp2
      go_roundw
      case rel => exact ⟨i + 1, by omega, by go_num, trivial⟩
      case measure => simp [intOf]; omega
    · have hi8 : i = 8 := by omega
      subst hi8
      rw [show ((8 : Nat) : Int) = 8 from rfl]
      have cE := same7_true (.slice xL 0 cL) (.slice none 0 0) 0 (fun _ => 0) w4 (rb_none _ _ _ H4.out.1 _) (rb_none _ _ _ (by decide) _)
      go_wp2_with (first
        | (go_at_call 15; (with_reducible refine cE.mono ?_); rintro e w5 ⟨rfl, m5, hw5⟩; have B5 : Bx w5 w.heap.size (op7 kind c xD nD cD xS nS cS wv xW nW cW self) := (by rw [hw5]; exact H4.out.2.2.1.drewN m5); obtain ⟨-, -, -, -, -, u5, -⟩ := B5.all; have b5 : Below w.heap.size w w5 := (by rw [hw5]; exact below_drewN H4.out.2.2.2 m5); have r5 : Rv w5 g C F := (by rw [hw5]; exact H4.out.2.1.drewN m5); have cF := samew7_true (.slice (some ⟨g, 0, none⟩) nW C) (.slice xW nW cW) nW S w5 (r5.rq (by have := H0.out.2.2.2.1; omega) (by have := H0.out.2.2.2.1; omega) r5.1 H0.out.2.1) (HI.out.1.below b5); have H5 : Hid (Below w.heap.size w w5) := b5; clear cE hw5 B5 b5 r5)
        | (go_at_call 44; (with_reducible refine cF.mono ?_); rintro e w6 ⟨rfl, m6, hw6⟩; have H6 : Below w.heap.size w w6 := (by rw [hw6]; exact below_drewN H5.out m6); clear cF hw6))
      go_ret
      exact ⟨rfl, H6⟩
end Go.Proofs.Ytngmhlpdkbekgaa
