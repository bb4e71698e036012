import Derived.Test.YtefhlnplegagfaaEbt
namespace Go.Proofs.Ytefhlnplegagfaa
open Go.RowKit Gf2
set_option linter.unusedVariables false

set_option maxHeartbeats 4000000 in
set_option maxRecDepth 100000 in
theorem slices_an (p : Addr) (lo hi : Nat) (kind : Int) (hkind : kind ≠ 1) (c b : Nat) (xd : Option Addr) (nd cd : Nat) (xs : Option Addr) (n cs : Nat) (nl : Bool) (ahead behind : Int) (D S : Nat → Nat) (w : World) (hk : Ker w p lo hi) (hc : c < 256)
    (hd : Rb w (.slice xd nd cd) nd D) (hs : Rb w (.slice xs n cs) n S) (hnd : nd ≤ 140737488351232) (hns : n ≤ 140737488351232) (hne : nd ≠ n) :
    Calls Try.prog 27 #[.pointer (some p), .agg #[.int .i64 kind, .int .u8 (c : Int), .int .u8 (b : Int), .slice xd nd cd, .slice xs n cs, .bool false, .bool nl, .int .i64 ahead, .int .i64 behind]] w fun e w' => e = .returned (.bool true) ∧ Below w.heap.size w w' := by
  have TK : (kind == 1) = false := by simpa using hkind
  clear hkind
  obtain ⟨pS, hpS⟩ : ∃ p, p = rm ahead := ⟨_, rfl⟩
  obtain ⟨pD, hpD⟩ : ∃ p, p = rm behind := ⟨_, rfl⟩
  obtain ⟨NS, hNS⟩ : ∃ N, N = rm ahead + n + rm behind := ⟨_, rfl⟩
  obtain ⟨ND, hND⟩ : ∃ N, N = rm behind + nd + rm ahead := ⟨_, rfl⟩
  obtain ⟨CS, hCS⟩ : ∃ N, N = n + rm behind := ⟨_, rfl⟩
  obtain ⟨CD, hCD⟩ : ∃ N, N = nd + rm ahead := ⟨_, rfl⟩
  have l1 := rm_lt ahead
  have l2 := rm_lt behind
  have fS : pS + n ≤ NS := by omega
  have fD : pD + nd ≤ ND := by omega
  have gCS : n ≤ CS := by omega
  have gCD : nd ≤ CD := by omega
  have uCS : CS ≤ big := by unfold big; omega
  have uCD : CD ≤ big := by unfold big; omega
  have u1 : pS + n ≤ 281474976710656 := by omega
  have u2 : pD + nd ≤ 281474976710656 := by omega
  have cL1 : ∀ W, Rb W (.slice xs n cs) n S → Calls Try.prog 36 #[.slice xs n cs, .int .i64 ahead, .int .i64 behind, .int .u8 100] W fun e w' => ∃ a, e = .returned (.tuple #[.slice (some ⟨W.heap.size, 0, none⟩) NS NS, .slice a n CS]) ∧ (0 < n → a = some ⟨W.heap.size, pS, none⟩) ∧ Rw w' W.heap.size NS (pl (mk8 100) pS n S) ∧ Below W.heap.size W w' ∧ w'.heap.size = W.heap.size + 1 :=
    fun W h => laid_l xs n cs S ahead behind 100 NS CS pS W h hns (by decide) hpS hNS hCS
  have cL2 : ∀ W, Rb W (.slice xd nd cd) nd D → Calls Try.prog 36 #[.slice xd nd cd, .int .i64 behind, .int .i64 ahead, .int .u8 7] W fun e w' => ∃ a, e = .returned (.tuple #[.slice (some ⟨W.heap.size, 0, none⟩) ND ND, .slice a nd CD]) ∧ (0 < nd → a = some ⟨W.heap.size, pD, none⟩) ∧ Rw w' W.heap.size ND (pl (mk8 7) pD nd D) ∧ Below W.heap.size W w' ∧ w'.heap.size = W.heap.size + 1 :=
    fun W h => laid_l xd nd cd D behind ahead 7 ND CD pD W h hnd (by decide) hpD hND hCD
  have cM1 := fun w => room5_int ahead w
  have cM2 := fun w => room5_int behind w
  rw [← hpS] at cM1
  rw [← hpD] at cM2
  have cA1 : ∀ F W, Rw W (w.heap.size + 1) NS F → (∀ i, i < NS → (i < pS ∨ pS + n ≤ i) → F i = mk8 100 i) → Calls Try.prog 39 #[.slice (some ⟨w.heap.size + 1, 0, none⟩) NS NS, .int .i64 (pS : Int), .int .i64 (n : Int), .int .u8 100] W fun e w' => e = .returned (.bool true) ∧ w' = W :=
    fun F W h hF => around5_any _ NS pS n 100 NS F W h (by decide) u1 hF
  have cA2 : ∀ g F W, Rw W g ND F → (∀ i, i < ND → (i < pD ∨ pD + nd ≤ i) → F i = mk8 7 i) → Calls Try.prog 39 #[.slice (some ⟨g, 0, none⟩) ND ND, .int .i64 (pD : Int), .int .i64 (nd : Int), .int .u8 7] W fun e w' => e = .returned (.bool true) ∧ w' = W :=
    fun g F W h hF => around5_any _ ND pD nd 7 ND F W h (by decide) u2 hF
  clear hpS hpD hNS hND hCS hCD l1 l2 u1 u2
  have s0 : (w.alloc (.cells #[.int .i64 kind, .int .u8 (c : Int), .int .u8 (b : Int), .slice xd nd cd, .slice xs n cs, .bool false, .bool nl, .int .i64 ahead, .int .i64 behind] 43)).heap.size = w.heap.size + 1 := by simp
  have b0 : Below w.heap.size w (w.alloc (.cells #[.int .i64 kind, .int .u8 (c : Int), .int .u8 (b : Int), .slice xd nd cd, .slice xs n cs, .bool false, .bool nl, .int .i64 ahead, .int .i64 behind] 43)) := (Below.refl _ _).alloc (Nat.le_refl _) _
  have hs0 := hs.below b0
  have cL1 := cL1 _ hs0
  rw [s0] at cL1
  have HS0 : Hid ((w.alloc (.cells #[.int .i64 kind, .int .u8 (c : Int), .int .u8 (b : Int), .slice xd nd cd, .slice xs n cs, .bool false, .bool nl, .int .i64 ahead, .int .i64 behind] 43)).heap.size = w.heap.size + 1) := s0
  clear s0
  go_enter Try.func27, Try.ntmps27
  have box1 : ∀ {W}, Below (w.heap.size + 1) (w.alloc (.cells #[.int .i64 kind, .int .u8 (c : Int), .int .u8 (b : Int), .slice xd nd cd, .slice xs n cs, .bool false, .bool nl, .int .i64 ahead, .int .i64 behind] 43)) W → W.cell? ⟨w.heap.size, 3, none⟩ = some (.slice xd nd cd) ∧ W.cell? ⟨w.heap.size, 7, none⟩ = some (.int .i64 ahead) ∧ W.cell? ⟨w.heap.size, 8, none⟩ = some (.int .i64 behind) := fun hb => ⟨(hb.cell (p := ⟨w.heap.size, 3, none⟩) (by simp)).trans (by simp), (hb.cell (p := ⟨w.heap.size, 7, none⟩) (by simp)).trans (by simp), (hb.cell (p := ⟨w.heap.size, 8, none⟩) (by simp)).trans (by simp)⟩
  have hbn : n ≤ big := hs.1
  have hg1 : hi ≤ w.heap.size + 1 := by have := hk.hi; omega
  go_wp2_with (first | (go_at_call 36; first | ((with_reducible refine (cL1).mono ?_); (rintro e w1 ⟨aS, rfl, haS, r1, b1, s1⟩; have b01 := b0.trans (b1.mono (by omega)); obtain ⟨p3, p7, p8⟩ := box1 b1; have hd1 := hd.below b01)) | ((with_reducible refine (cL2 _ hd1).mono ?_); (rintro e w2 ⟨aD, rfl, haD, r2, b2, s2⟩; have X2 := SX.mk2 (box := opv kind c b xd nd cd xs n cs false nl ahead behind) r1 b1 s1 r2 b2; obtain ⟨x0, x1, x3, x4, x5, x7, x8⟩ := X2.cells; have hd2 := hd.below X2.1; have hs2 := hs.below X2.1; clear s1 s2))) | (go_at_call 38; ((with_reducible refine (refAdd5_lens c nd n _ _ D S w2 hd2 hs2 hnd hne).mono ?_); (rintro e w3 ⟨gW, CW, rfl, hC, hgW, b3, FW, rW, eW⟩; have X3 := X2.below b3; obtain ⟨x0, x1, x3, x4, x5, x7, x8⟩ := X3.cells; have cK := kadd_lens p lo hi c nd n aD aS CD CS w3 (ker_below hk X3.1) hne))) | (go_at_call 14; ((with_reducible refine (cK).mono ?_); (rintro e w4 ⟨rfl, hw4⟩; have hw4 := hw4.symm; subst hw4; have X4 := X3; have rW4 := rW; clear cK; have cE := equal5_true (.slice aD nd CD) (.slice (some ⟨gW, 0, none⟩) nd CW) nd D w3 (rb_at X4.2.2.2.2.2 haD fD gCD uCD (fun i hi => pl_in hi)) ((rW4.rb (by omega) hC rW4.1).congr (fun i hi => by rw [Nat.zero_add]; exact eW i hi))))) | (go_at_call 15; first | ((with_reducible refine (cE).mono ?_); (rintro e w5 ⟨rfl, m5, hw5⟩; have X5 : SX _ w5 _ _ _ _ _ _ _ := hw5 ▸ X4.drewN m5; obtain ⟨x0, x1, x3, x4, x5, x7, x8⟩ := X5.cells; clear hw5 cE; have cE2 := equal5_true (.slice aS n CS) (.slice xs n cs) n S w5 (rb_at X5.2.2.2.2.1 haS fS gCS uCS (fun i hi => pl_in hi)) (hs.below X5.1))) | ((with_reducible refine (cE2).mono ?_); (rintro e w6 ⟨rfl, m6, hw6⟩; have X6 : SX _ w6 _ _ _ _ _ _ _ := hw6 ▸ X5.drewN m6; obtain ⟨x0, x1, x3, x4, x5, x7, x8⟩ := X6.cells; clear hw6 cE2))))
  have d1 := fun m => cA1 _ (w6.drewN m) (X6.2.2.2.2.1.drewN m) (fun i hi h => pl_out h)
  have d2 := fun m => cA2 _ _ (w6.drewN m) (X6.2.2.2.2.2.drewN m) (fun i hi h => pl_out h)
  have BX : Hid (Below w.heap.size w w6) := X6.1
  clear cA1 cA2 X2 X3 X4 X5 X6 hd hs box1 cL1 cL2 rW rW4 r1 r2 b1 b2 b3 b01 hd1 hd2 hs2 eW
  go_quiet (first | (go_at_call 40; first | with_reducible exact Calls.quiet_of_same (cM1 _) | with_reducible exact Calls.quiet_of_same (cM2 _)) | (go_at_call 39; first | with_reducible exact Calls.quiet_of_same (d1 _) | with_reducible exact Calls.quiet_of_same (d2 _)))
  go_wp2
  go_ret
  exact ⟨rfl, below_drewN BX.out nq⟩
end Go.Proofs.Ytefhlnplegagfaa
