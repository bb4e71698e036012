import Derived.Test.YtdolghlphmjcdaaKnp
namespace Go.Proofs.Ytdolghlphmjcdaa.kernelNew
open Go.RowKit Gf2
set_option linter.unusedVariables false

set_option maxHeartbeats 1000000 in
theorem known (b : Int) (w : World) : Calls Try.prog 12 #[.int .i64 b] w fun e w' => e = .returned (.bool (decide (b = 0 ∨ b = 1 ∨ b = 2))) ∧ w' = w := by
  by_cases h0 : b = 0
  · subst h0
    go_enter Try.func12, Try.ntmps12
    go_wp2
    go_ret
    exact ⟨rfl, rfl⟩
  · by_cases h1 : b = 1
    · subst h1
      go_enter Try.func12, Try.ntmps12
      go_wp2
      go_ret
      exact ⟨rfl, rfl⟩
    · by_cases h2 : b = 2
      · subst h2
        go_enter Try.func12, Try.ntmps12
        go_wp2
        go_ret
        exact ⟨rfl, rfl⟩
      · have e : decide (b = 0 ∨ b = 1 ∨ b = 2) = false := by simp [h0, h1, h2]
        have H : Hid (decide (b = 0 ∨ b = 1 ∨ b = 2) = false) := e
        clear e
        go_enter Try.func12, Try.ntmps12
        go_wp2
        go_ret
        refine ⟨?_, by first | rfl | trivial⟩
        first | rfl | (rw [H.out]; rfl) | simp [h0, h1, h2]

set_option maxHeartbeats 4000000 in
set_option maxRecDepth 100000 in
theorem walk (b kind : Int) (c : Nat) (vr vR vS vD vd vs : Value) (fr to : Int) (w : World) (h : In9 w c vr vR vS vD vd vs) :
    Calls Try.prog 3 #[.int .i64 b, .agg (cv9 kind c vr vR vS vD vd vs fr to)] w fun e w' => e = .returned (.bool true) ∧ Below w.heap.size w w' := by
  have hX := Bx9.new w kind c vr vR vS vD vd vs fr to
  have b0 : Below w.heap.size w (w.alloc (.cells (cv9 kind c vr vR vS vD vd vs fr to) 25)) := (Below.refl _ _).alloc (Nat.le_refl _) _
  have hI := h.below b0
  obtain ⟨A, hA⟩ : ∃ A, A = cv9 kind c vr vR vS vD vd vs fr to := ⟨_, rfl⟩
  rw [← hA] at hX b0 hI ⊢
  clear hA h
  have HX : Hid (Bx9 (w.alloc (.cells A 25)) w.heap.size kind c vr vR vS vD vd vs fr to ∧ In9 (w.alloc (.cells A 25)) c vr vR vS vD vd vs ∧ Below w.heap.size w (w.alloc (.cells A 25))) := ⟨hX, hI, b0⟩
  have cF := fixed9_any (w.alloc (.cells A 25))
  have cN : ∀ W, Below (w.alloc (.cells A 25)).heap.size (w.alloc (.cells A 25)) W → Calls Try.prog 10 #[.agg #[.int .i64 kind, .int .u8 (c : Int), vr, vR, vS, vD, vd, vs, .int .i64 fr, .int .i64 to]] W fun e w' => e = .returned (.bool true) ∧ Below W.heap.size W w' := fun W hb => nothing9_any kind c vr vR vS vD vd vs fr to W (hI.below hb)
  have cK := fun W => known b W
  clear hX hI b0
  by_cases hb : b = 0 ∨ b = 1 ∨ b = 2
  · obtain ⟨k, rfl⟩ : ∃ k : Nat, b = (k : Int) := ⟨b.toNat, by omega⟩
    have cW := fun W => knew_ok k W (by omega)
    have cB := fun (W : World) p lo hi (hk : Ks W p k lo hi) => kback_ok p k lo hi W hk
    have ek : decide ((k : Int) = 0 ∨ (k : Int) = 1 ∨ (k : Int) = 2) = true := by simpa using hb
    simp only [ek] at cK
    clear ek hb
    go_enter Try.func3, Try.ntmps3
    go_wp2_with (first
      | (go_at_call 9; (with_reducible refine cF.mono ?_); rintro e w1 ⟨rfl, hb1⟩; clear cF; obtain ⟨q1, q2, q3⟩ := HX.out; have hX := q1.below hb1; have y0 := hX.cell (i := 0) (v := .int .i64 kind) rfl; have y1 := hX.cell (i := 1) (v := .int .u8 (c : Int)) rfl; have y2 := hX.cell (i := 2) (v := vr) rfl; have y3 := hX.cell (i := 3) (v := vR) rfl; have y4 := hX.cell (i := 4) (v := vS) rfl; have y5 := hX.cell (i := 5) (v := vD) rfl; have y6 := hX.cell (i := 6) (v := vd) rfl; have y7 := hX.cell (i := 7) (v := vs) rfl; have y8 := hX.cell (i := 8) (v := .int .i64 fr) rfl; have y9 := hX.cell (i := 9) (v := .int .i64 to) rfl; have cN1 := cN w1 hb1; have H1 : Hid (Below w.heap.size w w1) := q3.trans (hb1.mono q3.size); clear q1 q2 q3 hX hb1 cN)
      | (go_at_call 10; (with_reducible refine cN1.mono ?_); rintro e w2 ⟨rfl, hb2⟩; clear cN1; have H2 : Hid (Below w.heap.size w w2) := H1.out.trans (hb2.mono H1.out.size); clear hb2 y0 y1 y2 y3 y4 y5 y6 y7 y8 y9)
      | (go_at_call 11; (with_reducible refine (cW _).mono ?_); rintro e w3 ⟨p, rfl, hk3, hb3⟩; clear cW; have H3 : Hid (Below w.heap.size w w3) := H2.out.trans (hb3.mono H2.out.size); have cB3 := cB w3 p _ _ hk3; clear cB hb3 hk3)
      | (go_at_call 12; (with_reducible refine (cK _).mono ?_); rintro e w4 ⟨rfl, hw4⟩; subst hw4; clear cK)
      | (go_at_call 13; (with_reducible refine cB3.mono ?_); rintro e w5 ⟨rfl, hb5⟩; clear cB3))
    go_ret
    exact ⟨rfl, H3.out.trans (hb5.mono H3.out.size)⟩
  · have cW := fun W => knew_bad b W (by omega)
    have ek : decide (b = 0 ∨ b = 1 ∨ b = 2) = false := by simpa using hb
    simp only [ek] at cK
    clear ek hb
    go_enter Try.func3, Try.ntmps3
    go_wp2_with (first
      | (go_at_call 9; (with_reducible refine cF.mono ?_); rintro e w1 ⟨rfl, hb1⟩; clear cF; obtain ⟨q1, q2, q3⟩ := HX.out; have hX := q1.below hb1; have y0 := hX.cell (i := 0) (v := .int .i64 kind) rfl; have y1 := hX.cell (i := 1) (v := .int .u8 (c : Int)) rfl; have y2 := hX.cell (i := 2) (v := vr) rfl; have y3 := hX.cell (i := 3) (v := vR) rfl; have y4 := hX.cell (i := 4) (v := vS) rfl; have y5 := hX.cell (i := 5) (v := vD) rfl; have y6 := hX.cell (i := 6) (v := vd) rfl; have y7 := hX.cell (i := 7) (v := vs) rfl; have y8 := hX.cell (i := 8) (v := .int .i64 fr) rfl; have y9 := hX.cell (i := 9) (v := .int .i64 to) rfl; have cN1 := cN w1 hb1; have H1 : Hid (Below w.heap.size w w1) := q3.trans (hb1.mono q3.size); clear q1 q2 q3 hX hb1 cN)
      | (go_at_call 10; (with_reducible refine cN1.mono ?_); rintro e w2 ⟨rfl, hb2⟩; clear cN1; have H2 : Hid (Below w.heap.size w w2) := H1.out.trans (hb2.mono H1.out.size); clear hb2 y0 y1 y2 y3 y4 y5 y6 y7 y8 y9)
      | (go_at_call 11; (with_reducible refine (cW _).mono ?_); rintro e w3 ⟨rfl, hb3⟩; clear cW; have H3 : Hid (Below w.heap.size w w3) := H2.out.trans (hb3.mono H2.out.size); clear hb3)
      | (go_at_call 12; (with_reducible refine (cK _).mono ?_); rintro e w4 ⟨rfl, hw4⟩; subst hw4; clear cK))
    go_ret
    exact ⟨rfl, H3.out⟩
theorem any9 (b : Int) (hb : (Lit.int .i64 b).wf = true) (kind : Int) (c : Nat) (vr vR vS vD vd vs : Value) (fr to : Int) {W : World} (h : In9 W c vr vR vS vD vd vs) :
    Calls Try.prog 3 #[.int .i64 b, .agg (cv9 kind c vr vR vS vD vd vs fr to)] W fun e w' => e = .returned (.bool true) ∧ Below W.heap.size W w' := walk b kind c vr vR vS vD vd vs fr to W h
end Go.Proofs.Ytdolghlphmjcdaa.kernelNew
