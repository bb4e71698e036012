import Derived.Test.YtdnhidachdjgaaaMkc
namespace Go.Proofs.Ytdnhidachdjgaaa
open Go.RowKit Gf2
set_option linter.unusedVariables false

-- layer 10: all
/-- what is answered of every step of the kinds lo to hi, by the function f. -/
def Plays10 (f : Nat) (lo hi : Int) : Prop := ∀ (k : Int) (vA vB : Value) (i j l m : Int) (vR : Value) (W : World), lo ≤ k → k ≤ hi → In10 W vA vB vR j →
  Calls Try.prog f #[.agg #[.int .i64 k, vA, vB, .int .i64 i, .int .i64 j, .int .i64 l, .int .i64 m, vR]] W fun e w' => e = .returned (.bool true) ∧ Below W.heap.size W w'
theorem IsOps10.below {w w' : World} {a : Option Addr} {len cap : Nat} (h : IsOps10 w a len cap) (hb : Below w.heap.size w w') : IsOps10 w' a len cap := by
  obtain ⟨h1, h2⟩ := h
  refine ⟨h1, ?_⟩
  rcases h2 with h2 | ⟨b, off, e, h3, h4, h5, h6⟩
  · exact .inl h2
  · refine .inr ⟨b, off, e, h3, h4, Nat.lt_of_lt_of_le h5 hb.size, fun t ht => ?_⟩
    obtain ⟨k, vA, vB, i, j, l, m, vR, z, hI⟩ := h6 t ht
    exact ⟨k, vA, vB, i, j, l, m, vR, fun y u hu => (hb.cell (p := ⟨b, off + t * 8 + y, none⟩) h5).trans (z y u hu), hI.below hb⟩
set_option maxHeartbeats 8000000 in
set_option maxRecDepth 100000 in
theorem all10_makes (lo hi : Int) (hh : hi ≤ 4) (hP : Plays10 21 lo hi) (a : Option Addr) (len cap : Nat) (w : World) (h : IsOps10 w a len cap) :
    Calls Try.prog 8 #[.slice a len cap, .int .i64 lo, .int .i64 hi] w fun e w' => e = .returned (.bool true) ∧ Below w.heap.size w w' := by
  obtain ⟨hml, h⟩ := h
  unfold maxLen at hml
  have HP : Hid (Plays10 21 lo hi ∧ hi ≤ 4) := ⟨hP, hh⟩
  clear hP hh
  go_enter Try.func8, Try.ntmps8
  go_wp2
  go_loopw [12] (fun x wr => ∃ t : Nat, t ≤ len ∧ x = .int .i64 t ∧ Below w.heap.size w wr) (fun x _ => len - (intOf x).toNat)
  case atStart => exact ⟨0, Nat.zero_le _, rfl, Below.refl _ _⟩
  case round =>
    obtain ⟨t, ht2, rfl, hb⟩ := hrel
    by_cases hlt : t < len
    · rcases h with h | ⟨b, off, rfl, hlc, hcm, hbs, hops⟩
      · exact absurd hlt (by rw [h]; exact Nat.not_lt_zero _)
      · obtain ⟨k, vA, vB, i, j, l, m, vR, hz, hI⟩ := hops t hlt
        have zc : ∀ y u, (cv10 k vA vB i j l m vR)[y]? = some u → wr.cell? ⟨b, off + t * 8 + y, none⟩ = some u := fun y u hu => (hb.cell (p := ⟨b, off + t * 8 + y, none⟩) hbs).trans (hz y u hu)
        have y0 := zc 0 (.int .i64 k) rfl
        have y1 := zc 1 vA rfl
        have y2 := zc 2 vB rfl
        have y3 := zc 3 (.int .i64 i) rfl
        have y4 := zc 4 (.int .i64 j) rfl
        have y5 := zc 5 (.int .i64 l) rfl
        have y6 := zc 6 (.int .i64 m) rfl
        have y7 := zc 7 vR rfl
        simp only [Nat.add_zero] at y0
        have htl : ((t : Nat) : Int) < (len : Int) := Int.ofNat_lt.2 hlt
        have W1 := wrap_succ8 (j := t) (Nat.lt_of_lt_of_le hlt (Nat.le_trans hml (by decide)))
        have bA := balloc10 wr (.cells #[.int .i64 k, vA, vB, .int .i64 i, .int .i64 j, .int .i64 l, .int .i64 m, vR] 29)
        have hbX := bthen10 hb bA
        obtain ⟨X, hX⟩ : ∃ X, X = wr.alloc (.cells #[.int .i64 k, vA, vB, .int .i64 i, .int .i64 j, .int .i64 l, .int .i64 m, vR] 29) := ⟨_, rfl⟩
        rw [← hX] at bA hbX
        have HX : Hid (Below w.heap.size w X) := hbX
        have HB5 : Hid (∀ W, Below X.heap.size X W → Bo10 W wr.heap.size k vA vB i j l m vR) := fun W hW => by rw [hX] at hW; exact bo10_new wr k vA vB i j l m vR hW
        have HE : Hid (X = wr.alloc (.cells #[.int .i64 k, vA, vB, .int .i64 i, .int .i64 j, .int .i64 l, .int .i64 m, vR] 29)) := hX
        have hIX := hI.below hbX
        have c0 := huge10 k vA vB i j l m vR X hIX.a hIX.b
        have HQ : Hid (In10 w vA vB vR j) := hI
        obtain ⟨xA, nA, cA, rfl⟩ := lm_form hI.a
        obtain ⟨xB, nB, cB, rfl⟩ := lm_form hI.b
        obtain ⟨xR, nR, cR, RR, rfl, -⟩ := hI.r
        obtain ⟨b0, b1, b2, b3, b4, b5, b6, b7⟩ := HB5.out X (Below.refl _ _)
        by_cases h1 : k < lo
        · have D1 : decide (k < lo) = true := by simpa using h1
          clear hops hz zc hI hIX h1 bA hbX hb hX c0
          go_wp2
          go_roundw
          case rel => exact ⟨t + 1, hlt, by first | rfl | (rw [W1]; rfl), by first | exact HX.out | (rw [← HE.out]; exact HX.out)⟩
          case measure => first | exact meas_lt8 hlt | (rw [W1]; exact meas_lt8 hlt)
        · have D1 : decide (k < lo) = false := by simpa using h1
          by_cases h2 : hi < k
          · have D2 : decide (hi < k) = true := by simpa using h2
            clear hops hz zc hI hIX h1 h2 bA hbX hb hX c0
            go_wp2
            go_roundw
            case rel => exact ⟨t + 1, hlt, by first | rfl | (rw [W1]; rfl), by first | exact HX.out | (rw [← HE.out]; exact HX.out)⟩
            case measure => first | exact meas_lt8 hlt | (rw [W1]; exact meas_lt8 hlt)
          · have D2 : decide (hi < k) = false := by simpa using h2
            have h4 : k ≤ 4 := Int.le_trans (Int.not_lt.1 h2) HP.out.2
            have D3 : decide (k ≤ 4) = true := by simpa using h4
            have HK : Hid (lo ≤ k ∧ k ≤ hi) := ⟨Int.not_lt.1 h1, Int.not_lt.1 h2⟩
            clear hops hz zc hI hIX h1 h2 h4 bA hbX hb hX
            go_upto_region 4 with (fail)
            rw [← HE.out]
            go_wp2_with (first
              | (go_at_call 9; (with_reducible refine c0.mono ?_); rintro e w2 ⟨bh, rfl, hb2⟩; have H2 : Hid (Below w.heap.size w w2 ∧ Below X.heap.size X w2) := ⟨bthen10 HX.out hb2, hb2⟩; obtain ⟨d0, d1, d2, d3, d4, d5, d6, d7⟩ := HB5.out w2 hb2; clear c0 hb2 b0 b1 b2 b3 b4 b5 b6 b7; cases bh))
            · have c1 := HP.out.1 k _ _ i j l m _ w2 HK.out.1 HK.out.2 (HQ.out.below H2.out.1)
              go_wp2_with (go_at_call 21; ((with_reducible refine (c1).mono ?_); (rintro e w3 ⟨rfl, hb3⟩; have H3 : Hid (Below w.heap.size w w3) := bthen10 H2.out.1 hb3; clear hb3)))
              go_roundw
              case rel => exact ⟨t + 1, hlt, by first | rfl | (rw [W1]; rfl), H3.out⟩
              case measure => first | exact meas_lt8 hlt | (rw [W1]; exact meas_lt8 hlt)
            · go_roundw
              case rel => exact ⟨t + 1, hlt, by first | rfl | (rw [W1]; rfl), H2.out.1⟩
              case measure => first | exact meas_lt8 hlt | (rw [W1]; exact meas_lt8 hlt)
    · have htl : ¬ ((t : Nat) : Int) < (len : Int) := fun e => hlt (Int.ofNat_lt.1 e)
      go_wp2
      go_ret
      exact ⟨rfl, hb⟩
end Go.Proofs.Ytdnhidachdjgaaa
