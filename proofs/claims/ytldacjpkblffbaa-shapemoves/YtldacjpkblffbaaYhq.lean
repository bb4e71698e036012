import Derived.Test.YtldacjpkblffbaaYhp
namespace Go.Proofs.Ytldacjpkblffbaa
open Go.RowKit Gf2
set_option linter.unusedVariables false

-- layer 16: all (laid by wip/genyhq.py)
/-- what is answered of every step of the kinds lo to hi, by the function g. -/
def Plays16 (g : Nat) (lo hi : Int) : Prop := ∀ (k f K m n : Int) (vS vF vD : Value) (W : World), lo ≤ k → k ≤ hi → In16 W k f K m n vS vF vD →
  Calls Try.prog g #[.agg #[.int .i64 k, .int .i64 f, .int .i64 K, .int .i64 m, .int .i64 n, vS, vF, vD]] W fun e w' => e = .returned (.bool true) ∧ Below W.heap.size W w'
set_option maxHeartbeats 8000000 in
set_option maxRecDepth 100000 in
theorem all16_numbers (lo hi : Int) (hh : hi ≤ 4) (hP : Plays16 15 lo hi) (a : Option Addr) (len cap : Nat) (w0 : World) (h0 : IsOps16 w0 a len cap) :
    Calls Try.prog 11 #[.slice a len cap, .int .i64 lo, .int .i64 hi] w0 fun e w' => e = .returned (.bool true) ∧ Below w0.heap.size w0 w' := by
  have HP : Hid (Plays16 15 lo hi ∧ (hi ≤ 4)) := ⟨hP, hh⟩
  clear hP hh
  have c0 := awake16 w0
  go_enter Try.func11, Try.ntmps11
  go_wp2_with (go_at_call 10; ((with_reducible refine (c0).mono ?_); (rintro e w ⟨rfl, hbw⟩; have h := h0.below hbw; have H0 : Hid (Below w0.heap.size w0 w) := hbw; clear hbw h0 c0)))
  obtain ⟨hml, h⟩ := h
  unfold maxLen at hml
  go_loopw [14] (fun x wr => ∃ t : Nat, t ≤ len ∧ x = .int .i64 t ∧ Below w.heap.size w wr) (fun x _ => len - (intOf x).toNat)
  case atStart => exact ⟨0, Nat.zero_le _, rfl, Below.refl _ _⟩
  case round =>
    obtain ⟨t, ht2, rfl, hb⟩ := hrel
    by_cases hlt : t < len
    · rcases h with h | ⟨b, off, rfl, hlc, hcm, hbs, hops⟩
      · exact absurd hlt (by rw [h]; exact Nat.not_lt_zero _)
      · obtain ⟨k, f, K, m, n, vS, vF, vD, hz, hI⟩ := hops t hlt
        have zc : ∀ y u, (cv16 k f K m n vS vF vD)[y]? = some u → wr.cell? ⟨b, off + t * 8 + y, none⟩ = some u := fun y u hu => (hb.cell (p := ⟨b, off + t * 8 + y, none⟩) hbs).trans (hz y u hu)
        have y0 := zc 0 (.int .i64 k) rfl
        have y1 := zc 1 (.int .i64 f) rfl
        have y2 := zc 2 (.int .i64 K) rfl
        have y3 := zc 3 (.int .i64 m) rfl
        have y4 := zc 4 (.int .i64 n) rfl
        have y5 := zc 5 vS rfl
        have y6 := zc 6 vF rfl
        have y7 := zc 7 vD rfl
        simp only [Nat.add_zero] at y0
        have htl : ((t : Nat) : Int) < (len : Int) := Int.ofNat_lt.2 hlt
        have W1 := wrap_succ8 (j := t) (Nat.lt_of_lt_of_le hlt (Nat.le_trans hml (by decide)))
        have bA := balloc16 wr (.cells #[.int .i64 k, .int .i64 f, .int .i64 K, .int .i64 m, .int .i64 n, vS, vF, vD] 41)
        have hbX := bthen16 hb bA
        obtain ⟨X, hX⟩ : ∃ X, X = wr.alloc (.cells #[.int .i64 k, .int .i64 f, .int .i64 K, .int .i64 m, .int .i64 n, vS, vF, vD] 41) := ⟨_, rfl⟩
        rw [← hX] at bA hbX
        have HX : Hid (Below w.heap.size w X) := hbX
        have HB5 : Hid (∀ W, Below X.heap.size X W → Bo16 W wr.heap.size k f K m n vS vF vD) := fun W hW => by rw [hX] at hW; exact bo16_new wr k f K m n vS vF vD hW
        have HE : Hid (X = wr.alloc (.cells #[.int .i64 k, .int .i64 f, .int .i64 K, .int .i64 m, .int .i64 n, vS, vF, vD] 41)) := hX
        have hIX := hI.below hbX
        obtain ⟨xS, nS, cS, rfl⟩ := lm16_form hI.s
        obtain ⟨xF, nF, cF, rfl⟩ := lm16_form hI.f
        obtain ⟨xD, nD, cD, rfl⟩ := bm16_form hI.d
        obtain ⟨b0, b1, b2, b3, b4, b5, b6, b7⟩ := HB5.out X (Below.refl _ _)
        by_cases h1 : k < lo
        · have D1 : decide (k < lo) = true := by simpa using h1
          clear hops hz zc hI hIX h1 bA hbX hb hX
          go_wp2
          go_roundw
          case rel => exact ⟨t + 1, hlt, by first | rfl | (rw [W1]; rfl), by first | exact HX.out | (rw [← HE.out]; exact HX.out)⟩
          case measure => first | exact meas_lt8 hlt | (rw [W1]; exact meas_lt8 hlt)
        · have D1 : decide (k < lo) = false := by simpa using h1
          by_cases h2 : hi < k
          · have D2 : decide (hi < k) = true := by simpa using h2
            clear hops hz zc hI hIX h1 h2 bA hbX hb hX
            go_wp2
            go_roundw
            case rel => exact ⟨t + 1, hlt, by first | rfl | (rw [W1]; rfl), by first | exact HX.out | (rw [← HE.out]; exact HX.out)⟩
            case measure => first | exact meas_lt8 hlt | (rw [W1]; exact meas_lt8 hlt)
          · have D2 : decide (hi < k) = false := by simpa using h2
            have D3 : decide (k ≤ 4) = true := by simp; have := HP.out.2; omega
            have c1 := HP.out.1 k f K m n _ _ _ X (Int.not_lt.1 h1) (Int.not_lt.1 h2) hIX
            rw [hX] at c1
            clear hops hz zc hI hIX h1 h2 bA hbX hb
            rw [hX] at b0 b1 b2 b3 b4 b5 b6 b7
            clear hX
            go_wp2_with (go_at_call 15; ((with_reducible refine (c1).mono ?_); (rintro e w3 ⟨rfl, hb3⟩; have H3 : Hid (Below w.heap.size w w3) := bthen16 HX.out (by rw [HE.out]; exact hb3); clear hb3)))
            go_roundw
            case rel => exact ⟨t + 1, hlt, by first | rfl | (rw [W1]; rfl), H3.out⟩
            case measure => first | exact meas_lt8 hlt | (rw [W1]; exact meas_lt8 hlt)
    · have htl : ¬ ((t : Nat) : Int) < (len : Int) := fun e => hlt (Int.ofNat_lt.1 e)
      go_wp2
      go_ret
      exact ⟨rfl, bthen16 H0.out hb⟩
set_option maxHeartbeats 8000000 in
set_option maxRecDepth 100000 in
theorem all16_tables (lo hi : Int) (hh : 4 < lo ∧ hi ≤ 7) (hP : Plays16 16 lo hi) (a : Option Addr) (len cap : Nat) (w0 : World) (h0 : IsOps16 w0 a len cap) :
    Calls Try.prog 11 #[.slice a len cap, .int .i64 lo, .int .i64 hi] w0 fun e w' => e = .returned (.bool true) ∧ Below w0.heap.size w0 w' := by
  have HP : Hid (Plays16 16 lo hi ∧ (4 < lo ∧ hi ≤ 7)) := ⟨hP, hh⟩
  clear hP hh
  have c0 := awake16 w0
  go_enter Try.func11, Try.ntmps11
  go_wp2_with (go_at_call 10; ((with_reducible refine (c0).mono ?_); (rintro e w ⟨rfl, hbw⟩; have h := h0.below hbw; have H0 : Hid (Below w0.heap.size w0 w) := hbw; clear hbw h0 c0)))
  obtain ⟨hml, h⟩ := h
  unfold maxLen at hml
  go_loopw [14] (fun x wr => ∃ t : Nat, t ≤ len ∧ x = .int .i64 t ∧ Below w.heap.size w wr) (fun x _ => len - (intOf x).toNat)
  case atStart => exact ⟨0, Nat.zero_le _, rfl, Below.refl _ _⟩
  case round =>
    obtain ⟨t, ht2, rfl, hb⟩ := hrel
    by_cases hlt : t < len
    · rcases h with h | ⟨b, off, rfl, hlc, hcm, hbs, hops⟩
      · exact absurd hlt (by rw [h]; exact Nat.not_lt_zero _)
      · obtain ⟨k, f, K, m, n, vS, vF, vD, hz, hI⟩ := hops t hlt
        have zc : ∀ y u, (cv16 k f K m n vS vF vD)[y]? = some u → wr.cell? ⟨b, off + t * 8 + y, none⟩ = some u := fun y u hu => (hb.cell (p := ⟨b, off + t * 8 + y, none⟩) hbs).trans (hz y u hu)
        have y0 := zc 0 (.int .i64 k) rfl
        have y1 := zc 1 (.int .i64 f) rfl
        have y2 := zc 2 (.int .i64 K) rfl
        have y3 := zc 3 (.int .i64 m) rfl
        have y4 := zc 4 (.int .i64 n) rfl
        have y5 := zc 5 vS rfl
        have y6 := zc 6 vF rfl
        have y7 := zc 7 vD rfl
        simp only [Nat.add_zero] at y0
        have htl : ((t : Nat) : Int) < (len : Int) := Int.ofNat_lt.2 hlt
        have W1 := wrap_succ8 (j := t) (Nat.lt_of_lt_of_le hlt (Nat.le_trans hml (by decide)))
        have bA := balloc16 wr (.cells #[.int .i64 k, .int .i64 f, .int .i64 K, .int .i64 m, .int .i64 n, vS, vF, vD] 41)
        have hbX := bthen16 hb bA
        obtain ⟨X, hX⟩ : ∃ X, X = wr.alloc (.cells #[.int .i64 k, .int .i64 f, .int .i64 K, .int .i64 m, .int .i64 n, vS, vF, vD] 41) := ⟨_, rfl⟩
        rw [← hX] at bA hbX
        have HX : Hid (Below w.heap.size w X) := hbX
        have HB5 : Hid (∀ W, Below X.heap.size X W → Bo16 W wr.heap.size k f K m n vS vF vD) := fun W hW => by rw [hX] at hW; exact bo16_new wr k f K m n vS vF vD hW
        have HE : Hid (X = wr.alloc (.cells #[.int .i64 k, .int .i64 f, .int .i64 K, .int .i64 m, .int .i64 n, vS, vF, vD] 41)) := hX
        have hIX := hI.below hbX
        obtain ⟨xS, nS, cS, rfl⟩ := lm16_form hI.s
        obtain ⟨xF, nF, cF, rfl⟩ := lm16_form hI.f
        obtain ⟨xD, nD, cD, rfl⟩ := bm16_form hI.d
        obtain ⟨b0, b1, b2, b3, b4, b5, b6, b7⟩ := HB5.out X (Below.refl _ _)
        by_cases h1 : k < lo
        · have D1 : decide (k < lo) = true := by simpa using h1
          clear hops hz zc hI hIX h1 bA hbX hb hX
          go_wp2
          go_roundw
          case rel => exact ⟨t + 1, hlt, by first | rfl | (rw [W1]; rfl), by first | exact HX.out | (rw [← HE.out]; exact HX.out)⟩
          case measure => first | exact meas_lt8 hlt | (rw [W1]; exact meas_lt8 hlt)
        · have D1 : decide (k < lo) = false := by simpa using h1
          by_cases h2 : hi < k
          · have D2 : decide (hi < k) = true := by simpa using h2
            clear hops hz zc hI hIX h1 h2 bA hbX hb hX
            go_wp2
            go_roundw
            case rel => exact ⟨t + 1, hlt, by first | rfl | (rw [W1]; rfl), by first | exact HX.out | (rw [← HE.out]; exact HX.out)⟩
            case measure => first | exact meas_lt8 hlt | (rw [W1]; exact meas_lt8 hlt)
          · have D2 : decide (hi < k) = false := by simpa using h2
            have D3 : decide (k ≤ 4) = false := by simp; have := HP.out.2; omega
            have D4 : decide (k ≤ 7) = true := by simp; have := HP.out.2; omega
            have c1 := HP.out.1 k f K m n _ _ _ X (Int.not_lt.1 h1) (Int.not_lt.1 h2) hIX
            rw [hX] at c1
            clear hops hz zc hI hIX h1 h2 bA hbX hb
            rw [hX] at b0 b1 b2 b3 b4 b5 b6 b7
            clear hX
            go_wp2_with (go_at_call 16; ((with_reducible refine (c1).mono ?_); (rintro e w3 ⟨rfl, hb3⟩; have H3 : Hid (Below w.heap.size w w3) := bthen16 HX.out (by rw [HE.out]; exact hb3); clear hb3)))
            go_roundw
            case rel => exact ⟨t + 1, hlt, by first | rfl | (rw [W1]; rfl), H3.out⟩
            case measure => first | exact meas_lt8 hlt | (rw [W1]; exact meas_lt8 hlt)
    · have htl : ¬ ((t : Nat) : Int) < (len : Int) := fun e => hlt (Int.ofNat_lt.1 e)
      go_wp2
      go_ret
      exact ⟨rfl, bthen16 H0.out hb⟩
set_option maxHeartbeats 8000000 in
set_option maxRecDepth 100000 in
theorem all16_moves (lo hi : Int) (hh : 7 < lo) (hP : Plays16 17 lo hi) (a : Option Addr) (len cap : Nat) (w0 : World) (h0 : IsOps16 w0 a len cap) :
    Calls Try.prog 11 #[.slice a len cap, .int .i64 lo, .int .i64 hi] w0 fun e w' => e = .returned (.bool true) ∧ Below w0.heap.size w0 w' := by
  have HP : Hid (Plays16 17 lo hi ∧ (7 < lo)) := ⟨hP, hh⟩
  clear hP hh
  have c0 := awake16 w0
  go_enter Try.func11, Try.ntmps11
  go_wp2_with (go_at_call 10; ((with_reducible refine (c0).mono ?_); (rintro e w ⟨rfl, hbw⟩; have h := h0.below hbw; have H0 : Hid (Below w0.heap.size w0 w) := hbw; clear hbw h0 c0)))
  obtain ⟨hml, h⟩ := h
  unfold maxLen at hml
  go_loopw [14] (fun x wr => ∃ t : Nat, t ≤ len ∧ x = .int .i64 t ∧ Below w.heap.size w wr) (fun x _ => len - (intOf x).toNat)
  case atStart => exact ⟨0, Nat.zero_le _, rfl, Below.refl _ _⟩
  case round =>
    obtain ⟨t, ht2, rfl, hb⟩ := hrel
    by_cases hlt : t < len
    · rcases h with h | ⟨b, off, rfl, hlc, hcm, hbs, hops⟩
      · exact absurd hlt (by rw [h]; exact Nat.not_lt_zero _)
      · obtain ⟨k, f, K, m, n, vS, vF, vD, hz, hI⟩ := hops t hlt
        have zc : ∀ y u, (cv16 k f K m n vS vF vD)[y]? = some u → wr.cell? ⟨b, off + t * 8 + y, none⟩ = some u := fun y u hu => (hb.cell (p := ⟨b, off + t * 8 + y, none⟩) hbs).trans (hz y u hu)
        have y0 := zc 0 (.int .i64 k) rfl
        have y1 := zc 1 (.int .i64 f) rfl
        have y2 := zc 2 (.int .i64 K) rfl
        have y3 := zc 3 (.int .i64 m) rfl
        have y4 := zc 4 (.int .i64 n) rfl
        have y5 := zc 5 vS rfl
        have y6 := zc 6 vF rfl
        have y7 := zc 7 vD rfl
        simp only [Nat.add_zero] at y0
        have htl : ((t : Nat) : Int) < (len : Int) := Int.ofNat_lt.2 hlt
        have W1 := wrap_succ8 (j := t) (Nat.lt_of_lt_of_le hlt (Nat.le_trans hml (by decide)))
        have bA := balloc16 wr (.cells #[.int .i64 k, .int .i64 f, .int .i64 K, .int .i64 m, .int .i64 n, vS, vF, vD] 41)
        have hbX := bthen16 hb bA
        obtain ⟨X, hX⟩ : ∃ X, X = wr.alloc (.cells #[.int .i64 k, .int .i64 f, .int .i64 K, .int .i64 m, .int .i64 n, vS, vF, vD] 41) := ⟨_, rfl⟩
        rw [← hX] at bA hbX
        have HX : Hid (Below w.heap.size w X) := hbX
        have HB5 : Hid (∀ W, Below X.heap.size X W → Bo16 W wr.heap.size k f K m n vS vF vD) := fun W hW => by rw [hX] at hW; exact bo16_new wr k f K m n vS vF vD hW
        have HE : Hid (X = wr.alloc (.cells #[.int .i64 k, .int .i64 f, .int .i64 K, .int .i64 m, .int .i64 n, vS, vF, vD] 41)) := hX
        have hIX := hI.below hbX
        obtain ⟨xS, nS, cS, rfl⟩ := lm16_form hI.s
        obtain ⟨xF, nF, cF, rfl⟩ := lm16_form hI.f
        obtain ⟨xD, nD, cD, rfl⟩ := bm16_form hI.d
        obtain ⟨b0, b1, b2, b3, b4, b5, b6, b7⟩ := HB5.out X (Below.refl _ _)
        by_cases h1 : k < lo
        · have D1 : decide (k < lo) = true := by simpa using h1
          clear hops hz zc hI hIX h1 bA hbX hb hX
          go_wp2
          go_roundw
          case rel => exact ⟨t + 1, hlt, by first | rfl | (rw [W1]; rfl), by first | exact HX.out | (rw [← HE.out]; exact HX.out)⟩
          case measure => first | exact meas_lt8 hlt | (rw [W1]; exact meas_lt8 hlt)
        · have D1 : decide (k < lo) = false := by simpa using h1
          by_cases h2 : hi < k
          · have D2 : decide (hi < k) = true := by simpa using h2
            clear hops hz zc hI hIX h1 h2 bA hbX hb hX
            go_wp2
            go_roundw
            case rel => exact ⟨t + 1, hlt, by first | rfl | (rw [W1]; rfl), by first | exact HX.out | (rw [← HE.out]; exact HX.out)⟩
            case measure => first | exact meas_lt8 hlt | (rw [W1]; exact meas_lt8 hlt)
          · have D2 : decide (hi < k) = false := by simpa using h2
            have D3 : decide (k ≤ 4) = false := by simp; have := HP.out.2; omega
            have D4 : decide (k ≤ 7) = false := by simp; have := HP.out.2; omega
            have c1 := HP.out.1 k f K m n _ _ _ X (Int.not_lt.1 h1) (Int.not_lt.1 h2) hIX
            rw [hX] at c1
            clear hops hz zc hI hIX h1 h2 bA hbX hb
            rw [hX] at b0 b1 b2 b3 b4 b5 b6 b7
            clear hX
            go_wp2_with (go_at_call 17; ((with_reducible refine (c1).mono ?_); (rintro e w3 ⟨rfl, hb3⟩; have H3 : Hid (Below w.heap.size w w3) := bthen16 HX.out (by rw [HE.out]; exact hb3); clear hb3)))
            go_roundw
            case rel => exact ⟨t + 1, hlt, by first | rfl | (rw [W1]; rfl), H3.out⟩
            case measure => first | exact meas_lt8 hlt | (rw [W1]; exact meas_lt8 hlt)
    · have htl : ¬ ((t : Nat) : Int) < (len : Int) := fun e => hlt (Int.ofNat_lt.1 e)
      go_wp2
      go_ret
      exact ⟨rfl, bthen16 H0.out hb⟩
end Go.Proofs.Ytldacjpkblffbaa
