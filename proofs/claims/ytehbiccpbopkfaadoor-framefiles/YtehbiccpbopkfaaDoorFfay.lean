import Derived.Test.YtehbiccpbopkfaaDoorFfaw
import Derived.Test.YtehbiccpbopkfaaDoorFfam
import Derived.Test.YtehbiccpbopkfaaDoorFfax
namespace Go.Proofs.YtehbiccpbopkfaaDoor
open Go.RowKit Gf2
set_option linter.unusedVariables false

set_option maxHeartbeats 8000000 in
set_option maxRecDepth 100000 in
theorem frameFiles25 (a : Option Addr) (len cap : Nat) (w0 : World) (h0 : IsOps25 w0 a len cap) (hT0 : Fsh w0) :
    Calls Tryd.prog 4 #[.slice a len cap] w0 fun e w' => e = .returned (.bool true) ∧ Below w0.heap.size w0 w' := by
  have c0 := awake25 w0 hT0
  go_enter Tryd.func4, Tryd.ntmps4
  go_upto_region 3 with (go_at_call 5; (with_reducible refine c0.mono ?_); rintro e w ⟨rfl, hbw⟩; have h := h0.below hbw; have hT := hT0.below hbw; have H0 : Hid (Below w0.heap.size w0 w) := hbw; clear hbw h0 hT0 c0)
  obtain ⟨hml, h⟩ := h
  unfold maxLen at hml
  have HT : Hid (Fsh w) := hT
  clear hT
  go_wp2
  go_loopw [9] (fun x wr => ∃ t : Nat, t ≤ len ∧ x = .int .i64 ((t : Nat) : Int) ∧ Below w.heap.size w wr) (fun x _ => len - (intOf x).toNat)
  case atStart => exact ⟨0, Nat.zero_le _, rfl, Below.refl _ _⟩
  case round =>
    obtain ⟨t, ht2, rfl, hb⟩ := hrel
    by_cases hlt : t < len
    · rcases h with h | ⟨b, off, rfl, hlc, hcm, hbs, hops⟩
      · exact absurd hlt (by rw [h]; exact Nat.not_lt_zero _)
      · obtain ⟨K, f, k, m, i, s, l, bb, st, vB, S, hz, hI⟩ := hops t hlt
        have zc : ∀ y u, (cv25 K f k m i s l bb st vB S)[y]? = some u → wr.cell? ⟨b, off + t * 11 + y, none⟩ = some u := fun y u hu => (hb.cell (p := ⟨b, off + t * 11 + y, none⟩) hbs).trans (hz y u hu)
        have hIX := hI.below hb
        obtain ⟨n, F, hR, hV8⟩ := hIX.v
        obtain ⟨aB, cB, rfl⟩ : ∃ aB cB, vB = .slice aB n cB := by obtain ⟨-, -, x, c, e, -⟩ := hR; exact ⟨x, c, e⟩
        have y0 := zc 0 (.int .i64 K) rfl
        have y1 := zc 1 (.int .i64 f) rfl
        have y2 := zc 2 (.int .i64 k) rfl
        have y3 := zc 3 (.int .i64 m) rfl
        have y4 := zc 4 (.int .i64 i) rfl
        have y5 := zc 5 (.int .i64 s) rfl
        have y6 := zc 6 (.int .i64 l) rfl
        have y7 := zc 7 (.int .i64 bb) rfl
        have y8 := zc 8 (.int .u64 (st : Int)) rfl
        have y9 := zc 9 (.slice aB n cB) rfl
        have y10 := zc 10 (.int .u32 (S : Int)) rfl
        simp only [Nat.add_zero] at y0
        have htl : ((t : Nat) : Int) < (len : Int) := Int.ofNat_lt.2 hlt
        have HW1 : Hid (wrap64 (((t : Nat) : Int) + 1) = ((t : Nat) : Int) + 1) := wrap_succ8 (j := t) (Nat.lt_of_lt_of_le hlt (Nat.le_trans hml (by decide)))
        have bA : Below wr.heap.size wr (wr.alloc (.cells #[.int .i64 K, .int .i64 f, .int .i64 k, .int .i64 m, .int .i64 i, .int .i64 s, .int .i64 l, .int .i64 bb, .int .u64 (st : Int), .slice aB n cB, .int .u32 (S : Int)] 30)) := (Below.refl _ _).alloc (Nat.le_refl _) _
        have c1 := plays25 K f k m i s l bb st S aB n cB F _ hI.hk hI.hst hI.hS (hR.below bA) (by omega) ((HT.out.below hb).below bA)
        have HX : Hid (t < len ∧ Below w.heap.size w (wr.alloc (.cells #[.int .i64 K, .int .i64 f, .int .i64 k, .int .i64 m, .int .i64 i, .int .i64 s, .int .i64 l, .int .i64 bb, .int .u64 (st : Int), .slice aB n cB, .int .u32 (S : Int)] 30))) := ⟨hlt, hb.trans (bA.mono hb.size)⟩
        obtain ⟨x0, x1, x2, x3, x4, x5, x6, x7, x8, x9, x10⟩ := zcells25 (heap_alloc_new wr (.cells #[.int .i64 K, .int .i64 f, .int .i64 k, .int .i64 m, .int .i64 i, .int .i64 s, .int .i64 l, .int .i64 bb, .int .u64 (st : Int), .slice aB n cB, .int .u32 (S : Int)] 30))
        clear hops hz zc hI hIX hR hV8 bA hb hlt ht2
        have W1 := HW1.out
        go_wp2_with (go_at_call 6; (with_reducible refine c1.mono ?_); rintro e w9 ⟨rfl, b9⟩; have HY : Hid (Below w.heap.size w w9) := HX.out.2.trans (b9.mono HX.out.2.size); clear c1 b9)
        go_roundw
        case rel => exact ⟨t + 1, HX.out.1, by first | rfl | (rw [W1]; rfl), HY.out⟩
        case measure => first | exact meas_lt8 HX.out.1 | (rw [W1]; exact meas_lt8 HX.out.1)
    · have hin : t = len := by omega
      have htl : ¬ ((t : Nat) : Int) < (len : Int) := by omega
      have HF : Hid (Below w0.heap.size w0 wr) := H0.out.trans (hb.mono H0.out.size)
      clear h hb hlt ht2 hin
      go_wp2
      go_ret
      exact ⟨rfl, HF.out⟩
end Go.Proofs.YtehbiccpbopkfaaDoor
