import Derived.Test.YtidcdbjhkgpjcaaDoorTj5
import Derived.Test.YtidcdbjhkgpjcaaDoorLop
namespace Go.Proofs.YtidcdbjhkgpjcaaDoor
open Go.RowKit Gf2
set_option linter.unusedVariables false

/-- what the two halves answer of every step. -/
def Plays13 (lo hi : Int) : Prop := ∀ (k i j : Int) (x : Nat) (d : Option Addr) (n c : Nat) (W : World), lo ≤ k → k ≤ hi → x < 65536 → Bm13 W (.slice d n c) → Cant W → Tzt W →
  (k ≤ 4 → Calls Tryd.prog 6 #[.agg #[.int .i64 k, .int .i64 i, .int .i64 j, .int .u16 (x : Int), .slice d n c]] W fun e w' => e = .returned (.bool true) ∧ Below W.heap.size W w') ∧
  (4 < k → Calls Tryd.prog 7 #[.agg #[.int .i64 k, .int .i64 i, .int .i64 j, .int .u16 (x : Int), .slice d n c]] W fun e w' => e = .returned (.bool true) ∧ Below W.heap.size W w')
set_option maxHeartbeats 8000000 in
set_option maxRecDepth 100000 in
theorem all13 (lo hi : Int) (hP : Plays13 lo hi) (a : Option Addr) (len cap : Nat) (w : World) (h : IsOps13 w a len cap) (hC : Cant w) (hT : Tzt w) :
    Calls Tryd.prog 4 #[.slice a len cap, .int .i64 lo, .int .i64 hi] w fun e w' => e = .returned (.bool true) ∧ Below w.heap.size w w' := by
  obtain ⟨hml, h⟩ := h
  unfold maxLen at hml
  have c0 := awake13 w hC hT
  have HP : Hid (Plays13 lo hi) := hP
  have HK : Hid (Cant w ∧ Tzt w) := ⟨hC, hT⟩
  clear hP hC hT
  go_enter Tryd.func4, Tryd.ntmps4
  go_wp2_with (go_at_call 5; ((with_reducible refine (c0).mono ?_); (rintro e w1 ⟨rfl, hb1⟩)))
  have H1 : Hid (Below w.heap.size w w1) := hb1
  clear hb1 c0
  go_loopw [13] (fun x wr => ∃ t : Nat, t ≤ len ∧ x = .int .i64 t ∧ Below w.heap.size w wr) (fun x _ => len - (intOf x).toNat)
  case atStart => exact ⟨0, Nat.zero_le _, rfl, H1.out⟩
  case round =>
    obtain ⟨t, ht2, rfl, hb⟩ := hrel
    by_cases hlt : t < len
    · rcases h with h | ⟨b, off, rfl, hlc, hcm, hbs, hops⟩
      · exact absurd hlt (by rw [h]; exact Nat.not_lt_zero _)
      · obtain ⟨k, i, j, x, v, hz, hx, hv⟩ := hops t hlt
        obtain ⟨d, n, c, rfl⟩ := hv.form
        have zc : ∀ y u, (cv13 k i j x (.slice d n c))[y]? = some u → wr.cell? ⟨b, off + t * 5 + y, none⟩ = some u := fun y u hu => (hb.cell (p := ⟨b, off + t * 5 + y, none⟩) hbs).trans (hz y u hu)
        have y0 := zc 0 (.int .i64 k) rfl
        have y1 := zc 1 (.int .i64 i) rfl
        have y2 := zc 2 (.int .i64 j) rfl
        have y3 := zc 3 (.int .u16 (x : Int)) rfl
        have y4 := zc 4 (.slice d n c) rfl
        simp only [Nat.add_zero] at y0
        have htl : ((t : Nat) : Int) < (len : Int) := Int.ofNat_lt.2 hlt
        have W1 := wrap_succ8 (j := t) (Nat.lt_of_lt_of_le hlt (Nat.le_trans hml (by decide)))
        have bA := below_alloc wr (.cells #[.int .i64 k, .int .i64 i, .int .i64 j, .int .u16 (x : Int), .slice d n c] 29)
        have hbX := bthen13 hb bA
        have HX : Hid (Below w.heap.size w (wr.alloc (.cells #[.int .i64 k, .int .i64 i, .int .i64 j, .int .u16 (x : Int), .slice d n c] 29))) := hbX
        have HB5 : Hid (∀ W, Below (wr.alloc (.cells #[.int .i64 k, .int .i64 i, .int .i64 j, .int .u16 (x : Int), .slice d n c] 29)).heap.size (wr.alloc (.cells #[.int .i64 k, .int .i64 i, .int .i64 j, .int .u16 (x : Int), .slice d n c] 29)) W → W.cell? ⟨wr.heap.size, 0, none⟩ = some (.int .i64 k)) := fun W hW => by
          rw [hW.cell (p := ⟨wr.heap.size, 0, none⟩) (by simp), cell_of_row _ _ _ _ _ _ (heap_alloc_new _ _)]
          rfl
        by_cases h1 : k < lo
        · have D1 : decide (k < lo) = true := by simpa using h1
          clear hops hz zc hv h1 bA hbX hb
          go_wp2
          go_roundw
          case rel => exact ⟨t + 1, hlt, by first | rfl | (rw [W1]; rfl), HX.out⟩
          case measure => first | exact meas_lt8 hlt | (rw [W1]; exact meas_lt8 hlt)
        · have D1 : decide (k < lo) = false := by simpa using h1
          by_cases h2 : hi < k
          · have D2 : decide (hi < k) = true := by simpa using h2
            clear hops hz zc hv h1 h2 bA hbX hb
            go_wp2
            go_roundw
            case rel => exact ⟨t + 1, hlt, by first | rfl | (rw [W1]; rfl), HX.out⟩
            case measure => first | exact meas_lt8 hlt | (rw [W1]; exact meas_lt8 hlt)
          · have D2 : decide (hi < k) = false := by simpa using h2
            have hp := HP.out k i j x d n c _ (Int.not_lt.1 h1) (Int.not_lt.1 h2) hx (hv.below hbX) (HK.out.1.below hbX) (HK.out.2.below hbX)
            by_cases h4 : k ≤ 4
            · have D3 : decide (k ≤ 4) = true := by simpa using h4
              have D4 : decide (4 < k) = false := by simpa using h4
              have c1 := hp.1 h4
              clear hops hz zc hv h1 h2 h4 bA hbX hb hp
              go_wp2_with (go_at_call 6; ((with_reducible refine (c1).mono ?_); (rintro e w3 ⟨rfl, hb3⟩; have y5 := HB5.out w3 hb3; have H3 : Hid (Below w.heap.size w w3) := bthen13 HX.out hb3; clear hb3)))
              go_roundw
              case rel => exact ⟨t + 1, hlt, by first | rfl | (rw [W1]; rfl), H3.out⟩
              case measure => first | exact meas_lt8 hlt | (rw [W1]; exact meas_lt8 hlt)
            · have D3 : decide (k ≤ 4) = false := by simpa using h4
              have D4 : decide (4 < k) = true := by simp; omega
              have c1 := hp.2 (Int.not_le.1 h4)
              clear hops hz zc hv h1 h2 h4 bA hbX hb hp
              go_wp2_with (go_at_call 7; ((with_reducible refine (c1).mono ?_); (rintro e w3 ⟨rfl, hb3⟩; have H3 : Hid (Below w.heap.size w w3) := bthen13 HX.out hb3; clear hb3)))
              go_roundw
              case rel => exact ⟨t + 1, hlt, by first | rfl | (rw [W1]; rfl), H3.out⟩
              case measure => first | exact meas_lt8 hlt | (rw [W1]; exact meas_lt8 hlt)
    · have htl : ¬ ((t : Nat) : Int) < (len : Int) := fun e => hlt (Int.ofNat_lt.1 e)
      go_wp2
      go_ret
      exact ⟨rfl, hb⟩
end Go.Proofs.YtidcdbjhkgpjcaaDoor
