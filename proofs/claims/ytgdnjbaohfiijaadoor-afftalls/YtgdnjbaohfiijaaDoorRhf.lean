import Derived.Test.YtgdnjbaohfiijaaDoorRj8
import Derived.Test.YtgdnjbaohfiijaaDoorRj4
import Derived.Test.YtgdnjbaohfiijaaDoorAj6
namespace Go.Proofs.YtgdnjbaohfiijaaDoor
open Go.RowKit Gf2
set_option linter.unusedVariables false

-- layer 14: one (laid by wip/genrhe.py)
set_option maxHeartbeats 2000000 in
set_option maxRecDepth 100000 in
theorem one14_rows_fwd (d : Option Addr) (nd cd : Nat) (A : Option Addr) (nr cr : Nat) (s N : Int) (w : World) (hC : Cab w) (hT : Tzt w) (hv : Bm14 w (.slice d nd cd)) (hR : Rm14 w (.slice A nr cr)) (hN : (Lit.int .i64 N).wf = true) :
    Calls Tryd.prog 7 #[.agg #[.int .i64 3, .slice d nd cd, .slice A nr cr, .int .i64 s, .int .i64 N]] w fun e w' => e = .returned (.bool true) ∧ Below w.heap.size w w' := by
  obtain ⟨a', n', c', F, e0, hq, hn⟩ := hv
  cases e0
  obtain ⟨W0, hW0⟩ : ∃ W0, W0 = w.alloc (.cells #[.int .i64 3, .slice d nd cd, .slice A nr cr, .int .i64 s, .int .i64 N] 29) := ⟨_, rfl⟩
  have a0 : Below w.heap.size w W0 := by rw [hW0]; exact below_alloc _ _
  obtain ⟨g0, hg0⟩ : ∃ g0, g0 = w.heap.size := ⟨_, rfl⟩
  have HB : Hid (∀ W, Below W0.heap.size W0 W → W.cell? ⟨g0, 0, none⟩ = some (.int .i64 3) ∧ W.cell? ⟨g0, 1, none⟩ = some (.slice d nd cd) ∧ W.cell? ⟨g0, 2, none⟩ = some (.slice A nr cr) ∧ W.cell? ⟨g0, 3, none⟩ = some (.int .i64 s) ∧ W.cell? ⟨g0, 4, none⟩ = some (.int .i64 N)) := fun W hW => by
    have lt : g0 < W0.heap.size := by rw [hW0, hg0]; simp
    have hh : W0.heap[g0]? = some (.cells #[.int .i64 3, .slice d nd cd, .slice A nr cr, .int .i64 s, .int .i64 N] 29) := by rw [hW0, hg0]; exact heap_alloc_new _ _
    refine ⟨?_, ?_, ?_, ?_, ?_⟩
    · rw [hW.cell (p := ⟨g0, 0, none⟩) lt, cell_of_row _ _ _ _ _ _ hh]; rfl
    · rw [hW.cell (p := ⟨g0, 1, none⟩) lt, cell_of_row _ _ _ _ _ _ hh]; rfl
    · rw [hW.cell (p := ⟨g0, 2, none⟩) lt, cell_of_row _ _ _ _ _ _ hh]; rfl
    · rw [hW.cell (p := ⟨g0, 3, none⟩) lt, cell_of_row _ _ _ _ _ _ hh]; rfl
    · rw [hW.cell (p := ⟨g0, 4, none⟩) lt, cell_of_row _ _ _ _ _ _ hh]; rfl
  obtain ⟨w1, g1, C1, F1, run1, hC1, hg1, hR1, hF1, hb1⟩ := app_lit14 W0 (hq.below a0) (lens14 hn).1
  have b01 := bthen13 a0 hb1
  obtain ⟨-, y1, -⟩ := HB.out (W0.alloc (.cells #[] 34)) (below_alloc _ _)
  obtain ⟨x0, x1, x2, x3, x4⟩ := HB.out w1 hb1
  have c1 := inPlace14_fwd d nd cd A nr cr s N w1 (hC.below b01) (hT.below b01) (hR.below b01)
  have HG : Hid (g0 = w.heap.size) := hg0
  have HW : Hid (W0 = w.alloc (.cells #[.int .i64 3, .slice d nd cd, .slice A nr cr, .int .i64 s, .int .i64 N] 29)) := hW0
  have H1 : Hid (Below w.heap.size w w1) := b01
  clear hC hT hR hN hq hn a0 hg0 hW0 hC1 hg1 hR1 hF1 hb1 b01
  go_enter Tryd.func7, Tryd.ntmps7
  go_upto_region 1 with (fail)
  rw [← HG.out, ← HW.out]
  go_wp2_with (first
    | (at_builtin; refine Lib.wpList_append_run _ rfl _ _ _ _ rfl _ _ rfl rfl _ _ run1 ?_)
    | (go_at_call 15; (with_reducible refine c1.mono ?_); rintro e w2 ⟨rfl, b2⟩))
  go_ret
  exact ⟨rfl, bthen13 H1.out b2⟩
set_option maxHeartbeats 2000000 in
set_option maxRecDepth 100000 in
theorem one14_rows_inv (d : Option Addr) (nd cd : Nat) (A : Option Addr) (nr cr : Nat) (s N : Int) (w : World) (hC : Cab w) (hT : Tzt w) (hv : Bm14 w (.slice d nd cd)) (hR : Rm14 w (.slice A nr cr)) (hN : (Lit.int .i64 N).wf = true) :
    Calls Tryd.prog 7 #[.agg #[.int .i64 4, .slice d nd cd, .slice A nr cr, .int .i64 s, .int .i64 N]] w fun e w' => e = .returned (.bool true) ∧ Below w.heap.size w w' := by
  obtain ⟨a', n', c', F, e0, hq, hn⟩ := hv
  cases e0
  obtain ⟨W0, hW0⟩ : ∃ W0, W0 = w.alloc (.cells #[.int .i64 4, .slice d nd cd, .slice A nr cr, .int .i64 s, .int .i64 N] 29) := ⟨_, rfl⟩
  have a0 : Below w.heap.size w W0 := by rw [hW0]; exact below_alloc _ _
  obtain ⟨g0, hg0⟩ : ∃ g0, g0 = w.heap.size := ⟨_, rfl⟩
  have HB : Hid (∀ W, Below W0.heap.size W0 W → W.cell? ⟨g0, 0, none⟩ = some (.int .i64 4) ∧ W.cell? ⟨g0, 1, none⟩ = some (.slice d nd cd) ∧ W.cell? ⟨g0, 2, none⟩ = some (.slice A nr cr) ∧ W.cell? ⟨g0, 3, none⟩ = some (.int .i64 s) ∧ W.cell? ⟨g0, 4, none⟩ = some (.int .i64 N)) := fun W hW => by
    have lt : g0 < W0.heap.size := by rw [hW0, hg0]; simp
    have hh : W0.heap[g0]? = some (.cells #[.int .i64 4, .slice d nd cd, .slice A nr cr, .int .i64 s, .int .i64 N] 29) := by rw [hW0, hg0]; exact heap_alloc_new _ _
    refine ⟨?_, ?_, ?_, ?_, ?_⟩
    · rw [hW.cell (p := ⟨g0, 0, none⟩) lt, cell_of_row _ _ _ _ _ _ hh]; rfl
    · rw [hW.cell (p := ⟨g0, 1, none⟩) lt, cell_of_row _ _ _ _ _ _ hh]; rfl
    · rw [hW.cell (p := ⟨g0, 2, none⟩) lt, cell_of_row _ _ _ _ _ _ hh]; rfl
    · rw [hW.cell (p := ⟨g0, 3, none⟩) lt, cell_of_row _ _ _ _ _ _ hh]; rfl
    · rw [hW.cell (p := ⟨g0, 4, none⟩) lt, cell_of_row _ _ _ _ _ _ hh]; rfl
  obtain ⟨w1, g1, C1, F1, run1, hC1, hg1, hR1, hF1, hb1⟩ := app_lit14 W0 (hq.below a0) (lens14 hn).1
  have b01 := bthen13 a0 hb1
  obtain ⟨-, y1, -⟩ := HB.out (W0.alloc (.cells #[] 34)) (below_alloc _ _)
  obtain ⟨x0, x1, x2, x3, x4⟩ := HB.out w1 hb1
  have c1 := inPlace14_inv d nd cd A nr cr s N w1 (hC.below b01) (hT.below b01) (hR.below b01)
  have HG : Hid (g0 = w.heap.size) := hg0
  have HW : Hid (W0 = w.alloc (.cells #[.int .i64 4, .slice d nd cd, .slice A nr cr, .int .i64 s, .int .i64 N] 29)) := hW0
  have H1 : Hid (Below w.heap.size w w1) := b01
  clear hC hT hR hN hq hn a0 hg0 hW0 hC1 hg1 hR1 hF1 hb1 b01
  go_enter Tryd.func7, Tryd.ntmps7
  go_upto_region 1 with (fail)
  rw [← HG.out, ← HW.out]
  go_wp2_with (first
    | (at_builtin; refine Lib.wpList_append_run _ rfl _ _ _ _ rfl _ _ rfl rfl _ _ run1 ?_)
    | (go_at_call 15; (with_reducible refine c1.mono ?_); rintro e w2 ⟨rfl, b2⟩))
  go_ret
  exact ⟨rfl, bthen13 H1.out b2⟩
/-- what one answers of every step of the kinds lo to hi. -/
def Plays14 (lo hi : Int) : Prop := ∀ (k : Int) (d : Option Addr) (nd cd : Nat) (A : Option Addr) (nr cr : Nat) (s N : Int) (W : World), lo ≤ k → k ≤ hi → Cab W → Tzt W → Bm14 W (.slice d nd cd) → Rm14 W (.slice A nr cr) → (Lit.int .i64 N).wf = true →
  Calls Tryd.prog 7 #[.agg #[.int .i64 k, .slice d nd cd, .slice A nr cr, .int .i64 s, .int .i64 N]] W fun e w' => e = .returned (.bool true) ∧ Below W.heap.size W w'
theorem plays14_rows : Plays14 3 4 := fun k d nd cd A nr cr s N W h1 h2 hC hT hv hR hN => by
  have : k = 3 ∨ k = 4 := by omega
  rcases this with rfl | rfl
  · exact one14_rows_fwd d nd cd A nr cr s N W hC hT hv hR hN
  · exact one14_rows_inv d nd cd A nr cr s N W hC hT hv hR hN
set_option maxHeartbeats 2000000 in
set_option maxRecDepth 100000 in
theorem plays14 (lo hi : Int) (hP : Plays14 lo hi) (a : Option Addr) (len cap : Nat) (w : World) (h : IsOps14 w a len cap) (hC : Cab w) (hT : Tzt w) :
    Calls Tryd.prog 5 #[.slice a len cap, .int .i64 lo, .int .i64 hi] w fun e w' => e = .returned (.bool true) ∧ Below w.heap.size w w' := by
  obtain ⟨hml, h⟩ := h
  unfold maxLen at hml
  have c0 := awake14 w hC hT
  have HP : Hid (Plays14 lo hi) := hP
  have HK : Hid (Cab w ∧ Tzt w) := ⟨hC, hT⟩
  clear hP hC hT
  go_enter Tryd.func5, Tryd.ntmps5
  go_wp2_with (go_at_call 6; ((with_reducible refine (c0).mono ?_); (rintro e w1 ⟨rfl, hb1⟩)))
  have H1 : Hid (Below w.heap.size w w1) := hb1
  clear hb1 c0
  go_loopw [7] (fun x wr => ∃ t : Nat, t ≤ len ∧ x = .int .i64 t ∧ Below w.heap.size w wr) (fun x _ => len - (intOf x).toNat)
  case atStart => exact ⟨0, Nat.zero_le _, rfl, H1.out⟩
  case round =>
    obtain ⟨t, ht2, rfl, hb⟩ := hrel
    by_cases hlt : t < len
    · rcases h with h | ⟨b, off, rfl, hlc, hcm, hbs, hops⟩
      · exact absurd hlt (by rw [h]; exact Nat.not_lt_zero _)
      · obtain ⟨k, v, vr, s, N, hz, hv, hr, hws, hN⟩ := hops t hlt
        obtain ⟨d, nd, cd, F0, rfl, -⟩ := id hv
        obtain ⟨A, nr, cr, gb0, ob0, X0, L0, C0, G0, rfl, -⟩ := id hr
        have zc : ∀ y u, (cv14 k (.slice d nd cd) (.slice A nr cr) s N)[y]? = some u → wr.cell? ⟨b, off + t * 5 + y, none⟩ = some u := fun y u hu => (hb.cell (p := ⟨b, off + t * 5 + y, none⟩) hbs).trans (hz y u hu)
        have y0 := zc 0 (.int .i64 k) rfl
        have y1 := zc 1 (.slice d nd cd) rfl
        have y2 := zc 2 (.slice A nr cr) rfl
        have y3 := zc 3 (.int .i64 s) rfl
        have y4 := zc 4 (.int .i64 N) rfl
        simp only [Nat.add_zero] at y0
        have htl : ((t : Nat) : Int) < (len : Int) := Int.ofNat_lt.2 hlt
        have W1 := wrap_succ8 (j := t) (Nat.lt_of_lt_of_le hlt (Nat.le_trans hml (by decide)))
        have HX : Hid (Below w.heap.size w wr) := hb
        by_cases h1 : lo ≤ k
        · have D1 : decide (lo ≤ k) = true := by simpa using h1
          by_cases h2 : k ≤ hi
          · have D2 : decide (k ≤ hi) = true := by simpa using h2
            have c1 := HP.out k d nd cd A nr cr s N wr h1 h2 (HK.out.1.below hb) (HK.out.2.below hb) (hv.below hb) (hr.below hb) hN
            clear hops hz zc hv hr hws hN hb h1 h2
            go_wp2_with (go_at_call 7; ((with_reducible refine (c1).mono ?_); (rintro e w3 ⟨rfl, hb3⟩; have H3 : Hid (Below w.heap.size w w3) := bthen13 HX.out hb3; clear hb3)))
            go_roundw
            case rel => exact ⟨t + 1, hlt, by first | rfl | (rw [W1]; rfl), H3.out⟩
            case measure => first | exact meas_lt8 hlt | (rw [W1]; exact meas_lt8 hlt)
          · have D2 : decide (k ≤ hi) = false := by simpa using h2
            clear hops hz zc hv hr hws hN hb h1 h2
            go_wp2
            go_roundw
            case rel => exact ⟨t + 1, hlt, by first | rfl | (rw [W1]; rfl), HX.out⟩
            case measure => first | exact meas_lt8 hlt | (rw [W1]; exact meas_lt8 hlt)
        · have D1 : decide (lo ≤ k) = false := by simpa using h1
          clear hops hz zc hv hr hws hN hb h1
          go_wp2
          go_roundw
          case rel => exact ⟨t + 1, hlt, by first | rfl | (rw [W1]; rfl), HX.out⟩
          case measure => first | exact meas_lt8 hlt | (rw [W1]; exact meas_lt8 hlt)
    · have htl : ¬ ((t : Nat) : Int) < (len : Int) := fun e => hlt (Int.ofNat_lt.1 e)
      go_wp2
      go_ret
      exact ⟨rfl, hb⟩
end Go.Proofs.YtgdnjbaohfiijaaDoor
