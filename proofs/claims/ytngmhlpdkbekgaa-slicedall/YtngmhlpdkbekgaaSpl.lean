import Derived.Test.YtngmhlpdkbekgaaSbw
import Derived.Test.YtngmhlpdkbekgaaEsh
import Derived.Deep.RegionHeld
namespace Go.Proofs.Ytngmhlpdkbekgaa
open Go.RowKit Gf2
set_option linter.unusedVariables false

/-- what is known of a step. -/
def In7 (w : World) (c : Nat) (xD : Option Addr) (nD cD : Nat) (xS : Option Addr) (nS cS wv : Nat) (xW : Option Addr) (nW cW : Nat) : Prop :=
  c < 256 ∧ wv < 18446744073709551616 ∧ nD ≤ 140737488351232 ∧ nS ≤ 140737488351232 ∧ nW * 8 ≤ 140737488351232 ∧ (∃ D, Rb w (.slice xD nD cD) nD D) ∧ (∃ S, Rb w (.slice xS nS cS) nS S) ∧ ∃ T, Rq w (.slice xW nW cW) nW T
theorem In7.below {w w' : World} {c : Nat} {xD : Option Addr} {nD cD : Nat} {xS : Option Addr} {nS cS wv : Nat} {xW : Option Addr} {nW cW : Nat} (h : In7 w c xD nD cD xS nS cS wv xW nW cW) (hb : Below w.heap.size w w') : In7 w' c xD nD cD xS nS cS wv xW nW cW := by
  obtain ⟨h1, h2, h3, h4, h5, ⟨D, hD⟩, ⟨S, hS⟩, ⟨T, hT⟩⟩ := h
  exact ⟨h1, h2, h3, h4, h5, ⟨D, hD.below hb⟩, ⟨S, hS.below hb⟩, ⟨T, hT.below hb⟩⟩
theorem slices7_any (p : Addr) (lo hi : Nat) (kind : Int) (c : Nat) (xD : Option Addr) (nD cD : Nat) (xS : Option Addr) (nS cS wv : Nat) (xW : Option Addr) (nW cW : Nat) (self : Bool) (w : World) (hk : Sk w p lo hi) (h : In7 w c xD nD cD xS nS cS wv xW nW cW) (h12 : kind = 1 ∨ kind = 2) :
    Calls Try.prog 25 #[.pointer (some p), .agg (op7 kind c xD nD cD xS nS cS wv xW nW cW self)] w fun e w' => e = .returned (.bool true) ∧ Below w.heap.size w w' := by
  obtain ⟨h1, h2, h3, h4, h5, ⟨D, hD⟩, ⟨S, hS⟩, -⟩ := h
  rcases h12 with rfl | rfl
  · cases self
    · exact slices7_far_mul p lo hi 1 c xD nD cD xS nS cS wv xW nW cW D S w hk h1 hD hS h3 h4 (by decide)
    · exact slices7_self_mul p lo hi 1 c xD nD cD xS nS cS wv xW nW cW D S w hk h1 hD hS h3 h4 (by decide)
  · cases self
    · exact slices7_far_add p lo hi c xD nD cD xS nS cS wv xW nW cW D S w hk h1 hD hS h3 h4
    · exact slices7_self_add p lo hi c xD nD cD xS nS cS wv xW nW cW D S w hk h1 hD hS h3 h4
theorem blocks7_any (kind : Int) (c : Nat) (xD : Option Addr) (nD cD : Nat) (xS : Option Addr) (nS cS wv : Nat) (xW : Option Addr) (nW cW : Nat) (self : Bool) (w : World) (h : In7 w c xD nD cD xS nS cS wv xW nW cW) (h56 : kind = 5 ∨ kind = 6) :
    Calls Try.prog 29 #[.agg (op7 kind c xD nD cD xS nS cS wv xW nW cW self)] w fun e w' => e = .returned (.bool true) ∧ Below w.heap.size w w' := by
  obtain ⟨h1, h2, h3, h4, h5, -, ⟨S, hS⟩, ⟨T, hT⟩⟩ := h
  rcases h56 with rfl | rfl
  · by_cases e : nS = 64
    · subst e
      exact blocks7_planes_ok c xD nD cD xS cS wv xW nW cW self S w hS
    · exact blocks7_planes_lens c xD nD cD xS nS cS wv xW nW cW self S w hS h4 e
  · by_cases e : nW = 8
    · subst e
      exact blocks7_words_ok 6 c xD nD cD xS nS cS wv xW cW self T w hT (by decide)
    · exact blocks7_words_lens 6 c xD nD cD xS nS cS wv xW nW cW self T w hT (by decide) h5 e

set_option maxHeartbeats 4000000 in
set_option maxRecDepth 100000 in
theorem plays7_any (p : Addr) (lo hi : Nat) (kind : Int) (c : Nat) (xD : Option Addr) (nD cD : Nat) (xS : Option Addr) (nS cS wv : Nat) (xW : Option Addr) (nW cW : Nat) (self : Bool) (w : World) (hk : Sk w p lo hi) (h : In7 w c xD nD cD xS nS cS wv xW nW cW) :
    Calls Try.prog 19 #[.pointer (some p), .agg (op7 kind c xD nD cD xS nS cS wv xW nW cW self)] w fun e w' => e = .returned (.bool true) ∧ Below w.heap.size w w' := by
  obtain ⟨A, hA⟩ : ∃ A, A = op7 kind c xD nD cD xS nS cS wv xW nW cW self := ⟨_, rfl⟩
  rw [← hA]
  have b0 : Below w.heap.size w (w.alloc (.cells A 43)) := (Below.refl _ _).alloc (Nat.le_refl _) _
  have B0 : Bx (w.alloc (.cells A 43)) w.heap.size (op7 kind c xD nD cD xS nS cS wv xW nW cW self) := by rw [hA]; exact heap_alloc_new _ _
  have g0 : (w.alloc (.cells A 43)).heap[w.heap.size]? = some (.cells A 43 (0, 0)) := heap_alloc_new _ _
  have iA : (Try.prog.info? 43).map (·.size) = some A.size := by rw [hA]; kernel_rfl
  have c1 : (kind = 1 ∨ kind = 2) → Calls Try.prog 25 #[.pointer (some p), .agg A] (w.alloc (.cells A 43)) fun e w' => e = .returned (.bool true) ∧ Below (w.alloc (.cells A 43)).heap.size (w.alloc (.cells A 43)) w' := fun h12 => by
    rw [hA] at b0 ⊢
    exact slices7_any p lo hi kind c xD nD cD xS nS cS wv xW nW cW self _ (sk_below hk b0) (h.below b0) h12
  have c2 : (kind = 5 ∨ kind = 6) → Calls Try.prog 29 #[.agg A] (w.alloc (.cells A 43)) fun e w' => e = .returned (.bool true) ∧ Below (w.alloc (.cells A 43)).heap.size (w.alloc (.cells A 43)) w' := fun h56 => by
    rw [hA] at b0 ⊢
    exact blocks7_any kind c xD nD cD xS nS cS wv xW nW cW self _ (h.below b0) h56
  obtain ⟨z0, z1, -, -, z4, -, -⟩ := B0.all
  have HI : Hid (c < 256 ∧ wv < 18446744073709551616 ∧ Below w.heap.size w (w.alloc (.cells A 43))) := ⟨h.1, h.2.1, b0⟩
  clear hA B0 hk h b0
  by_cases k1 : kind = 1
  · subst k1
    have c1 := c1 (.inl rfl)
    go_enter Try.func19, Try.ntmps19
    go_wp2_with (first | (refine wpList_load_row rfl 43 _ rfl w.heap.size rfl 43 A (0, 0) _ g0 Try.underlying43 rfl iA ?_) | (go_at_call 25; (with_reducible refine c1.mono ?_); rintro e w1 ⟨rfl, hb1⟩))
    go_ret
    exact ⟨rfl, HI.out.2.2.trans (hb1.mono HI.out.2.2.size)⟩
  · by_cases k2 : kind = 2
    · subst k2
      have c1 := c1 (.inr rfl)
      go_enter Try.func19, Try.ntmps19
      go_wp2_with (first | (refine wpList_load_row rfl 43 _ rfl w.heap.size rfl 43 A (0, 0) _ g0 Try.underlying43 rfl iA ?_) | (go_at_call 25; (with_reducible refine c1.mono ?_); rintro e w1 ⟨rfl, hb1⟩))
      go_ret
      exact ⟨rfl, HI.out.2.2.trans (hb1.mono HI.out.2.2.size)⟩
    · by_cases k3 : kind = 3
      · subst k3
        clear c1 c2 k1 k2
        have cWd := fun W => sword_any c wv W HI.out.1 HI.out.2.1
        have cR := fun W => refWord7 c wv W HI.out.1 HI.out.2.1
        go_enter Try.func19, Try.ntmps19
        go_wp2
        have HZ : Hid (∀ x1, Below (w.alloc (.cells A 43)).heap.size (w.alloc (.cells A 43)) x1 → x1.cell? ⟨w.heap.size, 1, none⟩ = some (.int .u8 (c : Int)) ∧ x1.cell? ⟨w.heap.size, 4, none⟩ = some (.int .u64 (wv : Int))) := fun x1 hb1 => ⟨(hb1.cell (p := ⟨w.heap.size, 1, none⟩) (by simp)).trans z1, (hb1.cell (p := ⟨w.heap.size, 4, none⟩) (by simp)).trans z4⟩
        go_region_held (fun w' => w'.cell? ⟨w.heap.size, 1, none⟩ = some (.int .u8 (c : Int)) ∧ w'.cell? ⟨w.heap.size, 4, none⟩ = some (.int .u64 (wv : Int))) (go_keep) (first
          | (go_at_call 20; (with_reducible refine (cWd _).mono ?_); rintro e x1 ⟨rfl, hb1⟩; have hz := HZ.out x1 ⟨hb1.os, hb1.tape, hb1.output, hb1.size, hb1.block⟩; obtain ⟨y1, y4⟩ := hz)
          | (go_at_call 26; (with_reducible refine (cR _).mono ?_); rintro e x2 ⟨rfl, hx2⟩; have hx2 := hx2.symm; subst hx2))
        all_goals
          go_wp2
          go_ret
          exact ⟨rfl, HI.out.2.2.trans (Below.mono ⟨hb1.os, hb1.tape, hb1.output, hb1.size, hb1.block⟩ HI.out.2.2.size)⟩
      · by_cases k4 : kind = 4
        · subst k4
          clear c1 c2 k1 k2 k3
          have cK := fun W => scols_any c W HI.out.1
          have HZ : Hid (∀ x1, Below (w.alloc (.cells A 43)).heap.size (w.alloc (.cells A 43)) x1 → x1.cell? ⟨w.heap.size, 1, none⟩ = some (.int .u8 (c : Int))) := fun x1 hb1 => (hb1.cell (p := ⟨w.heap.size, 1, none⟩) (by simp)).trans z1
          go_enter Try.func19, Try.ntmps19
          go_wp2
          go_region_held (fun w' => w'.cell? ⟨w.heap.size, 1, none⟩ = some (.int .u8 (c : Int))) (go_keep) (first
            | (go_at_call 27; (with_reducible refine (cK _).mono ?_); rintro e x1 ⟨bK, FK, rfl, lK, rK, eK, hb1⟩; have b1 : Below (w.alloc (.cells A 43)).heap.size (w.alloc (.cells A 43)) x1 := ⟨hb1.os, hb1.tape, hb1.output, hb1.size, hb1.block⟩; have y1 := HZ.out x1 b1; have cR := refCols7 c x1 HI.out.1; have H1 : Hid (Rw x1 bK cC FK ∧ (∀ i, i < 8 → FK i = fm 285 c (2 ^ i)) ∧ Below (w.alloc (.cells A 43)).heap.size (w.alloc (.cells A 43)) x1) := ⟨rK, eK, b1⟩; clear lK rK eK hb1 b1)
            | (go_at_call 28; (with_reducible refine cR.mono ?_); rintro e x2 ⟨rfl, rR, hb2⟩; have b2 := H1.out.2.2.trans (hb2.mono H1.out.2.2.size); have y2 := HZ.out x2 b2; have cE := same7_true (.slice (some ⟨bK, 0, none⟩) 8 cC) (.slice (some ⟨x1.heap.size, 0, none⟩) 8 8) 8 (fun i => fm 285 c (2 ^ i)) x2 (head7 (rw_below H1.out.1 hb2) (by decide) H1.out.2.1) rR.rb0; have H2 : Hid (Below (w.alloc (.cells A 43)).heap.size (w.alloc (.cells A 43)) x2) := b2; clear rR hb2 b2)
            | (go_at_call 15; (with_reducible refine cE.mono ?_); rintro e x3 ⟨rfl, m3, hx3⟩; have b3 : Below (w.alloc (.cells A 43)).heap.size (w.alloc (.cells A 43)) x3 := (by rw [hx3]; exact below_drewN H2.out m3); have y3 := HZ.out x3 b3; have H3 : Hid (Below (w.alloc (.cells A 43)).heap.size (w.alloc (.cells A 43)) x3) := b3; clear hx3 b3))
          all_goals
            go_wp2
            go_ret
            exact ⟨rfl, HI.out.2.2.trans (H3.out.mono HI.out.2.2.size)⟩
        · have D1 : (kind == 1) = false := by simpa using k1
          have D2 : (kind == 2) = false := by simpa using k2
          have D3 : (kind == 3) = false := by simpa using k3
          have D4 : (kind == 4) = false := by simpa using k4
          by_cases k56 : kind = 5 ∨ kind = 6
          · rcases k56 with rfl | rfl
            · have c2b := c2 (.inl rfl)
              clear D1 D2 D3 D4 c1 c2 k1 k2 k3 k4
              go_enter Try.func19, Try.ntmps19
              go_wp2_with (first | (refine wpList_load_row rfl 43 _ rfl w.heap.size rfl 43 A (0, 0) _ g0 Try.underlying43 rfl iA ?_) | (go_at_call 29; (with_reducible refine c2b.mono ?_); rintro e w1 ⟨rfl, hb1⟩))
              go_ret
              exact ⟨rfl, HI.out.2.2.trans (hb1.mono HI.out.2.2.size)⟩
            · have c2b := c2 (.inr rfl)
              clear D1 D2 D3 D4 c1 c2 k1 k2 k3 k4
              go_enter Try.func19, Try.ntmps19
              go_wp2_with (first | (refine wpList_load_row rfl 43 _ rfl w.heap.size rfl 43 A (0, 0) _ g0 Try.underlying43 rfl iA ?_) | (go_at_call 29; (with_reducible refine c2b.mono ?_); rintro e w1 ⟨rfl, hb1⟩))
              go_ret
              exact ⟨rfl, HI.out.2.2.trans (hb1.mono HI.out.2.2.size)⟩
          · have D5 : (kind == 5) = false := by simp; exact fun e => k56 (.inl e)
            have D6 : (kind == 6) = false := by simp; exact fun e => k56 (.inr e)
            clear c1 c2 k1 k2 k3 k4 k56
            go_enter Try.func19, Try.ntmps19
            go_wp2
            go_ret
            exact ⟨rfl, HI.out.2.2⟩
end Go.Proofs.Ytngmhlpdkbekgaa
