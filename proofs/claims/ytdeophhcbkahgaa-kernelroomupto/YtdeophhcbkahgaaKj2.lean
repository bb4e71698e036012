import Derived.Test.YtdeophhcbkahgaaEbz
import Derived.Test.YtdeophhcbkahgaaWalkg
import Derived.Below
import Derived.Laws.Tables
import Derived.Laws.CopyOwn
import Derived.Deep.QuietTactic
import Derived.BigQuiet
import Derived.Deep.OwnRows
import Derived.Deep.RegionWith
import Derived.Deep.RegionHeld
namespace Go.Proofs.Ytdeophhcbkahgaa
open Go.RowKit Gf2
set_option linter.unusedVariables false

/-- a kernel at p, in the blocks from lo to hi. -/
def Ker (w : World) (p : Addr) (lo hi : Nat) : Prop := p = ⟨lo, 0, none⟩ ∧ lo < hi ∧ hi ≤ w.heap.size ∧ ∃ A, w.heap[lo]? = some (.cells A 95 (0, 0)) ∧ A.size = 65536 ∧ ∀ a b, a < 256 → b < 256 → A[a * 256 + b]? = some (.int .u8 (fm 285 a b : Nat))
theorem Ker.hi {w : World} {p : Addr} {lo hi : Nat} (h : Ker w p lo hi) : hi ≤ w.heap.size := h.2.2.1
theorem Ker.lo {w : World} {p : Addr} {lo hi : Nat} (h : Ker w p lo hi) : lo < hi := h.2.1
theorem Ker.keep {w w' : World} {p : Addr} {lo hi : Nat} (h : Ker w p lo hi) (hs : hi ≤ w'.heap.size) (hb : ∀ b, lo ≤ b → b < hi → w'.heap[b]? = w.heap[b]?) : Ker w' p lo hi := by
  obtain ⟨h1, h2, h3, A, h4, h5⟩ := h
  exact ⟨h1, h2, hs, A, (hb lo (Nat.le_refl _) h2).trans h4, h5⟩
theorem Ker.drewN {w : World} {p : Addr} {lo hi : Nat} (h : Ker w p lo hi) (m : Nat) : Ker (w.drewN m) p lo hi := h

end Go.Proofs.Ytdeophhcbkahgaa
namespace Go.Proofs.Ytdeophhcbkahgaa
open Go.RowKit Gf2
set_option linter.unusedVariables false

set_option maxHeartbeats 4000000 in
set_option maxRecDepth 100000 in
theorem kmul_gen (p : Addr) (lo hi c n g o N : Nat) (F : Nat → Nat) (rd : (Nat → Nat) → Nat → Nat) (a x : Option Addr) (ca cx : Nat) (w : World) (hk : Ker w p lo hi) (hc : c < 256) (hn : n ≤ big) (hg : g < lo ∨ hi ≤ g)
    (hR : Rw w g N F) (hd : 0 < n → a = some ⟨g, o, none⟩ ∧ o + n ≤ N) (hx : 0 < n → Reads w g N n x rd) :
    Calls Try.prog 73 #[.pointer (some p), .int .u8 (c : Int), .slice a n ca, .slice x n cx] w fun e w' => e = .returned (.int .i64 0) ∧ Only g w w' ∧ Rw w' g N (goes (fun _ s => fm 285 c s) o rd F n) := by
  obtain ⟨rfl, hlo, hhi, A, hA, hAs, hT⟩ := hk
  by_cases h0 : 0 < n
  · obtain ⟨rfl, hoN⟩ := hd h0
    obtain ⟨h, q, rfl, hrd⟩ := hx h0
    have c1 : Hid (∀ w' G, Only g w w' → Rw w' g N G → ∀ i, i < n → rd G i < 256 ∧ w'.cell? ⟨h, q + i, none⟩ = some (.int .u8 (rd G i : Nat))) := hrd
    have cell : ∀ w', Only g w w' → ∀ s, s < 256 → w'.cell? ⟨lo, c * 256 + s, none⟩ = some (.int .u8 (fm 285 c s : Nat)) := by
      intro w' ho s hs
      rw [cell_of_row w' lo (c * 256 + s) A _ _ ((ho.2.2 lo (by omega)).trans hA)]
      exact hT c s hc hs
    have HC : Hid (∀ w', Only g w w' → ∀ s, s < 256 → w'.cell? ⟨lo, c * 256 + s, none⟩ = some (.int .u8 (fm 285 c s : Nat))) := cell
    clear hrd cell hT
    go_enter Try.func73, Try.ntmps73
    go_wp2
    go_loopw [27] (fun i wr => ∃ k : Nat, k ≤ n ∧ i = .int .i64 k ∧ Only g w wr ∧ Rw wr g N (goes (fun _ s => fm 285 c s) o rd F k)) (fun i _ => n - (intOf i).toNat)
    case atStart => exact ⟨0, Nat.zero_le _, rfl, Only.refl _ _, hR⟩
    case round =>
      obtain ⟨k, hk, rfl, ho, hr⟩ := hrel
      by_cases hlt : k < n
      · obtain ⟨G, hG⟩ : ∃ G, G = goes (fun _ s => fm 285 c s) o rd F k := ⟨_, rfl⟩
        rw [← hG] at hr
        obtain ⟨ls, qs⟩ := c1.out wr G ho hr k hlt
        obtain ⟨s, hs⟩ : ∃ s, s = rd G k := ⟨_, rfl⟩
        rw [← hs] at ls qs
        have qt := HC.out wr ho s ls
        have q1 := hr.2.2.cell (i := o + k) (by omega)
        have q2 := hr.2.2.frozen (o + k)
        have lf : fm 285 c s < 256 := fm8_lt _ _
        have new : Rw (wr.setCell ⟨g, o + k, none⟩ (.int .u8 (fm 285 c s : Nat))) g N (goes (fun _ s => fm 285 c s) o rd F (k + 1)) := by
          refine ⟨hr.1, fun i hi => ?_, (hr.2.2.set (o + k) _).congr (fun i hi => ?_)⟩
          · unfold goes
            rw [← hG, ← hs]
            split
            · exact lf
            · exact hr.2.1 i hi
          · unfold goes
            rw [← hG, ← hs]
            by_cases e : i = o + k
            · rw [if_pos e, if_pos e]
            · rw [if_neg e, if_neg e]
        have HP : Hid (Only g w (wr.setCell ⟨g, o + k, none⟩ (.int .u8 (fm 285 c s : Nat))) ∧ Rw (wr.setCell ⟨g, o + k, none⟩ (.int .u8 (fm 285 c s : Nat))) g N (goes (fun _ s => fm 285 c s) o rd F (k + 1))) := ⟨ho.setCell _ _, new⟩
        have ib : ((k : Nat) : Int) < (n : Int) := by omega
        have is_ : ((s : Nat) : Int) < 256 := by omega
        have W1 := wrap_succ8 (j := k) (by omega)
        clear new hr ho hG hs hR hd hx hn lf
        go_wp2
        go_roundw
        case rel => exact ⟨k + 1, hlt, by first | rfl | (rw [W1]; rfl), HP.out.1, HP.out.2⟩
        case measure => first | exact meas_lt8 hlt | (rw [W1]; exact meas_lt8 hlt)
      · have hkn : k = n := by omega
        subst hkn
        clear hx hd
        go_wp2
        go_ret
        exact ⟨rfl, ho, hr⟩
  · have hn0 : n = 0 := by omega
    subst hn0
    go_enter Try.func73, Try.ntmps73
    go_wp2
    refine wp_loop_rounds 1 ?_
    rw [rounds_succ]
    go_wp2
    go_ret
    exact ⟨rfl, Only.refl _ _, hR⟩
end Go.Proofs.Ytdeophhcbkahgaa
namespace Go.Proofs.Ytdeophhcbkahgaa
open Go.RowKit Gf2
set_option linter.unusedVariables false

set_option maxHeartbeats 4000000 in
set_option maxRecDepth 100000 in
theorem kadd_gen (p : Addr) (lo hi c n g o N : Nat) (F : Nat → Nat) (rd : (Nat → Nat) → Nat → Nat) (a x : Option Addr) (ca cx : Nat) (w : World) (hk : Ker w p lo hi) (hc : c < 256) (hn : n ≤ big) (hg : g < lo ∨ hi ≤ g)
    (hR : Rw w g N F) (hd : 0 < n → a = some ⟨g, o, none⟩ ∧ o + n ≤ N) (hx : 0 < n → Reads w g N n x rd) :
    Calls Try.prog 74 #[.pointer (some p), .int .u8 (c : Int), .slice a n ca, .slice x n cx] w fun e w' => e = .returned (.int .i64 0) ∧ Only g w w' ∧ Rw w' g N (goes (fun d s => d ^^^ fm 285 c s) o rd F n) := by
  obtain ⟨rfl, hlo, hhi, A, hA, hAs, hT⟩ := hk
  by_cases h0 : 0 < n
  · obtain ⟨rfl, hoN⟩ := hd h0
    obtain ⟨h, q, rfl, hrd⟩ := hx h0
    have c1 : Hid (∀ w' G, Only g w w' → Rw w' g N G → ∀ i, i < n → rd G i < 256 ∧ w'.cell? ⟨h, q + i, none⟩ = some (.int .u8 (rd G i : Nat))) := hrd
    have cell : ∀ w', Only g w w' → ∀ s, s < 256 → w'.cell? ⟨lo, c * 256 + s, none⟩ = some (.int .u8 (fm 285 c s : Nat)) := by
      intro w' ho s hs
      rw [cell_of_row w' lo (c * 256 + s) A _ _ ((ho.2.2 lo (by omega)).trans hA)]
      exact hT c s hc hs
    have HC : Hid (∀ w', Only g w w' → ∀ s, s < 256 → w'.cell? ⟨lo, c * 256 + s, none⟩ = some (.int .u8 (fm 285 c s : Nat))) := cell
    clear hrd cell hT
    go_enter Try.func74, Try.ntmps74
    go_wp2
    go_loopw [27] (fun i wr => ∃ k : Nat, k ≤ n ∧ i = .int .i64 k ∧ Only g w wr ∧ Rw wr g N (goes (fun d s => d ^^^ fm 285 c s) o rd F k)) (fun i _ => n - (intOf i).toNat)
    case atStart => exact ⟨0, Nat.zero_le _, rfl, Only.refl _ _, hR⟩
    case round =>
      obtain ⟨k, hk, rfl, ho, hr⟩ := hrel
      by_cases hlt : k < n
      · obtain ⟨G, hG⟩ : ∃ G, G = goes (fun d s => d ^^^ fm 285 c s) o rd F k := ⟨_, rfl⟩
        rw [← hG] at hr
        obtain ⟨ls, qs⟩ := c1.out wr G ho hr k hlt
        obtain ⟨s, hs⟩ : ∃ s, s = rd G k := ⟨_, rfl⟩
        rw [← hs] at ls qs
        have qt := HC.out wr ho s ls
        have q1 := hr.2.2.cell (i := o + k) (by omega)
        have q2 := hr.2.2.frozen (o + k)
        have lf : G (o + k) ^^^ fm 285 c s < 256 := Nat.xor_lt_two_pow (n := 8) (hr.2.1 _ (by omega)) (fm8_lt _ _)
        have new : Rw (wr.setCell ⟨g, o + k, none⟩ (.int .u8 (G (o + k) ^^^ fm 285 c s : Nat))) g N (goes (fun d s => d ^^^ fm 285 c s) o rd F (k + 1)) := by
          refine ⟨hr.1, fun i hi => ?_, (hr.2.2.set (o + k) _).congr (fun i hi => ?_)⟩
          · unfold goes
            rw [← hG, ← hs]
            split
            · exact lf
            · exact hr.2.1 i hi
          · unfold goes
            rw [← hG, ← hs]
            by_cases e : i = o + k
            · rw [if_pos e, if_pos e]
            · rw [if_neg e, if_neg e]
        have HP : Hid (Only g w (wr.setCell ⟨g, o + k, none⟩ (.int .u8 (G (o + k) ^^^ fm 285 c s : Nat))) ∧ Rw (wr.setCell ⟨g, o + k, none⟩ (.int .u8 (G (o + k) ^^^ fm 285 c s : Nat))) g N (goes (fun d s => d ^^^ fm 285 c s) o rd F (k + 1))) := ⟨ho.setCell _ _, new⟩
        have X := u8_xor_nat (G (o + k)) (fm 285 c s) (hr.2.1 _ (by omega)) (fm8_lt _ _)
        have ib : ((k : Nat) : Int) < (n : Int) := by omega
        have is_ : ((s : Nat) : Int) < 256 := by omega
        have W1 := wrap_succ8 (j := k) (by omega)
        clear new hr ho hG hs hR hd hx hn lf
        go_wp2
        refine region_tail8 10 (by kernel_rfl) (by kernel_rfl) ?_
        simp only [List.take_succ_cons, List.take_zero, List.drop_succ_cons, List.drop_zero]
        repeat still_step
        refine wpStill_nil ?_
        go_wp2
        go_roundw
        case rel => exact ⟨k + 1, hlt, by first | rfl | (rw [W1]; rfl), HP.out.1.drew, HP.out.2.1, HP.out.2.2.1, HP.out.2.2.2.drew⟩
        case measure => first | exact meas_lt8 hlt | (rw [W1]; exact meas_lt8 hlt)
      · have hkn : k = n := by omega
        subst hkn
        clear hx hd
        go_wp2
        go_ret
        exact ⟨rfl, ho, hr⟩
  · have hn0 : n = 0 := by omega
    subst hn0
    go_enter Try.func74, Try.ntmps74
    go_wp2
    refine wp_loop_rounds 1 ?_
    rw [rounds_succ]
    go_wp2
    go_ret
    exact ⟨rfl, Only.refl _ _, hR⟩
end Go.Proofs.Ytdeophhcbkahgaa
namespace Go.Proofs.Ytdeophhcbkahgaa
open Go.RowKit Gf2

theorem ord8' : IsOrd 2 285 (2 ^ 8 - 1) := ord_8
/-- the first k powers laid. -/
def Laid8 (A : Array Value) (k : Nat) : Prop := A.size = 766 ∧ (∀ j, j < 766 → ∃ v : Nat, v < 256 ∧ A[j]? = some (.int .u8 (v : Int))) ∧
  ∀ n, n < k → A[n]? = some (.int .u8 (fp 285 2 n : Nat)) ∧ A[n + 255]? = some (.int .u8 (fp 285 2 n : Nat)) ∧ A[510 + fp 285 2 n]? = some (.int .u8 (n : Nat))

theorem Laid8.zero : Laid8 (Array.replicate 766 (Value.int .u8 0)) 0 := by
  refine ⟨Array.size_replicate, fun j hj => ⟨0, by decide, ?_⟩, fun n hn => absurd hn (by omega)⟩
  rw [Array.getElem?_replicate, if_pos hj]; rfl

theorem zero_tab (w : World) : (zeroValue 104).run Try.prog w = .ok (.agg (Array.replicate 766 (Value.int .u8 0))) w := by
  kernel_rfl

theorem Laid8.put {A : Array Value} {k : Nat} (h : Laid8 A k) (hk : k < 255) :
    Laid8 (((A.setIfInBounds k (.int .u8 (fp 285 2 k : Nat))).setIfInBounds (k + 255) (.int .u8 (fp 285 2 k : Nat))).setIfInBounds (510 + fp 285 2 k) (.int .u8 (k : Nat))) (k + 1) := by
  obtain ⟨h1, h2, h3⟩ := h
  have hf := fp8_lt 2 k
  refine ⟨by simp [h1], fun j hj => ?_, fun n hn => ?_⟩
  · simp only [Array.getElem?_setIfInBounds, Array.size_setIfInBounds, h1]
    by_cases e3 : 510 + fp 285 2 k = j
    · exact ⟨k, by omega, by rw [if_pos e3, if_pos (by omega)]⟩
    · rw [if_neg e3]
      by_cases e2 : k + 255 = j
      · exact ⟨fp 285 2 k, hf, by rw [if_pos e2, if_pos (by omega)]⟩
      · rw [if_neg e2]
        by_cases e1 : k = j
        · exact ⟨fp 285 2 k, hf, by rw [if_pos e1, if_pos (by omega)]⟩
        · rw [if_neg e1]; exact h2 j hj
  · have hfn := fp8_lt 2 n
    simp only [Array.getElem?_setIfInBounds, Array.size_setIfInBounds, h1]
    by_cases e : n = k
    · subst e
      refine ⟨?_, ?_, ?_⟩
      · rw [if_neg (by omega), if_neg (by omega), if_pos rfl, if_pos (by omega)]
      · rw [if_neg (by omega), if_pos rfl, if_pos (by omega)]
      · rw [if_pos rfl, if_pos (by omega)]
    · have hn' : n < k := by omega
      obtain ⟨g1, g2, g3⟩ := h3 n hn'
      have hne : fp 285 2 k ≠ fp 285 2 n := fun e2 => e (fld8.inj ord8' (by decide) (by show n < 255; omega) (by show k < 255; omega) e2.symm)
      refine ⟨?_, ?_, ?_⟩
      · rw [if_neg (by omega), if_neg (by omega), if_neg (by omega)]; exact g1
      · rw [if_neg (by omega), if_neg (by omega), if_neg (by omega)]; exact g2
      · rw [if_neg (by omega), if_neg (by omega), if_neg (by omega)]; exact g3

set_option maxHeartbeats 2000000 in
set_option maxRecDepth 100000 in
theorem new_any (w : World) :
    Calls Try.prog 44 #[] w fun e w' => e = .returned (.pointer (some ⟨w.heap.size, 0, none⟩)) ∧ w'.heap.size = w.heap.size + 1 ∧ (∃ A, w'.heap[w.heap.size]? = some (.cells A 104 (0, 0)) ∧ Laid8 A 255) ∧ Below w.heap.size w w' := by
  have hz := fun w => zero_tab w
  go_enter Try.func44, Try.ntmps44
  go_wp2
  go_loopw [2, 6] (fun x i wr => ∃ k : Nat, k ≤ 255 ∧ x = .int .u8 (fp 285 2 k : Nat) ∧ i = .int .i64 k ∧ wr.heap.size = w.heap.size + 1 ∧
      (∃ A, wr.heap[w.heap.size]? = some (.cells A 104 (0, 0)) ∧ Laid8 A k) ∧ Below w.heap.size w wr) (fun _ i _ => 255 - (intOf i).toNat)
  case atStart =>
    refine ⟨0, by decide, rfl, rfl, by simp, ⟨_, ?_, Laid8.zero⟩, (Below.refl _ _).alloc (Nat.le_refl _) _⟩
    exact heap_alloc_new _ _
  case round =>
    obtain ⟨k, hk, rfl, rfl, hsz, ⟨A, hA, hL⟩, hb⟩ := hrel
    by_cases hlt : k < 255
    · have l1 := fp8_lt 2 k
      have c1 := fun w => gmul_nat (fp 285 2 k) 2 w l1 (by decide)
      have e1 := fld8.fp_succ (a := 2) (by decide) k
      rw [← e1] at c1
      clear e1
      have hL' := hL.put hlt
      obtain ⟨v0, -, e0⟩ := hL.2.1 k (by omega)
      obtain ⟨v1, -, e1⟩ := hL.2.1 (k + 255) (by omega)
      obtain ⟨v2, -, e2⟩ := hL.2.1 (510 + fp 285 2 k) (by omega)
      have q0 := cell_of_row wr w.heap.size k A _ _ hA
      have q1 := cell_of_row wr w.heap.size (k + 255) A _ _ hA
      have q2 := cell_of_row wr w.heap.size (510 + fp 285 2 k) A _ _ hA
      rw [e0] at q0
      rw [e1] at q1
      rw [e2] at q2
      have f0 := frozen_of_row wr w.heap.size k A _ hA
      have f1 := frozen_of_row wr w.heap.size (k + 255) A _ hA
      have f2 := frozen_of_row wr w.heap.size (510 + fp 285 2 k) A _ hA
      have HR : Hid (wr.heap[w.heap.size]? = some (.cells A 104 (0, 0)) ∧ wr.heap.size = w.heap.size + 1) := ⟨hA, hsz⟩
      have HL : Hid (Laid8 _ (k + 1)) := hL'
      clear hA hL hL' e0 e1 e2 hsz
      have c1 : ∀ w, Calls Try.prog 46 #[.int .u8 (fp 285 2 k : Nat), .int .u8 2] w fun e w' => e = .returned (.int .u8 (fp 285 2 (k + 1) : Nat)) ∧ w' = w := c1
      go_wp2_with (go_at_call 46; ((with_reducible refine (c1 _).mono ?_); rintro e w' ⟨rfl, rfl⟩))
      go_roundw
      case rel =>
        obtain ⟨g0, g1⟩ := HR.out
        refine ⟨k + 1, by omega, rfl, by go_num, by simp [g1], ⟨_, ?_, HL.out⟩, ((hb.setCell (by simp) _).setCell (by simp) _).setCell (by simp) _⟩
        exact heap_setCell_same _ _ _ _ _ _ (heap_setCell_same _ _ _ _ _ _ (heap_setCell_same _ _ _ _ _ _ g0))
      case measure => simp [intOf]; omega
    · have hk5 : k = 255 := by omega
      subst hk5
      go_wp2
      go_ret
      exact ⟨rfl, hsz, ⟨A, hA, hL⟩, hb⟩
end Go.Proofs.Ytdeophhcbkahgaa
namespace Go.Proofs.Ytdeophhcbkahgaa
open Go.RowKit Gf2

/-- tables in memory. -/
def Tab8 (w : World) (b : Nat) : Prop := ∃ A, w.heap[b]? = some (.cells A 104 (0, 0)) ∧ Laid8 A 255
/-- the logarithm. -/
def l8 (a : Nat) : Nat := lg 285 8 a
theorem l8_lt (a : Nat) : l8 a < 255 := lg_lt 285 a (by decide)
theorem l8_spec {a : Nat} (ha : a < 256) (h0 : a ≠ 0) : fp 285 2 (l8 a) = a := fld8.lg_spec ord8' (by decide) ha h0
theorem l8_fp {n : Nat} (hn : n < 255) : l8 (fp 285 2 n) = n := fld8.lg_fp ord8' (by decide) hn
theorem Tab8.pow {w : World} {b : Nat} (h : Tab8 w b) {n : Nat} (hn : n < 510) : w.cell? ⟨b, n, none⟩ = some (.int .u8 (fp 285 2 n : Nat)) := by
  obtain ⟨A, hA, -, -, hL⟩ := h
  rw [cell_of_row w b n A _ _ hA]
  by_cases h : n < 255
  · exact (hL n h).1
  · obtain ⟨m, rfl⟩ : ∃ m, n = m + 255 := ⟨n - 255, by omega⟩
    have := fld8.fp_round (a := 2) (by decide) (by decide) m 1
    rw [show m + 255 = m + (2 ^ 8 - 1) * 1 by omega, this]
    exact (hL m (by omega)).2.1
theorem Tab8.log {w : World} {b : Nat} (h : Tab8 w b) {a : Nat} (ha : a < 256) (h0 : a ≠ 0) : w.cell? ⟨b, 510 + a, none⟩ = some (.int .u8 (l8 a : Nat)) := by
  obtain ⟨A, hA, -, -, hL⟩ := h
  rw [cell_of_row w b _ A _ _ hA]
  have := (hL (l8 a) (l8_lt a)).2.2
  rw [l8_spec ha h0] at this
  exact this
theorem Tab8.of_heap {w w' : World} {b : Nat} (h : Tab8 w b) (hh : w'.heap[b]? = w.heap[b]?) : Tab8 w' b := by
  obtain ⟨A, hA, hL⟩ := h
  exact ⟨A, hh.trans hA, hL⟩
theorem Tab8.drewN {w : World} {b : Nat} (h : Tab8 w b) (n : Nat) : Tab8 (w.drewN n) b := h
theorem Tab8.lt {w : World} {b : Nat} (h : Tab8 w b) : b < w.heap.size := by
  obtain ⟨A, hA, hL⟩ := h
  exact (Array.getElem?_eq_some_iff.1 hA).1

set_option maxHeartbeats 400000 in
set_option maxRecDepth 100000 in
theorem tlog_nat (a b : Nat) (w : World) (ht : Tab8 w b) (ha : a < 256) (h0 : a ≠ 0) :
    Calls Try.prog 49 #[.pointer (some ⟨b, 0, none⟩), .int .u8 (a : Int)] w fun e w' => e = .returned (.int .i64 (l8 a : Nat)) ∧ w' = w := by
  have q := ht.log ha h0
  have l1 := l8_lt a
  go_enter Try.func49, Try.ntmps49
  go_wp2
  go_ret
  exact ⟨rfl, rfl⟩

set_option maxHeartbeats 400000 in
set_option maxRecDepth 100000 in
theorem tmul_nil (a b : Nat) (w : World) :
    Calls Try.prog 47 #[.pointer none, .int .u8 (a : Int), .int .u8 (b : Int)] w fun e w' => e = .returned (.int .u8 0) ∧ w' = w := by
  go_enter Try.func47, Try.ntmps47
  go_wp2
  go_ret
  exact ⟨rfl, rfl⟩

set_option maxHeartbeats 1000000 in
set_option maxRecDepth 100000 in
theorem tmul_nat (t a b : Nat) (w : World) (ht : Tab8 w t) (ha : a < 256) (hb : b < 256) :
    Calls Try.prog 47 #[.pointer (some ⟨t, 0, none⟩), .int .u8 (a : Int), .int .u8 (b : Int)] w fun e w' => e = .returned (.int .u8 (fm 285 a b : Nat)) ∧ ∃ m, w' = w.drewN m := by
  by_cases h0 : a = 0
  · subst h0
    rw [fld8.zero_fm]
    go_enter Try.func47, Try.ntmps47
    go_wp2
    go_ret
    exact ⟨rfl, 0, rfl⟩
  · by_cases h1 : b = 0
    · subst h1
      rw [fld8.fm_zero]
      go_enter Try.func47, Try.ntmps47
      go_wp2
      go_ret
      exact ⟨rfl, 0, rfl⟩
    · have e := fld8.fm_lg ord8' (by decide) ha hb h0 h1
      have e : fm 285 a b = fp 285 2 (l8 a + l8 b) := e
      rw [e]
      have la := l8_lt a
      have lb := l8_lt b
      have c1 := fun n => tlog_nat a t (w.drewN n) (ht.drewN n) ha h0
      have c2 := fun n => tlog_nat b t (w.drewN n) (ht.drewN n) hb h1
      have q := ht.pow (n := l8 a + l8 b) (by omega)
      have T1 : ((a : Int) == 0) = false := by simp; omega
      have T2 : ((b : Int) == 0) = false := by simp; omega
      clear ht e h0 h1
      go_enter Try.func47, Try.ntmps47
      go_wp2
      go_quiet ((go_at_call 49; first | (with_reducible exact Calls.quiet_of_same (c1 _)) | (with_reducible exact Calls.quiet_of_same (c2 _))))
      go_wp2
      go_ret
      exact ⟨rfl, _, rfl⟩

set_option maxHeartbeats 400000 in
set_option maxRecDepth 100000 in
theorem trow_nil (a : Nat) (w : World) :
    Calls Try.prog 45 #[.pointer none, .int .u8 (a : Int)] w fun e w' => e = .returned (.slice none 0 0) ∧ w' = w := by
  go_enter Try.func45, Try.ntmps45
  go_wp2
  go_ret
  exact ⟨rfl, rfl⟩

end Go.Proofs.Ytdeophhcbkahgaa
namespace Go.Proofs.Ytdeophhcbkahgaa
open Go.RowKit Gf2

theorem info_u8 : (Try.prog.info? 5).map (fun i => (i.zero, i.size, i.bytes)) = some (some (Value.int .u8 0), 1, 1) := by kernel_rfl
theorem below_drewN' {N : Nat} {a w : World} (h : Below N a w) (n : Nat) : Below N a (w.drewN n) := ⟨h.os, h.tape, h.output, h.size, h.block⟩

set_option maxHeartbeats 2000000 in
set_option maxRecDepth 100000 in
theorem trow_nat (t a : Nat) (w : World) (ht : Tab8 w t) (ha : a < 256) :
    Calls Try.prog 45 #[.pointer (some ⟨t, 0, none⟩), .int .u8 (a : Int)] w fun e w' => e = .returned (.slice (some ⟨w.heap.size, 0, none⟩) 256 256) ∧
      w'.rowIs w.heap.size 5 256 (fun x => .int .u8 (fm 285 a x : Nat)) ∧ Below w.heap.size w w' ∧ w'.heap.size = w.heap.size + 1 := by
  have hmk := run_make_row' (P := Try.prog) 22 5 (.int .u8 0) 1 Try.underlying22 info_u8 rfl .i64 .i64 256 (by decide) (by decide)
  have hmk : ∀ w, (Instr.makeSlice 22 (.int .i64 256) (.int .i64 256)).run Try.prog w = .ok (.slice (some ⟨w.heap.size, 0, none⟩) 256 256) (w.alloc (.cells (madeCells #[.int .u8 0] 256) 5)) := hmk
  go_enter Try.func45, Try.ntmps45
  go_wp2
  go_loopw [12] (fun i wr => ∃ k : Nat, k ≤ 256 ∧ i = .int .i64 k ∧ wr.heap.size = w.heap.size + 1 ∧
      wr.rowIs w.heap.size 5 256 (fun x => .int .u8 (if x < k then (fm 285 a x : Nat) else 0)) ∧ Below w.heap.size w wr) (fun i _ => 256 - (intOf i).toNat)
  case atStart =>
    refine ⟨0, by decide, rfl, by simp, ?_, (Below.refl _ _).alloc (Nat.le_refl _) _⟩
    exact (World.rowIs_made w (.int .u8 0) 256 5).congr (fun i _ => by simp)
  case round =>
    obtain ⟨k, hk, rfl, hsz, hr, hb⟩ := hrel
    by_cases hlt : k < 256
    · have htr : Tab8 wr t := ht.of_heap (hb.block t ht.lt)
      have c1 := tmul_nat t a k wr htr ha hlt
      have q := hr.cell hlt
      have f := hr.frozen k
      simp only [Nat.lt_irrefl, if_false] at q
      have HR : Hid (wr.heap.size = w.heap.size + 1 ∧ wr.rowIs w.heap.size 5 256 (fun x => .int .u8 (if x < k then (fm 285 a x : Nat) else 0))) := ⟨hsz, hr⟩
      clear hsz hr htr ht
      go_wp2_with (go_at_call 47; ((with_reducible refine (c1).mono ?_); rintro e w' ⟨rfl, m, rfl⟩))
      go_roundw
      case rel =>
        obtain ⟨g0, g1⟩ := HR.out
        refine ⟨k + 1, by omega, by go_num, by simp [g0], ?_, (below_drewN' hb _).setCell (by simp) _⟩
        refine (World.rowIs.set (w := wr.drewN m) (b := w.heap.size) g1 k _).congr (fun i hi => ?_)
        by_cases e : i = k
        · subst e; simp
        · by_cases e2 : i < k
          · simp [e, e2, show i < k + 1 by omega]
          · simp [e, e2, show ¬ i < k + 1 by omega]
      case measure => simp [intOf]; omega
    · have hk5 : k = 256 := by omega
      subst hk5
      go_wp2
      go_ret
      exact ⟨rfl, hr.congr (fun i hi => by simp [hi]), hb, hsz⟩
end Go.Proofs.Ytdeophhcbkahgaa
namespace Go.Proofs.Ytdeophhcbkahgaa
open Go.RowKit Gf2
set_option linter.unusedVariables false

set_option maxRecDepth 1000000 in
theorem zero_ker (w : World) : (zeroValue 95).run Try.prog w = .ok (.agg (Array.replicate 65536 (Value.int .u8 0))) w := by kernel_rfl

/-- the first m rows laid. -/
def LaidK (A : Array Value) (m : Nat) : Prop := A.size = 65536 ∧ ∀ a b, a < m → b < 256 → A[a * 256 + b]? = some (.int .u8 (fm 285 a b : Nat))
theorem LaidK.zero : LaidK (Array.replicate 65536 (Value.int .u8 0)) 0 := ⟨Array.size_replicate, fun a b h => absurd h (Nat.not_lt_zero _)⟩

/-- copy of a list of 256 bytes into the row c of the kernel's block. -/
theorem copy_ker (w : World) {g b c : Nat} {A : Array Value} (hA : w.heap[g]? = some (.cells A 95 (0, 0))) (hL : LaidK A c) (hc : c < 256)
    (hcell : ∀ i, i < 256 → w.cell? ⟨b, i, none⟩ = some (.int .u8 (fm 285 c i : Nat))) :
    ∃ A', (Builtin.copy_ #[22, 22] 3 #[.slice (some ⟨g, c * 256, none⟩) 256 256, .slice (some ⟨b, 0, none⟩) 256 256]).run Try.prog w = .ok (goInt 256) (w.setRow g A') ∧ LaidK A' (c + 1) := by
  obtain ⟨hs, hv⟩ := hL
  obtain ⟨cs, hcs⟩ : ∃ cs : List Value, cs = (List.range 256).map (fun i => Value.int .u8 (fm 285 c i : Nat)) := ⟨_, rfl⟩
  have hlen : cs.length = 256 := by rw [hcs, List.length_map, List.length_range]
  have hget : ∀ j, j < 256 → cs[j]? = some (Value.int .u8 (fm 285 c j : Nat)) := fun j hj => by rw [hcs, List.getElem?_map, List.getElem?_range hj]; rfl
  have hr := run_copy_row (P := Try.prog) w 22 22 3 5 g (c * 256) 256 256 ⟨b, 0, none⟩ 256 256 A 95 cs Try.underlying22 info_u8s hA (by rw [hlen]; rfl)
    (fun j u hu => by
      have hj : j < 256 := by
        rcases Nat.lt_or_ge j 256 with h9 | h9
        · exact h9
        · rw [List.getElem?_eq_none (by omega)] at hu; cases hu
      rw [hget j hj] at hu
      cases hu
      have ea : (⟨b, 0, none⟩ : Addr).add j = ⟨b, j, none⟩ := by unfold Addr.add; split <;> simp_all
      rw [ea]
      exact hcell j hj) (by rw [hlen, hs]; omega) (fun u hu => by
      rw [hcs] at hu
      obtain ⟨x, _, rfl⟩ := List.mem_map.1 hu
      rfl)
  rw [hlen] at hr
  have hsl : A.toList.length = 65536 := by rw [Array.length_toList, hs]
  have ht : (A.toList.take (c * 256)).length = c * 256 := by rw [List.length_take, hsl]; omega
  refine ⟨_, hr, ?_, fun a i ha hi => ?_⟩
  · rw [List.size_toArray, List.length_append, List.length_append, ht, hlen, List.length_drop, hsl]; omega
  · rw [List.getElem?_toArray]
    by_cases e : a = c
    · subst e
      rw [List.getElem?_append_left (by rw [List.length_append, ht, hlen]; omega), List.getElem?_append_right (by rw [ht]; omega), ht, Nat.add_sub_cancel_left]
      exact hget i hi
    · have hac : a < c := by omega
      have hlt : a * 256 + i < c * 256 := by omega
      rw [List.append_assoc, List.getElem?_append_left (by rw [ht]; exact hlt), List.getElem?_take_of_lt hlt, Array.getElem?_toList]
      exact hv a i hac hi
theorem wrap_small {a : Nat} (h : a < 256) : IntKind.u8.wrap ((a : Nat) : Int) = (a : Int) := by rw [IntKind.wrap_u8]; omega
theorem only_setRow5 (g : Nat) (w : World) (A : Array Value) : Only g w (w.setRow g A) := (Only.refl _ _).setRow _

set_option maxHeartbeats 4000000 in
set_option maxRecDepth 100000 in
theorem tknew_any (w : World) :
    Calls Try.prog 39 #[] w fun e w' => ∃ p, e = .returned (.pointer (some p)) ∧ Ker w' p w.heap.size w'.heap.size ∧ Below w.heap.size w w' := by
  obtain ⟨Z, hZ⟩ : ∃ Z, Z = Array.replicate 65536 (Value.int .u8 0) := ⟨_, rfl⟩
  have hz := fun w => zero_ker w
  rw [← hZ] at hz
  have HZ : Hid (LaidK Z 0) := by rw [hZ]; exact LaidK.zero
  clear hZ
  have cN := fun W => new_any W
  go_enter Try.func39, Try.ntmps39
  go_wp2_with (go_at_call 44; (with_reducible refine (cN _).mono ?_); rintro e w1 ⟨rfl, s1, t1, b1⟩)
  have b0 : Below w.heap.size w w1 := ((Below.refl _ _).alloc (Nat.le_refl _) _).trans (b1.mono (by simp))
  have hk : w1.heap[w.heap.size]? = some (.cells Z 95 (0, 0)) := (b1.block _ (by simp)).trans (heap_alloc_new _ _)
  have es : (w.alloc (.cells Z 95)).heap.size = w.heap.size + 1 := by simp
  rw [es] at s1 t1
  clear hz cN b1
  go_loopw [7] (fun i wr => ∃ a : Nat, a ≤ 256 ∧ i = .int .i64 a ∧ w.heap.size + 2 ≤ wr.heap.size ∧ (∃ A, wr.heap[w.heap.size]? = some (.cells A 95 (0, 0)) ∧ LaidK A a) ∧ Tab8 wr (w.heap.size + 1) ∧ Below w.heap.size w wr) (fun i _ => 256 - (intOf i).toNat)
  case atStart => exact ⟨0, by decide, rfl, by omega, ⟨_, hk, HZ.out⟩, t1, b0⟩
  case round =>
    obtain ⟨a, ha, rfl, hs, ⟨A, hA, hL⟩, hT, hb⟩ := hrel
    by_cases hlt : a < 256
    · have ia : ((a : Nat) : Int) < 256 := by omega
      have m1 : IntKind.u8.wrap ((a : Nat) : Int) = (a : Int) := wrap_small hlt
      have cR := trow_nat (w.heap.size + 1) a wr.drew hT hlt
      have HH : Hid (w.heap.size + 2 ≤ wr.heap.size ∧ wr.heap[w.heap.size]? = some (.cells A 95 (0, 0)) ∧ LaidK A a ∧ Tab8 wr (w.heap.size + 1) ∧ Below w.heap.size w wr) := ⟨hs, hA, hL, hT, hb⟩
      clear hs hA hL hT hb t1 s1 hk b0 HZ
      go_wp2
      go_region_held (fun _ => True) (trivial) (first
        | (go_at_call 45; (with_reducible refine cR.mono ?_); rintro e x1 ⟨rfl, r1, b1, s1⟩; obtain ⟨A', hrun, hL'⟩ := copy_ker x1 (g := w.heap.size) (b := wr.heap.size) (c := a) ((b1.block _ (Nat.lt_of_lt_of_le (Nat.lt_add_of_pos_right (by decide)) HH.out.1)).trans HH.out.2.1) HH.out.2.2.1 hlt (fun i hi => r1.cell hi)))
      clear hrun cR
      go_wp2
      go_roundw
      case rel =>
        obtain ⟨h1, h2, h3, h4, h5⟩ := HH.out
        have sz : x1.heap.size = wr.heap.size + 1 := s1
        have o1 := only_setRow5 w.heap.size x1 A'
        have bb : Below wr.heap.size wr x1 := ⟨b1.os, b1.tape, b1.output, b1.size, b1.block⟩
        refine ⟨a + 1, by omega, by go_num, by rw [o1.2.1]; omega, ⟨A', setRow_heap _ _ _ _ _ _ ((bb.block _ (by omega)).trans h2), hL'⟩, h4.of_heap ((o1.2.2 _ (by omega)).trans (bb.block _ (by omega))), (h5.trans (bb.mono (by omega))).trans (o1.below (Nat.le_refl _))⟩
      case measure => simp [intOf]; omega
    · have ha6 : a = 256 := by omega
      subst ha6
      go_wp2
      go_ret
      exact ⟨_, rfl, ⟨rfl, by omega, Nat.le_refl _, A, hA, hL.1, fun a b ha hb => hL.2 a b ha hb⟩, hb⟩
end Go.Proofs.Ytdeophhcbkahgaa
