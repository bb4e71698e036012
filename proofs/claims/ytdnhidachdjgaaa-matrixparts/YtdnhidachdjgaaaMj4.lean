import Derived.Test.YtdnhidachdjgaaaMj2
import Derived.Below
import Derived.Laws.Tables
import Derived.Laws.CopyOwn
import Derived.Deep.QuietTactic
import Derived.BigQuiet
import Derived.Deep.OwnRows
import Derived.Deep.RegionWith
namespace Go.Proofs.Ytdnhidachdjgaaa
open Go.RowKit Gf2

theorem ord8' : IsOrd 2 285 (2 ^ 8 - 1) := ord_8
/-- the first k powers laid. -/
def Laid8 (A : Array Value) (k : Nat) : Prop := A.size = 766 ∧ (∀ j, j < 766 → ∃ v : Nat, v < 256 ∧ A[j]? = some (.int .u8 (v : Int))) ∧
  ∀ n, n < k → A[n]? = some (.int .u8 (fp 285 2 n : Nat)) ∧ A[n + 255]? = some (.int .u8 (fp 285 2 n : Nat)) ∧ A[510 + fp 285 2 n]? = some (.int .u8 (n : Nat))

theorem Laid8.zero : Laid8 (Array.replicate 766 (Value.int .u8 0)) 0 := by
  refine ⟨Array.size_replicate, fun j hj => ⟨0, by decide, ?_⟩, fun n hn => absurd hn (by omega)⟩
  rw [Array.getElem?_replicate, if_pos hj]; rfl

theorem zero_tab (w : World) : (zeroValue 86).run Try.prog w = .ok (.agg (Array.replicate 766 (Value.int .u8 0))) w := by
  kernel_rfl

theorem Laid8.put {A : Array Value} {k : Nat} (h : Laid8 A k) (hk : k < 255) :
    Laid8 (((A.setIfInBounds k (.int .u8 (fp 285 2 k : Nat))).setIfInBounds (k + 255) (.int .u8 (fp 285 2 k : Nat))).setIfInBounds (510 + fp 285 2 k) (.int .u8 (k : Nat))) (k + 1) := by
  obtain ⟨h1, h2, h3⟩ := h
  have hf := fp8_lt 2 k
  refine ⟨by simp [h1], fun j hj => ?_, fun n hn => ?_⟩
  · simp only [Array.getElem?_setIfInBounds, Array.size_setIfInBounds, h1]
    by_cases e3 : 510 + fp 285 2 k = j
    · exact ⟨k, by omega, by rw [if_pos e3, if_pos (by omega)]⟩
    · rw [if_neg e3]
      by_cases e2 : k + 255 = j
      · exact ⟨fp 285 2 k, hf, by rw [if_pos e2, if_pos (by omega)]⟩
      · rw [if_neg e2]
        by_cases e1 : k = j
        · exact ⟨fp 285 2 k, hf, by rw [if_pos e1, if_pos (by omega)]⟩
        · rw [if_neg e1]; exact h2 j hj
  · have hfn := fp8_lt 2 n
    simp only [Array.getElem?_setIfInBounds, Array.size_setIfInBounds, h1]
    by_cases e : n = k
    · subst e
      refine ⟨?_, ?_, ?_⟩
      · rw [if_neg (by omega), if_neg (by omega), if_pos rfl, if_pos (by omega)]
      · rw [if_neg (by omega), if_pos rfl, if_pos (by omega)]
      · rw [if_pos rfl, if_pos (by omega)]
    · have hn' : n < k := by omega
      obtain ⟨g1, g2, g3⟩ := h3 n hn'
      have hne : fp 285 2 k ≠ fp 285 2 n := fun e2 => e (fld8.inj ord8' (by decide) (by show n < 255; omega) (by show k < 255; omega) e2.symm)
      refine ⟨?_, ?_, ?_⟩
      · rw [if_neg (by omega), if_neg (by omega), if_neg (by omega)]; exact g1
      · rw [if_neg (by omega), if_neg (by omega), if_neg (by omega)]; exact g2
      · rw [if_neg (by omega), if_neg (by omega), if_neg (by omega)]; exact g3

set_option maxHeartbeats 2000000 in
set_option maxRecDepth 100000 in
theorem new_any (w : World) :
    Calls Try.prog 38 #[] w fun e w' => e = .returned (.pointer (some ⟨w.heap.size, 0, none⟩)) ∧ w'.heap.size = w.heap.size + 1 ∧ (∃ A, w'.heap[w.heap.size]? = some (.cells A 86 (0, 0)) ∧ Laid8 A 255) ∧ Below w.heap.size w w' := by
  have hz := fun w => zero_tab w
  go_enter Try.func38, Try.ntmps38
  go_wp2
  go_loopw [2, 6] (fun x i wr => ∃ k : Nat, k ≤ 255 ∧ x = .int .u8 (fp 285 2 k : Nat) ∧ i = .int .i64 k ∧ wr.heap.size = w.heap.size + 1 ∧
      (∃ A, wr.heap[w.heap.size]? = some (.cells A 86 (0, 0)) ∧ Laid8 A k) ∧ Below w.heap.size w wr) (fun _ i _ => 255 - (intOf i).toNat)
  case atStart =>
    refine ⟨0, by decide, rfl, rfl, by simp, ⟨_, ?_, Laid8.zero⟩, (Below.refl _ _).alloc (Nat.le_refl _) _⟩
    exact heap_alloc_new _ _
  case round =>
    obtain ⟨k, hk, rfl, rfl, hsz, ⟨A, hA, hL⟩, hb⟩ := hrel
    by_cases hlt : k < 255
    · have l1 := fp8_lt 2 k
      have c1 := fun w => gmul_nat (fp 285 2 k) 2 w l1 (by decide)
      have e1 := fld8.fp_succ (a := 2) (by decide) k
      rw [← e1] at c1
      clear e1
      have hL' := hL.put hlt
      obtain ⟨v0, -, e0⟩ := hL.2.1 k (by omega)
      obtain ⟨v1, -, e1⟩ := hL.2.1 (k + 255) (by omega)
      obtain ⟨v2, -, e2⟩ := hL.2.1 (510 + fp 285 2 k) (by omega)
      have q0 := cell_of_row wr w.heap.size k A _ _ hA
      have q1 := cell_of_row wr w.heap.size (k + 255) A _ _ hA
      have q2 := cell_of_row wr w.heap.size (510 + fp 285 2 k) A _ _ hA
      rw [e0] at q0
      rw [e1] at q1
      rw [e2] at q2
      have f0 := frozen_of_row wr w.heap.size k A _ hA
      have f1 := frozen_of_row wr w.heap.size (k + 255) A _ hA
      have f2 := frozen_of_row wr w.heap.size (510 + fp 285 2 k) A _ hA
      have HR : Hid (wr.heap[w.heap.size]? = some (.cells A 86 (0, 0)) ∧ wr.heap.size = w.heap.size + 1) := ⟨hA, hsz⟩
      have HL : Hid (Laid8 _ (k + 1)) := hL'
      clear hA hL hL' e0 e1 e2 hsz
      have c1 : ∀ w, Calls Try.prog 65 #[.int .u8 (fp 285 2 k : Nat), .int .u8 2] w fun e w' => e = .returned (.int .u8 (fp 285 2 (k + 1) : Nat)) ∧ w' = w := c1
      go_wp2_with (go_at_call 65; ((with_reducible refine (c1 _).mono ?_); rintro e w' ⟨rfl, rfl⟩))
      go_roundw
      case rel =>
        obtain ⟨g0, g1⟩ := HR.out
        refine ⟨k + 1, by omega, rfl, by go_num, by simp [g1], ⟨_, ?_, HL.out⟩, ((hb.setCell (by simp) _).setCell (by simp) _).setCell (by simp) _⟩
        exact heap_setCell_same _ _ _ _ _ _ (heap_setCell_same _ _ _ _ _ _ (heap_setCell_same _ _ _ _ _ _ g0))
      case measure => simp [intOf]; omega
    · have hk5 : k = 255 := by omega
      subst hk5
      go_wp2
      go_ret
      exact ⟨rfl, hsz, ⟨A, hA, hL⟩, hb⟩
end Go.Proofs.Ytdnhidachdjgaaa
namespace Go.Proofs.Ytdnhidachdjgaaa
open Go.RowKit Gf2

/-- tables in memory. -/
def Tab8 (w : World) (b : Nat) : Prop := ∃ A, w.heap[b]? = some (.cells A 86 (0, 0)) ∧ Laid8 A 255
/-- the logarithm. -/
def l8 (a : Nat) : Nat := lg 285 8 a
theorem l8_lt (a : Nat) : l8 a < 255 := lg_lt 285 a (by decide)
theorem l8_spec {a : Nat} (ha : a < 256) (h0 : a ≠ 0) : fp 285 2 (l8 a) = a := fld8.lg_spec ord8' (by decide) ha h0
theorem l8_fp {n : Nat} (hn : n < 255) : l8 (fp 285 2 n) = n := fld8.lg_fp ord8' (by decide) hn
theorem Tab8.pow {w : World} {b : Nat} (h : Tab8 w b) {n : Nat} (hn : n < 510) : w.cell? ⟨b, n, none⟩ = some (.int .u8 (fp 285 2 n : Nat)) := by
  obtain ⟨A, hA, -, -, hL⟩ := h
  rw [cell_of_row w b n A _ _ hA]
  by_cases h : n < 255
  · exact (hL n h).1
  · obtain ⟨m, rfl⟩ : ∃ m, n = m + 255 := ⟨n - 255, by omega⟩
    have := fld8.fp_round (a := 2) (by decide) (by decide) m 1
    rw [show m + 255 = m + (2 ^ 8 - 1) * 1 by omega, this]
    exact (hL m (by omega)).2.1
theorem Tab8.log {w : World} {b : Nat} (h : Tab8 w b) {a : Nat} (ha : a < 256) (h0 : a ≠ 0) : w.cell? ⟨b, 510 + a, none⟩ = some (.int .u8 (l8 a : Nat)) := by
  obtain ⟨A, hA, -, -, hL⟩ := h
  rw [cell_of_row w b _ A _ _ hA]
  have := (hL (l8 a) (l8_lt a)).2.2
  rw [l8_spec ha h0] at this
  exact this
theorem Tab8.of_heap {w w' : World} {b : Nat} (h : Tab8 w b) (hh : w'.heap[b]? = w.heap[b]?) : Tab8 w' b := by
  obtain ⟨A, hA, hL⟩ := h
  exact ⟨A, hh.trans hA, hL⟩
theorem Tab8.drewN {w : World} {b : Nat} (h : Tab8 w b) (n : Nat) : Tab8 (w.drewN n) b := h
theorem Tab8.lt {w : World} {b : Nat} (h : Tab8 w b) : b < w.heap.size := by
  obtain ⟨A, hA, hL⟩ := h
  exact (Array.getElem?_eq_some_iff.1 hA).1

set_option maxHeartbeats 400000 in
set_option maxRecDepth 100000 in
theorem tlog_nat (a b : Nat) (w : World) (ht : Tab8 w b) (ha : a < 256) (h0 : a ≠ 0) :
    Calls Try.prog 67 #[.pointer (some ⟨b, 0, none⟩), .int .u8 (a : Int)] w fun e w' => e = .returned (.int .i64 (l8 a : Nat)) ∧ w' = w := by
  have q := ht.log ha h0
  have l1 := l8_lt a
  go_enter Try.func67, Try.ntmps67
  go_wp2
  go_ret
  exact ⟨rfl, rfl⟩

set_option maxHeartbeats 400000 in
set_option maxRecDepth 100000 in
theorem tmul_nil (a b : Nat) (w : World) :
    Calls Try.prog 41 #[.pointer none, .int .u8 (a : Int), .int .u8 (b : Int)] w fun e w' => e = .returned (.int .u8 0) ∧ w' = w := by
  go_enter Try.func41, Try.ntmps41
  go_wp2
  go_ret
  exact ⟨rfl, rfl⟩

set_option maxHeartbeats 1000000 in
set_option maxRecDepth 100000 in
theorem tmul_nat (t a b : Nat) (w : World) (ht : Tab8 w t) (ha : a < 256) (hb : b < 256) :
    Calls Try.prog 41 #[.pointer (some ⟨t, 0, none⟩), .int .u8 (a : Int), .int .u8 (b : Int)] w fun e w' => e = .returned (.int .u8 (fm 285 a b : Nat)) ∧ ∃ m, w' = w.drewN m := by
  by_cases h0 : a = 0
  · subst h0
    rw [fld8.zero_fm]
    go_enter Try.func41, Try.ntmps41
    go_wp2
    go_ret
    exact ⟨rfl, 0, rfl⟩
  · by_cases h1 : b = 0
    · subst h1
      rw [fld8.fm_zero]
      go_enter Try.func41, Try.ntmps41
      go_wp2
      go_ret
      exact ⟨rfl, 0, rfl⟩
    · have e := fld8.fm_lg ord8' (by decide) ha hb h0 h1
      have e : fm 285 a b = fp 285 2 (l8 a + l8 b) := e
      rw [e]
      have la := l8_lt a
      have lb := l8_lt b
      have c1 := fun n => tlog_nat a t (w.drewN n) (ht.drewN n) ha h0
      have c2 := fun n => tlog_nat b t (w.drewN n) (ht.drewN n) hb h1
      have q := ht.pow (n := l8 a + l8 b) (by omega)
      have T1 : ((a : Int) == 0) = false := by simp; omega
      have T2 : ((b : Int) == 0) = false := by simp; omega
      clear ht e h0 h1
      go_enter Try.func41, Try.ntmps41
      go_wp2
      go_quiet ((go_at_call 67; first | (with_reducible exact Calls.quiet_of_same (c1 _)) | (with_reducible exact Calls.quiet_of_same (c2 _))))
      go_wp2
      go_ret
      exact ⟨rfl, _, rfl⟩

set_option maxHeartbeats 400000 in
set_option maxRecDepth 100000 in
theorem tdiv_nil (a b : Nat) (w : World) :
    Calls Try.prog 66 #[.pointer none, .int .u8 (a : Int), .int .u8 (b : Int)] w fun e w' => e = .returned (.tuple #[.int .u8 0, .int .i64 1]) ∧ w' = w := by
  go_enter Try.func66, Try.ntmps66
  go_wp2
  go_ret2
  exact ⟨rfl, rfl⟩

set_option maxHeartbeats 400000 in
set_option maxRecDepth 100000 in
theorem tdiv_zero (t a : Nat) (w : World) :
    Calls Try.prog 66 #[.pointer (some ⟨t, 0, none⟩), .int .u8 (a : Int), .int .u8 0] w fun e w' => e = .returned (.tuple #[.int .u8 0, .int .i64 20]) ∧ ∃ m, w' = w.drewN m := by
  go_enter Try.func66, Try.ntmps66
  go_wp2
  go_ret2
  exact ⟨rfl, 0, rfl⟩

set_option maxHeartbeats 1000000 in
set_option maxRecDepth 100000 in
theorem tdiv_nat (t a b : Nat) (w : World) (ht : Tab8 w t) (ha : a < 256) (hb : b < 256) (h1 : b ≠ 0) :
    Calls Try.prog 66 #[.pointer (some ⟨t, 0, none⟩), .int .u8 (a : Int), .int .u8 (b : Int)] w fun e w' => e = .returned (.tuple #[.int .u8 (fm 285 a (fi 285 b) : Nat), .int .i64 0]) ∧ ∃ m, w' = w.drewN m := by
  by_cases h0 : a = 0
  · subst h0
    rw [fld8.zero_fm]
    go_enter Try.func66, Try.ntmps66
    go_wp2
    go_ret2
    exact ⟨rfl, 0, rfl⟩
  · have e := fld8.fi_lg ord8' (by decide) ha hb h0 h1
    have e : fm 285 a (fi 285 b) = fp 285 2 (l8 a + 255 - l8 b) := e
    rw [e]
    have la := l8_lt a
    have lb := l8_lt b
    have c1 := fun n => tlog_nat a t (w.drewN n) (ht.drewN n) ha h0
    have c2 := fun n => tlog_nat b t (w.drewN n) (ht.drewN n) hb h1
    have q := ht.pow (n := l8 a + 255 - l8 b) (by omega)
    clear ht e
    obtain ⟨z, hz⟩ : ∃ z, z = l8 a + 255 - l8 b := ⟨_, rfl⟩
    rw [← hz] at q ⊢
    have z1 : (l8 a : Int) + 255 - (l8 b : Int) = (z : Int) := by omega
    have z2 : z < 510 := by omega
    clear hz
    go_enter Try.func66, Try.ntmps66
    go_wp2
    go_quiet ((go_at_call 67; first | (with_reducible exact Calls.quiet_of_same (c1 _)) | (with_reducible exact Calls.quiet_of_same (c2 _))))
    go_wp2
    go_ret2
    exact ⟨rfl, _, rfl⟩

set_option maxHeartbeats 400000 in
set_option maxRecDepth 100000 in
theorem tinv_nil (a : Nat) (w : World) :
    Calls Try.prog 40 #[.pointer none, .int .u8 (a : Int)] w fun e w' => e = .returned (.tuple #[.int .u8 0, .int .i64 1]) ∧ w' = w := by
  have c1 := tdiv_nil 1 a w
  have c1 : Calls Try.prog 66 #[.pointer none, .int .u8 1, .int .u8 (a : Int)] w fun e w' => e = .returned (.tuple #[.int .u8 0, .int .i64 1]) ∧ w' = w := c1
  go_enter Try.func40, Try.ntmps40
  go_wp2_with (go_at_call 66; ((with_reducible refine (c1).mono ?_); rintro e w' ⟨rfl, rfl⟩))
  go_ret2
  exact ⟨rfl, rfl⟩

set_option maxHeartbeats 400000 in
set_option maxRecDepth 100000 in
theorem tinv_zero (t : Nat) (w : World) :
    Calls Try.prog 40 #[.pointer (some ⟨t, 0, none⟩), .int .u8 0] w fun e w' => e = .returned (.tuple #[.int .u8 0, .int .i64 20]) ∧ ∃ m, w' = w.drewN m := by
  have c1 := tdiv_zero t 1 w
  have c1 : Calls Try.prog 66 #[.pointer (some ⟨t, 0, none⟩), .int .u8 1, .int .u8 0] w fun e w' => e = .returned (.tuple #[.int .u8 0, .int .i64 20]) ∧ ∃ m, w' = w.drewN m := c1
  go_enter Try.func40, Try.ntmps40
  go_wp2_with (go_at_call 66; ((with_reducible refine (c1).mono ?_); rintro e w' ⟨rfl, m, rfl⟩))
  go_ret2
  exact ⟨rfl, _, rfl⟩

set_option maxHeartbeats 400000 in
set_option maxRecDepth 100000 in
theorem tinv_nat (t a : Nat) (w : World) (ht : Tab8 w t) (ha : a < 256) (h0 : a ≠ 0) :
    Calls Try.prog 40 #[.pointer (some ⟨t, 0, none⟩), .int .u8 (a : Int)] w fun e w' => e = .returned (.tuple #[.int .u8 (fi 285 a : Nat), .int .i64 0]) ∧ ∃ m, w' = w.drewN m := by
  have c1 := tdiv_nat t 1 a w ht (by decide) ha h0
  rw [fld8.one_fm (fi8_lt ha h0)] at c1
  have c1 : Calls Try.prog 66 #[.pointer (some ⟨t, 0, none⟩), .int .u8 1, .int .u8 (a : Int)] w fun e w' => e = .returned (.tuple #[.int .u8 (fi 285 a : Nat), .int .i64 0]) ∧ ∃ m, w' = w.drewN m := c1
  clear ht
  go_enter Try.func40, Try.ntmps40
  go_wp2_with (go_at_call 66; ((with_reducible refine (c1).mono ?_); rintro e w' ⟨rfl, m, rfl⟩))
  go_ret2
  exact ⟨rfl, _, rfl⟩

end Go.Proofs.Ytdnhidachdjgaaa
namespace Go.Proofs.Ytdnhidachdjgaaa
open Go.RowKit Gf2

theorem info_u8 : (Try.prog.info? 5).map (fun i => (i.zero, i.size, i.bytes)) = some (some (Value.int .u8 0), 1, 1) := by kernel_rfl
theorem below_drewN' {N : Nat} {a w : World} (h : Below N a w) (n : Nat) : Below N a (w.drewN n) := ⟨h.os, h.tape, h.output, h.size, h.block⟩

end Go.Proofs.Ytdnhidachdjgaaa
namespace Go.Proofs.Ytdnhidachdjgaaa
open Go.RowKit Gf2

/-- what Inv, Div and Log answer, 0 too. -/
def ti (a : Nat) : Nat := if a = 0 then 0 else fi 285 a
def te (a : Nat) : Nat := if a = 0 then 20 else 0
def td (a b : Nat) : Nat := if b = 0 then 0 else fm 285 a (fi 285 b)
def tl (a : Nat) : Nat := if a = 0 then 0 else l8 a
theorem ti_lt {a : Nat} (ha : a < 256) : ti a < 256 := by
  unfold ti; split
  · omega
  · next h => exact fi8_lt ha h
theorem td_lt (a b : Nat) : td a b < 256 := by
  unfold td; split
  · omega
  · exact fm8_lt _ _
theorem tinv_all (t a : Nat) (w : World) (ht : Tab8 w t) (ha : a < 256) :
    Calls Try.prog 40 #[.pointer (some ⟨t, 0, none⟩), .int .u8 (a : Int)] w fun e w' => e = .returned (.tuple #[.int .u8 (ti a : Nat), .int .i64 (te a : Nat)]) ∧ ∃ m, w' = w.drewN m := by
  by_cases h : a = 0
  · subst h; exact tinv_zero t w
  · unfold ti te; rw [if_neg h, if_neg h]; exact tinv_nat t a w ht ha h
theorem tdiv_all (t a b : Nat) (w : World) (ht : Tab8 w t) (ha : a < 256) (hb : b < 256) :
    Calls Try.prog 66 #[.pointer (some ⟨t, 0, none⟩), .int .u8 (a : Int), .int .u8 (b : Int)] w fun e w' => e = .returned (.tuple #[.int .u8 (td a b : Nat), .int .i64 (te b : Nat)]) ∧ ∃ m, w' = w.drewN m := by
  by_cases h : b = 0
  · subst h; exact tdiv_zero t a w
  · unfold td te; rw [if_neg h, if_neg h]; exact tdiv_nat t a b w ht ha hb h
theorem new_tab (w : World) :
    Calls Try.prog 38 #[] w fun e w' => e = .returned (.pointer (some ⟨w.heap.size, 0, none⟩)) ∧ ∃ w0 : World, w' = w0.drewN 0 ∧ w0.heap.size = w.heap.size + 1 ∧ Tab8 w0 w.heap.size ∧ Below w.heap.size w w0 :=
  (new_any w).mono fun _ w' ⟨h1, h2, h3, h4⟩ => ⟨h1, w', rfl, h2, h3, h4⟩
end Go.Proofs.Ytdnhidachdjgaaa
