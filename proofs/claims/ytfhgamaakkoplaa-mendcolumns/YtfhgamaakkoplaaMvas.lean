import Derived.Test.YtfhgamaakkoplaaMvar
import Derived.Deep.QuietTactic
import Derived.BigQuiet
namespace Go.Proofs.Ytfhgamaakkoplaa
open Go.RowKit Gf2

/-- tables in memory. -/
def Tab8 (w : World) (b : Nat) : Prop := ∃ A, w.heap[b]? = some (.cells A 115 (0, 0)) ∧ Laid8 A 255
/-- the logarithm. -/
def l8 (a : Nat) : Nat := lg 285 8 a
theorem l8_lt (a : Nat) : l8 a < 255 := lg_lt 285 a (by decide)
theorem l8_spec {a : Nat} (ha : a < 256) (h0 : a ≠ 0) : fp 285 2 (l8 a) = a := fld8.lg_spec ord8' (by decide) ha h0
theorem Tab8.pow {w : World} {b : Nat} (h : Tab8 w b) {n : Nat} (hn : n < 510) : w.cell? ⟨b, n, none⟩ = some (.int .u8 (fp 285 2 n : Nat)) := by
  obtain ⟨A, hA, -, -, hL⟩ := h
  rw [cell_of_row w b n A _ _ hA]
  by_cases h : n < 255
  · exact (hL n h).1
  · obtain ⟨m, rfl⟩ : ∃ m, n = m + 255 := ⟨n - 255, by omega⟩
    have := fld8.fp_round (a := 2) (by decide) (by decide) m 1
    rw [show m + 255 = m + (2 ^ 8 - 1) * 1 by omega, this]
    exact (hL m (by omega)).2.1
theorem Tab8.log {w : World} {b : Nat} (h : Tab8 w b) {a : Nat} (ha : a < 256) (h0 : a ≠ 0) : w.cell? ⟨b, 510 + a, none⟩ = some (.int .u8 (l8 a : Nat)) := by
  obtain ⟨A, hA, -, -, hL⟩ := h
  rw [cell_of_row w b _ A _ _ hA]
  have := (hL (l8 a) (l8_lt a)).2.2
  rw [l8_spec ha h0] at this
  exact this
theorem Tab8.of_heap {w w' : World} {b : Nat} (h : Tab8 w b) (hh : w'.heap[b]? = w.heap[b]?) : Tab8 w' b := by
  obtain ⟨A, hA, hL⟩ := h
  exact ⟨A, hh.trans hA, hL⟩
theorem Tab8.drewN {w : World} {b : Nat} (h : Tab8 w b) (n : Nat) : Tab8 (w.drewN n) b := h
theorem Tab8.lt {w : World} {b : Nat} (h : Tab8 w b) : b < w.heap.size := by
  obtain ⟨A, hA, hL⟩ := h
  exact (Array.getElem?_eq_some_iff.1 hA).1

set_option maxHeartbeats 400000 in
set_option maxRecDepth 100000 in
theorem tlog_nat (a b : Nat) (w : World) (ht : Tab8 w b) (ha : a < 256) (h0 : a ≠ 0) :
    Calls Try.prog 62 #[.pointer (some ⟨b, 0, none⟩), .int .u8 (a : Int)] w fun e w' => e = .returned (.int .i64 (l8 a : Nat)) ∧ w' = w := by
  have q := ht.log ha h0
  have l1 := l8_lt a
  go_enter Try.func62, Try.ntmps62
  go_wp2
  go_ret
  exact ⟨rfl, rfl⟩

set_option maxHeartbeats 1000000 in
set_option maxRecDepth 100000 in
theorem tmul_nat (t a b : Nat) (w : World) (ht : Tab8 w t) (ha : a < 256) (hb : b < 256) :
    Calls Try.prog 43 #[.pointer (some ⟨t, 0, none⟩), .int .u8 (a : Int), .int .u8 (b : Int)] w fun e w' => e = .returned (.int .u8 (fm 285 a b : Nat)) ∧ ∃ m, w' = w.drewN m := by
  by_cases h0 : a = 0
  · subst h0
    rw [fld8.zero_fm]
    go_enter Try.func43, Try.ntmps43
    go_wp2
    go_ret
    exact ⟨rfl, 0, rfl⟩
  · by_cases h1 : b = 0
    · subst h1
      rw [fld8.fm_zero]
      go_enter Try.func43, Try.ntmps43
      go_wp2
      go_ret
      exact ⟨rfl, 0, rfl⟩
    · have e := fld8.fm_lg ord8' (by decide) ha hb h0 h1
      have e : fm 285 a b = fp 285 2 (l8 a + l8 b) := e
      rw [e]
      have la := l8_lt a
      have lb := l8_lt b
      have c1 := fun n => tlog_nat a t (w.drewN n) (ht.drewN n) ha h0
      have c2 := fun n => tlog_nat b t (w.drewN n) (ht.drewN n) hb h1
      have q := ht.pow (n := l8 a + l8 b) (by omega)
      have T1 : ((a : Int) == 0) = false := by simp; omega
      have T2 : ((b : Int) == 0) = false := by simp; omega
      clear ht e h0 h1
      go_enter Try.func43, Try.ntmps43
      go_wp2
      go_quiet ((go_at_call 62; first | (with_reducible exact Calls.quiet_of_same (c1 _)) | (with_reducible exact Calls.quiet_of_same (c2 _))))
      go_wp2
      go_ret
      exact ⟨rfl, _, rfl⟩

set_option maxHeartbeats 400000 in
set_option maxRecDepth 100000 in
theorem tdiv_zero (t a : Nat) (w : World) :
    Calls Try.prog 63 #[.pointer (some ⟨t, 0, none⟩), .int .u8 (a : Int), .int .u8 0] w fun e w' => e = .returned (.tuple #[.int .u8 0, .int .i64 20]) ∧ ∃ m, w' = w.drewN m := by
  go_enter Try.func63, Try.ntmps63
  go_wp2
  go_ret2
  exact ⟨rfl, 0, rfl⟩

set_option maxHeartbeats 1000000 in
set_option maxRecDepth 100000 in
theorem tdiv_nat (t a b : Nat) (w : World) (ht : Tab8 w t) (ha : a < 256) (hb : b < 256) (h1 : b ≠ 0) :
    Calls Try.prog 63 #[.pointer (some ⟨t, 0, none⟩), .int .u8 (a : Int), .int .u8 (b : Int)] w fun e w' => e = .returned (.tuple #[.int .u8 (fm 285 a (fi 285 b) : Nat), .int .i64 0]) ∧ ∃ m, w' = w.drewN m := by
  by_cases h0 : a = 0
  · subst h0
    rw [fld8.zero_fm]
    go_enter Try.func63, Try.ntmps63
    go_wp2
    go_ret2
    exact ⟨rfl, 0, rfl⟩
  · have e := fld8.fi_lg ord8' (by decide) ha hb h0 h1
    have e : fm 285 a (fi 285 b) = fp 285 2 (l8 a + 255 - l8 b) := e
    rw [e]
    have la := l8_lt a
    have lb := l8_lt b
    have c1 := fun n => tlog_nat a t (w.drewN n) (ht.drewN n) ha h0
    have c2 := fun n => tlog_nat b t (w.drewN n) (ht.drewN n) hb h1
    have q := ht.pow (n := l8 a + 255 - l8 b) (by omega)
    clear ht e
    obtain ⟨z, hz⟩ : ∃ z, z = l8 a + 255 - l8 b := ⟨_, rfl⟩
    rw [← hz] at q ⊢
    have z1 : (l8 a : Int) + 255 - (l8 b : Int) = (z : Int) := by omega
    have z2 : z < 510 := by omega
    clear hz
    go_enter Try.func63, Try.ntmps63
    go_wp2
    go_quiet ((go_at_call 62; first | (with_reducible exact Calls.quiet_of_same (c1 _)) | (with_reducible exact Calls.quiet_of_same (c2 _))))
    go_wp2
    go_ret2
    exact ⟨rfl, _, rfl⟩

set_option maxHeartbeats 400000 in
set_option maxRecDepth 100000 in
theorem tinv_zero (t : Nat) (w : World) :
    Calls Try.prog 44 #[.pointer (some ⟨t, 0, none⟩), .int .u8 0] w fun e w' => e = .returned (.tuple #[.int .u8 0, .int .i64 20]) ∧ ∃ m, w' = w.drewN m := by
  have c1 := tdiv_zero t 1 w
  have c1 : Calls Try.prog 63 #[.pointer (some ⟨t, 0, none⟩), .int .u8 1, .int .u8 0] w fun e w' => e = .returned (.tuple #[.int .u8 0, .int .i64 20]) ∧ ∃ m, w' = w.drewN m := c1
  go_enter Try.func44, Try.ntmps44
  go_wp2_with (go_at_call 63; ((with_reducible refine (c1).mono ?_); rintro e w' ⟨rfl, m, rfl⟩))
  go_ret2
  exact ⟨rfl, _, rfl⟩

set_option maxHeartbeats 400000 in
set_option maxRecDepth 100000 in
theorem tinv_nat (t a : Nat) (w : World) (ht : Tab8 w t) (ha : a < 256) (h0 : a ≠ 0) :
    Calls Try.prog 44 #[.pointer (some ⟨t, 0, none⟩), .int .u8 (a : Int)] w fun e w' => e = .returned (.tuple #[.int .u8 (fi 285 a : Nat), .int .i64 0]) ∧ ∃ m, w' = w.drewN m := by
  have c1 := tdiv_nat t 1 a w ht (by decide) ha h0
  rw [fld8.one_fm (fi8_lt ha h0)] at c1
  have c1 : Calls Try.prog 63 #[.pointer (some ⟨t, 0, none⟩), .int .u8 1, .int .u8 (a : Int)] w fun e w' => e = .returned (.tuple #[.int .u8 (fi 285 a : Nat), .int .i64 0]) ∧ ∃ m, w' = w.drewN m := c1
  clear ht
  go_enter Try.func44, Try.ntmps44
  go_wp2_with (go_at_call 63; ((with_reducible refine (c1).mono ?_); rintro e w' ⟨rfl, m, rfl⟩))
  go_ret2
  exact ⟨rfl, _, rfl⟩

end Go.Proofs.Ytfhgamaakkoplaa
