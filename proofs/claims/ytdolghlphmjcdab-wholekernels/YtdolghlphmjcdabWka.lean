import Derived.Test.YtdolghlphmjcdabKj4
import Derived.Test.YtdolghlphmjcdabKzb
import Derived.Test.YtdolghlphmjcdabKj3
import Derived.Test.YtdolghlphmjcdabWalkg
import Derived.Test.YtdolghlphmjcdabKj1
import Derived.Test.YtdolghlphmjcdabEbq
import Derived.Laws.BytesArg
namespace Go.Proofs.Ytdolghlphmjcdab
open Go.RowKit Gf2
set_option linter.unusedVariables false

def xt (a : Nat) : Nat → Nat
  | 0 => a
  | t + 1 => tw (xt a t)
theorem xt_lt {a : Nat} (ha : a < 256) : ∀ t, xt a t < 256
  | 0 => ha
  | t + 1 => tw_lt (xt_lt ha t)
theorem two_pow8 : ∀ t, t < 7 → fm 285 2 (2 ^ t) = 2 ^ (t + 1) := by decide +kernel
theorem xt_fm {a : Nat} (ha : a < 256) : ∀ t, t < 8 → xt a t = fm 285 a (2 ^ t)
  | 0, _ => by show a = fm 285 a 1; rw [fld8.fm_one ha]
  | t + 1, h => by
    show tw (xt a t) = _
    rw [← tw_fm (xt_lt ha t), xt_fm ha t (by omega), ← two_pow8 t (by omega), ← fld8.fm_assoc, fm_comm 285 2 a, fld8.fm_assoc]
theorem bits8 : ∀ b, b < 256 → ∀ t, t < 8 → b % 2 ^ (t + 1) = (b % 2 ^ t) ^^^ (if b / 2 ^ t % 2 = 1 then 2 ^ t else 0) := by decide +kernel
theorem fm_step {a b t : Nat} (ha : a < 256) (hb : b < 256) (ht : t < 8) : fm 285 a (b % 2 ^ (t + 1)) = fm 285 a (b % 2 ^ t) ^^^ (if b / 2 ^ t % 2 = 1 then xt a t else 0) := by
  rw [bits8 b hb t ht, fld8.fm_xor]
  split
  · rw [xt_fm ha t ht]
  · rw [fld8.fm_zero]
theorem and256 : ∀ x, x < 256 → (2 * x) &&& 256 = if 256 ≤ 2 * x then 256 else 0 := by decide +kernel
theorem and1_8 (b t : Nat) (hb : b < 256) : bits BinOp.and IntKind.i64 ((b : Int) / 2 ^ t) 1 = ((b / 2 ^ t % 2 : Nat) : Int) := by
  have h := i64_and_nat (b / 2 ^ t) 1 (Nat.lt_of_le_of_lt (Nat.div_le_self _ _) (by omega)) (by decide)
  rw [Nat.and_one_is_mod] at h
  rw [← h]
  congr 1
set_option maxHeartbeats 2000000 in
set_option maxRecDepth 100000 in
theorem mul8_nat (a b : Nat) (w : World) (ha : a < 256) (hb : b < 256) :
    Calls Try.prog 19 #[.int .u8 (a : Int), .int .u8 (b : Int)] w fun e w' => e = .returned (.int .u8 (fm 285 a b : Nat)) ∧ w' = w := by
  go_enter Try.func19, Try.ntmps19
  go_wp2
  go_loopw [5, 7, 8] (fun xv sv tv wr => ∃ t : Nat, t ≤ 8 ∧ xv = .int .i64 (xt a t : Nat) ∧ sv = .int .i64 (fm 285 a (b % 2 ^ t) : Nat) ∧ tv = .int .i64 t ∧ wr = w) (fun _ _ t _ => 8 - (intOf t).toNat)
  case atStart => exact ⟨0, by decide, rfl, by rw [Nat.pow_zero, Nat.mod_one, fld8.fm_zero]; rfl, rfl, rfl⟩
  case round =>
    obtain ⟨t, ht, rfl, rfl, rfl, hw⟩ := hrel
    have hw := hw.symm
    subst hw
    by_cases hlt : t < 8
    · have hx := xt_lt ha t
      have hs : fm 285 a (b % 2 ^ t) < 256 := fm8_lt _ _
      have A1 := and1_8 b t hb
      have st := fm_step ha hb hlt
      have X1 := i64_xor_nat (fm 285 a (b % 2 ^ t)) (xt a t) (by omega) (by omega)
      have X2 : bits BinOp.and IntKind.i64 ((xt a t : Int) * 2) 256 = (((2 * xt a t) &&& 256 : Nat) : Int) := by
        have := i64_and_nat (2 * xt a t) 256 (by omega) (by decide)
        rw [← this]; congr 1; omega
      rw [and256 _ hx] at X2
      have X3 : bits BinOp.xor IntKind.i64 ((xt a t : Int) * 2) 285 = ((2 * xt a t ^^^ 285 : Nat) : Int) := by
        have := i64_xor_nat (2 * xt a t) 285 (by omega) (by decide)
        rw [← this]; congr 1; omega
      have HT : Hid (t < 8 ∧ xt a (t + 1) = tw (xt a t)) := ⟨hlt, rfl⟩
      have HS : Hid (fm 285 a (b % 2 ^ (t + 1)) = fm 285 a (b % 2 ^ t) ^^^ (if b / 2 ^ t % 2 = 1 then xt a t else 0)) := st
      have it : ((t : Nat) : Int) < 8 := by omega
      have t0 : ((t : Nat) : Int) < 64 := by omega
      clear st
      generalize fm 285 a (b % 2 ^ t) = s at *
      generalize xt a t = x at *
      by_cases hbit : b / 2 ^ t % 2 = 1
      · rw [hbit] at A1
        have A1 : bits BinOp.and IntKind.i64 ((b : Int) / 2 ^ t) 1 = 1 := A1
        have e1 := HS.out
        rw [if_pos hbit] at e1
        have HS : Hid _ := e1
        clear e1 hbit
        by_cases hx2 : 256 ≤ 2 * x
        · rw [if_pos hx2] at X2
          have X2 : bits BinOp.and IntKind.i64 ((x : Int) * 2) 256 = 256 := X2
          have e2 : tw x = 2 * x ^^^ 285 := by unfold tw; rw [if_pos hx2]
          have HX : Hid _ := e2
          clear e2 hx2 ht hlt
          go_wp2
          go_roundw
          case rel => exact ⟨t + 1, HT.out.1, by rw [HT.out.2, HX.out], by rw [HS.out], rfl, by first | trivial | rfl⟩
          case measure => exact meas_lt8 HT.out.1
        · rw [if_neg hx2] at X2
          have X2 : bits BinOp.and IntKind.i64 ((x : Int) * 2) 256 = 0 := X2
          have e2 : tw x = 2 * x := by unfold tw; rw [if_neg hx2]
          have HX : Hid _ := e2
          clear e2 hx2 ht hlt X3
          go_wp2
          go_roundw
          case rel => exact ⟨t + 1, HT.out.1, by rw [HT.out.2, HX.out]; congr 1; omega, by rw [HS.out], rfl, by first | trivial | rfl⟩
          case measure => exact meas_lt8 HT.out.1
      · have h0 : b / 2 ^ t % 2 = 0 := by omega
        rw [h0] at A1
        have A1 : bits BinOp.and IntKind.i64 ((b : Int) / 2 ^ t) 1 = 0 := A1
        have e1 := HS.out
        rw [if_neg hbit, Nat.xor_zero] at e1
        have HS : Hid _ := e1
        clear e1 hbit X1 h0
        by_cases hx2 : 256 ≤ 2 * x
        · rw [if_pos hx2] at X2
          have X2 : bits BinOp.and IntKind.i64 ((x : Int) * 2) 256 = 256 := X2
          have e2 : tw x = 2 * x ^^^ 285 := by unfold tw; rw [if_pos hx2]
          have HX : Hid _ := e2
          clear e2 hx2 ht hlt
          go_wp2
          go_roundw
          case rel => exact ⟨t + 1, HT.out.1, by rw [HT.out.2, HX.out], by rw [HS.out], rfl, by first | trivial | rfl⟩
          case measure => exact meas_lt8 HT.out.1
        · rw [if_neg hx2] at X2
          have X2 : bits BinOp.and IntKind.i64 ((x : Int) * 2) 256 = 0 := X2
          have e2 : tw x = 2 * x := by unfold tw; rw [if_neg hx2]
          have HX : Hid _ := e2
          clear e2 hx2 ht hlt X3
          go_wp2
          go_roundw
          case rel => exact ⟨t + 1, HT.out.1, by rw [HT.out.2, HX.out]; congr 1; omega, by rw [HS.out], rfl, by first | trivial | rfl⟩
          case measure => exact meas_lt8 HT.out.1
    · obtain rfl : t = 8 := by omega
      have hs : fm 285 a b < 256 := fm8_lt _ _
      have e8 : b % 2 ^ 8 = b := Nat.mod_eq_of_lt hb
      rw [e8]
      go_wp2
      go_ret
      exact ⟨by first | rfl | exact ret_int (by omega), by first | trivial | rfl⟩
/-- what clone answers: a new block. -/
theorem clone9 (u : Value) (n : Nat) (S : Nat → Nat) (w : World) (h : Rb w u n S) (hn : n ≤ 140737488355328) :
    Calls Try.prog 23 #[u] w fun e w' => ∃ g C, e = .returned (.slice (some ⟨g, 0, none⟩) n C) ∧ Own8 w w' g C n S := by
  obtain ⟨x, cx, rfl⟩ : ∃ x cx, u = .slice x n cx := by obtain ⟨_, _, a, cap, h, _⟩ := h; exact ⟨a, cap, h⟩
  obtain ⟨w1, g, C, F0, hrun, hC, hg, hg1, hR, hF, hb⟩ := copy_app w h hn
  have HA : Hid (Own8 w w1 g C n S) := ⟨hC, hg, hb, _, hR, hF⟩
  clear h hC hg hR hb hF hg1
  go_enter Try.func23, Try.ntmps23
  go_wp2_with (at_builtin; refine Lib.wpList_append_run _ rfl _ _ _ _ rfl _ _ rfl rfl _ _ hrun ?_)
  go_ret
  exact ⟨g, C, rfl, HA.out⟩
end Go.Proofs.Ytdolghlphmjcdab
