import Derived.Test.YtidcdbjhkgpjcaaDoorDhba
namespace Go.Proofs.YtidcdbjhkgpjcaaDoor
open Go.RowKit Gf2

/-- what Element answers. -/
def ew (i : Int) : Nat := if 0 ≤ i ∧ i ≤ 65535 then we i.toNat else 0
def ee (i : Int) : Nat := if 0 ≤ i ∧ i ≤ 65535 then 0 else 31
theorem ew_lt (i : Int) : ew i < 65536 := by
  unfold ew; split
  · exact we_lt _
  · decide

set_option maxHeartbeats 2000000 in
set_option maxRecDepth 100000 in
theorem refElement_int (i : Int) (w : World) :
    Calls Tryd.prog 34 #[.int .i64 i] w fun e w' => e = .returned (.tuple #[.int .u16 (ew i : Nat), .int .i64 (ee i : Nat)]) ∧ Below w.heap.size w w' := by
  by_cases h : 0 ≤ i ∧ i ≤ 65535
  · obtain ⟨n, rfl⟩ := Int.eq_ofNat_of_zero_le h.1
    have hn : n ≤ 65535 := by omega
    have e1 : ew (n : Int) = we n := by unfold ew; rw [if_pos h]; rfl
    have e2 : ee (n : Int) = 0 := by unfold ee; rw [if_pos h]
    rw [e1, e2]
    have HW : Hid (we n = lin (cbt 16) n) := we_cbt n
    have D1 : decide ((n : Int) < 0) = false := by simp
    have D2 : decide ((65535 : Int) < (n : Int)) = false := by simp; omega
    have c1 := fun w => refBasis_any w
    clear e1 e2 h
    go_enter Tryd.func34, Tryd.ntmps34
    go_wp2_with (go_at_call 32; ((with_reducible refine (c1 _).mono ?_); (rintro e w1 ⟨g, cap, rfl, hown, hgh, hb⟩)))
    go_loopw [4, 15] (fun wv tv wq => ∃ t : Nat, t ≤ 16 ∧ tv = .int .i64 t ∧ wv = .int .u16 (lin (cbt t) n : Nat) ∧ wq = w1) (fun _ tv _ => 16 - (intOf tv).toNat)
    case atStart => exact ⟨0, by decide, rfl, rfl, rfl⟩
    case round =>
      obtain ⟨t, ht, rfl, rfl, hwq⟩ := hrel
      by_cases hlt : t < 16
      · have q1 := hown.cellAt t (by omega)
        rw [vU_get (cbt_get (by omega)), ← hwq] at q1
        have tb : ((t : Nat) : Int) < 16 := by omega
        have A1 := i64_andH n t (by omega)
        have st := cbt_step t n
        have l1 := cbt_lt t n (by omega)
        have l2 := cbn_lt t hlt
        have HQ : Hid (wr = w1) := hwq
        clear hwq
        by_cases hbit : n / 2 ^ t % 2 = 1
        · have X := u16_xor_nat (lin (cbt t) n) (cbn t) l1 l2
          rw [hbit] at A1
          rw [if_pos hbit] at st
          have HS : Hid (lin (cbt (t + 1)) n = lin (cbt t) n ^^^ cbn t) := st
          clear st hbit
          go_wp2
          go_roundw
          case rel => exact ⟨t + 1, by omega, by go_num, by rw [HS.out], HQ.out⟩
          case measure => simp [intOf]; omega
        · have hb0 : n / 2 ^ t % 2 = 0 := by omega
          rw [hb0] at A1
          rw [if_neg hbit, Nat.xor_zero] at st
          have HS : Hid (lin (cbt (t + 1)) n = lin (cbt t) n) := st
          clear st hbit hb0
          go_wp2
          go_roundw
          case rel => exact ⟨t + 1, by omega, by go_num, by rw [HS.out], HQ.out⟩
          case measure => simp [intOf]; omega
      · have ht6 : t = 16 := by omega
        subst ht6
        subst hwq
        go_wp2
        go_ret2
        rw [HW.out]
        exact ⟨rfl, hb⟩
  · have e1 : ew i = 0 := by unfold ew; rw [if_neg h]
    have e2 : ee i = 31 := by unfold ee; rw [if_neg h]
    rw [e1, e2]
    clear e1 e2
    by_cases h1 : i < 0
    · have D1 : decide (i < 0) = true := by simpa using h1
      clear h
      go_enter Tryd.func34, Tryd.ntmps34
      go_wp2
      go_ret2
      exact ⟨rfl, Below.refl _ _⟩
    · have D1 : decide (i < 0) = false := by simpa using h1
      have D2 : decide (65535 < i) = true := by simp; omega
      clear h h1
      go_enter Tryd.func34, Tryd.ntmps34
      go_wp2
      go_ret2
      exact ⟨rfl, Below.refl _ _⟩

theorem meas_up {l k : Nat} (h : k < l) : l - (intOf (Value.int .i64 ((k : Int) + 1))).toNat < l - (intOf (Value.int .i64 (k : Int))).toNat := by
  simp [intOf]; omega
theorem double_next (e : Nat) : fp 65581 2 (e + 1) = if 65536 ≤ 2 * fp 65581 2 e then 2 * fp 65581 2 e ^^^ 65581 else 2 * fp 65581 2 e := by
  rw [fld16.fp_succ (by decide), fm_comm]
  exact fld16.twice (fp16_lt _ _)
theorem l16_lt (a : Nat) : l16 a < 65535 := lg_lt 65581 a (by decide)
theorem l16_spec {a : Nat} (ha : a < 65536) (h0 : a ≠ 0) : fp 65581 2 (l16 a) = a := fld16.lg_spec ord16' (by decide) ha h0
theorem l16_fp {n : Nat} (hn : n < 65535) : l16 (fp 65581 2 n) = n := fld16.lg_fp ord16' (by decide) hn

end Go.Proofs.YtidcdbjhkgpjcaaDoor
