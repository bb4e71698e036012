import Derived.Test.YtoofoamondepoaaDoorLra
namespace Go.Proofs.YtoofoamondepoaaDoor
open Go.RowKit Gf2
set_option linter.unusedVariables false

/-- the product over the bits below T. -/
def bsv (j x : Nat) : Nat → Nat
  | 0 => 1
  | T + 1 => if j / 2 ^ T % 2 = 1 then fm 65581 (bsv j x T) (sv T x) else bsv j x T
theorem bsv_lt (j x T : Nat) : bsv j x T < 65536 := by
  induction T with
  | zero => exact (by decide : 1 < 65536)
  | succ T ih =>
    unfold bsv
    split
    · exact fm16_lt _ _
    · exact ih
/-- what Basis answers. -/
def bsn (j : Int) (x : Nat) : Nat := if 0 ≤ j ∧ j < 65536 then bsv j.toNat x 16 else 0
def bse (j : Int) : Nat := if 0 ≤ j ∧ j < 65536 then 0 else 31
theorem vanish13b (i x : Nat) (hi : i ≤ 16) (hx : x < 65536) (w : World) (hC : Cant w) :
    Calls Tryd.prog 29 #[.int .i64 (i : Int), .int .u16 (x : Int)] w fun e w' => e = .returned (.int .u16 (sv i x : Nat)) ∧ Below w.heap.size w w' := (vanish13 i x hi hx w hC).mono fun e w' ⟨h1, h2⟩ => ⟨h1, by rw [h2]; exact Below.refl _ _⟩
set_option maxHeartbeats 4000000 in
set_option maxRecDepth 100000 in
theorem basis13 (j : Int) (x : Nat) (hx : x < 65536) (w : World) (hC : Cant w) :
    Calls Tryd.prog 43 #[.int .i64 j, .int .u16 (x : Int)] w fun e w' => e = .returned (.tuple #[.int .u16 (bsn j x : Nat), .int .i64 (bse j : Nat)]) ∧ Below w.heap.size w w' := by
  by_cases h : 0 ≤ j ∧ j < 65536
  · have e1 : bsn j x = bsv j.toNat x 16 ∧ bse j = 0 := by unfold bsn bse; rw [if_pos h, if_pos h]; exact ⟨rfl, rfl⟩
    rw [e1.1, e1.2]
    obtain ⟨J, rfl⟩ := Int.eq_ofNat_of_zero_le h.1
    have hJ : J < 65536 := by omega
    rw [show ((J : Int).toNat) = J from rfl]
    have D1 : decide ((J : Int) < 0) = false := by simp
    have D2 : decide ((65536 : Int) ≤ (J : Int)) = false := by simp; omega
    have D3 : decide ((65535 : Int) < (J : Int)) = false := by simp; omega
    have HJ : Hid (J < 65536 ∧ x < 65536) := ⟨hJ, hx⟩
    clear e1 h hJ hx
    go_enter Tryd.func43, Tryd.ntmps43
    go_wp2
    go_loopw [6, 14] (fun pv9 tv wq => ∃ t : Nat, t ≤ 16 ∧ tv = .int .i64 t ∧ pv9 = .int .u16 (bsv J x t : Nat) ∧ Below w.heap.size w wq) (fun _ tv _ => 16 - (intOf tv).toNat)
    case atStart => exact ⟨0, Nat.zero_le _, rfl, rfl, Below.refl _ _⟩
    case round =>
      obtain ⟨t, ht, rfl, rfl, hb⟩ := hrel
      by_cases hlt : t < 16
      · have A1 := i64_andH J t (Nat.lt_trans HJ.out.1 (by decide))
        have tb : ((t : Nat) : Int) < 16 := Int.ofNat_lt.2 hlt
        have W1 := wrap_succ8 (j := t) (Nat.lt_trans hlt (by decide))
        have M : min t 64 = t := Nat.min_eq_left (Nat.le_trans ht (by decide))
        have U1 : IntKind.u64.wrap (t : Int) = (t : Int) := by rw [IntKind.wrap_u64]; omega
        by_cases hbit : J / 2 ^ t % 2 = 1
        · rw [hbit] at A1
          have HS : Hid (bsv J x (t + 1) = fm 65581 (bsv J x t) (sv t x)) := by show bsv J x (t + 1) = _; rw [bsv, if_pos hbit]
          have c2 := vanish13b t x ht HJ.out.2 wr (hC.below hb)
          have c3 := fun w => hmul_nat (bsv J x t) (sv t x) w (bsv_lt _ _ _) (sv_lt _ _)
          have HB : Hid (Below w.heap.size w wr) := hb
          obtain ⟨P, hP⟩ : ∃ P, P = bsv J x t := ⟨_, rfl⟩
          obtain ⟨V, hV⟩ : ∃ V, V = sv t x := ⟨_, rfl⟩
          rw [← hP] at HS c3 ⊢
          rw [← hV] at HS c2 c3
          clear hbit hb hP hV
          go_wp2_with (first | (go_at_call 29; ((with_reducible refine (c2).mono ?_); (rintro e w9 ⟨rfl, h9⟩; have HB9 : Hid (Below w.heap.size w w9) := bthen13 HB.out h9; clear h9))) | (go_at_call 17; ((with_reducible refine (c3 _).mono ?_); (rintro e w8 ⟨rfl, hw8⟩; have hw8 := hw8.symm; subst hw8))))
          go_roundw
          case rel => exact ⟨t + 1, hlt, by first | rfl | (rw [W1]; rfl), by rw [HS.out], HB9.out⟩
          case measure => first | exact meas_lt8 hlt | (rw [W1]; exact meas_lt8 hlt)
        · have hb0 : J / 2 ^ t % 2 = 0 := by omega
          rw [hb0] at A1
          have HS : Hid (bsv J x (t + 1) = bsv J x t) := by show bsv J x (t + 1) = _; rw [bsv, if_neg hbit]
          have HB : Hid (Below w.heap.size w wr) := hb
          clear hbit hb0 hb
          go_wp2
          go_roundw
          case rel => exact ⟨t + 1, hlt, by first | rfl | (rw [W1]; rfl), by rw [HS.out], HB.out⟩
          case measure => first | exact meas_lt8 hlt | (rw [W1]; exact meas_lt8 hlt)
      · have ht6 : t = 16 := Nat.le_antisymm ht (Nat.le_of_not_lt hlt)
        subst ht6
        have HB : Hid (Below w.heap.size w wr) := hb
        clear hb
        go_wp2
        go_ret2
        exact ⟨rfl, HB.out⟩
  · have e1 : bsn j x = 0 ∧ bse j = 31 := by unfold bsn bse; rw [if_neg h, if_neg h]; exact ⟨rfl, rfl⟩
    rw [e1.1, e1.2]
    by_cases h1 : j < 0
    · have D1 : decide (j < 0) = true := by simpa using h1
      clear h h1 e1
      go_enter Tryd.func43, Tryd.ntmps43
      go_wp2
      go_ret2
      exact ⟨rfl, Below.refl _ _⟩
    · have D1 : decide (j < 0) = false := by simpa using h1
      have D2 : decide (65536 ≤ j) = true := by simp; omega
      have D3 : decide (65535 < j) = true := by simp; omega
      clear h h1 e1
      go_enter Tryd.func43, Tryd.ntmps43
      go_wp2
      go_ret2
      exact ⟨rfl, Below.refl _ _⟩
set_option maxHeartbeats 4000000 in
set_option maxRecDepth 100000 in
theorem refBasis13 (j : Int) (x : Nat) (hx : x < 65536) (w : World) :
    Calls Tryd.prog 44 #[.int .i64 j, .int .u16 (x : Int)] w fun e w' => e = .returned (.tuple #[.int .u16 (bsn j x : Nat), .int .i64 (bse j : Nat)]) ∧ Below w.heap.size w w' := by
  by_cases h : 0 ≤ j ∧ j < 65536
  · have e1 : bsn j x = bsv j.toNat x 16 ∧ bse j = 0 := by unfold bsn bse; rw [if_pos h, if_pos h]; exact ⟨rfl, rfl⟩
    rw [e1.1, e1.2]
    obtain ⟨J, rfl⟩ := Int.eq_ofNat_of_zero_le h.1
    have hJ : J < 65536 := by omega
    rw [show ((J : Int).toNat) = J from rfl]
    have D1 : decide ((J : Int) < 0) = false := by simp
    have D2 : decide ((65536 : Int) ≤ (J : Int)) = false := by simp; omega
    have D3 : decide ((65535 : Int) < (J : Int)) = false := by simp; omega
    have HJ : Hid (J < 65536 ∧ x < 65536) := ⟨hJ, hx⟩
    clear e1 h hJ hx
    go_enter Tryd.func44, Tryd.ntmps44
    go_wp2
    go_loopw [6, 7] (fun pv9 tv wq => ∃ t : Nat, t ≤ 16 ∧ tv = .int .i64 t ∧ pv9 = .int .u16 (bsv J x t : Nat) ∧ Below w.heap.size w wq) (fun _ tv _ => 16 - (intOf tv).toNat)
    case atStart => exact ⟨0, Nat.zero_le _, rfl, rfl, Below.refl _ _⟩
    case round =>
      obtain ⟨t, ht, rfl, rfl, hb⟩ := hrel
      by_cases hlt : t < 16
      · have A1 := i64_andH J t (Nat.lt_trans HJ.out.1 (by decide))
        have tb : ((t : Nat) : Int) < 16 := Int.ofNat_lt.2 hlt
        have W1 := wrap_succ8 (j := t) (Nat.lt_trans hlt (by decide))
        have M : min t 64 = t := Nat.min_eq_left (Nat.le_trans ht (by decide))
        have U1 : IntKind.u64.wrap (t : Int) = (t : Int) := by rw [IntKind.wrap_u64]; omega
        by_cases hbit : J / 2 ^ t % 2 = 1
        · rw [hbit] at A1
          have HS : Hid (bsv J x (t + 1) = fm 65581 (bsv J x t) (sv t x)) := by show bsv J x (t + 1) = _; rw [bsv, if_pos hbit]
          have c2 := refvanish13 t x wr ht HJ.out.2
          have c3 := fun w => refMulH_nat (bsv J x t) (sv t x) w (bsv_lt _ _ _) (sv_lt _ _)
          have HB : Hid (Below w.heap.size w wr) := hb
          obtain ⟨P, hP⟩ : ∃ P, P = bsv J x t := ⟨_, rfl⟩
          obtain ⟨V, hV⟩ : ∃ V, V = sv t x := ⟨_, rfl⟩
          rw [← hP] at HS c3 ⊢
          rw [← hV] at HS c2 c3
          clear hbit hb hP hV
          go_wp2_with (first | (go_at_call 56; ((with_reducible refine (c2).mono ?_); (rintro e w9 ⟨rfl, h9⟩; have HB9 : Hid (Below w.heap.size w w9) := bthen13 HB.out h9; clear h9))) | (go_at_call 58; ((with_reducible refine (c3 _).mono ?_); (rintro e w8 ⟨rfl, hw8⟩; have hw8 := hw8.symm; subst hw8))))
          go_roundw
          case rel => exact ⟨t + 1, hlt, by first | rfl | (rw [W1]; rfl), by rw [HS.out], HB9.out⟩
          case measure => first | exact meas_lt8 hlt | (rw [W1]; exact meas_lt8 hlt)
        · have hb0 : J / 2 ^ t % 2 = 0 := by omega
          rw [hb0] at A1
          have HS : Hid (bsv J x (t + 1) = bsv J x t) := by show bsv J x (t + 1) = _; rw [bsv, if_neg hbit]
          have HB : Hid (Below w.heap.size w wr) := hb
          clear hbit hb0 hb
          go_wp2
          go_roundw
          case rel => exact ⟨t + 1, hlt, by first | rfl | (rw [W1]; rfl), by rw [HS.out], HB.out⟩
          case measure => first | exact meas_lt8 hlt | (rw [W1]; exact meas_lt8 hlt)
      · have ht6 : t = 16 := Nat.le_antisymm ht (Nat.le_of_not_lt hlt)
        subst ht6
        have HB : Hid (Below w.heap.size w wr) := hb
        clear hb
        go_wp2
        go_ret2
        exact ⟨rfl, HB.out⟩
  · have e1 : bsn j x = 0 ∧ bse j = 31 := by unfold bsn bse; rw [if_neg h, if_neg h]; exact ⟨rfl, rfl⟩
    rw [e1.1, e1.2]
    by_cases h1 : j < 0
    · have D1 : decide (j < 0) = true := by simpa using h1
      clear h h1 e1
      go_enter Tryd.func44, Tryd.ntmps44
      go_wp2
      go_ret2
      exact ⟨rfl, Below.refl _ _⟩
    · have D1 : decide (j < 0) = false := by simpa using h1
      have D2 : decide (65536 ≤ j) = true := by simp; omega
      have D3 : decide (65535 < j) = true := by simp; omega
      clear h h1 e1
      go_enter Tryd.func44, Tryd.ntmps44
      go_wp2
      go_ret2
      exact ⟨rfl, Below.refl _ _⟩
end Go.Proofs.YtoofoamondepoaaDoor
