import Derived.Test.YtoofoamondepoaaDoorLcg
namespace Go.Proofs.YtoofoamondepoaaDoor
open Go.RowKit Gf2
set_option linter.unusedVariables false

theorem add_first (I x y : Nat) (hI : I ≤ 16) (hx : x < 65536) (hy : y < 65536) (w : World) (hC : Cant w) (hT : Tzt w) :
    Calls Tryd.prog 13 #[] w fun e w0 => e = .returned (.bool true) ∧
    Calls Tryd.prog 15 #[.int .i64 (I : Int), .int .u16 (x : Nat)] w0 fun e w1 => e = .returned (.tuple #[.int .u16 (sv I x : Nat), .int .i64 0]) ∧
    Calls Tryd.prog 16 #[.int .i64 (I : Int)] w1 fun e w2 => e = .returned (.tuple #[.slice (some ⟨w1.heap.size, 0, none⟩) (I + 1) (I + 1), .int .i64 0]) ∧
    Calls Tryd.prog 15 #[.int .i64 (I : Int), .int .u16 (y : Nat)] w2 fun e w3 => e = .returned (.tuple #[.int .u16 (sv I y : Nat), .int .i64 0]) ∧
    Calls Tryd.prog 15 #[.int .i64 (I : Int), .int .u16 ((x ^^^ y : Nat) : Int)] w3 fun e w4 => e = .returned (.tuple #[.int .u16 ((sv I x ^^^ sv I y : Nat) : Int), .int .i64 0]) ∧ Hid (Below w.heap.size w w4 ∧ R6 w4 w1.heap.size (I + 1) (fun t => oc t I) ∧ Cant w4) := by
  refine (awake13 w hC hT).mono fun e w0 ⟨he, b0⟩ => ⟨he, ?_⟩
  have C0 := hC.below b0
  have c := vanish13_any (I : Int) x hx w0 C0
  rw [(vv_nat hI x).1, (vv_nat hI 0).2] at c
  refine c.mono fun e w1 ⟨he, hw1⟩ => ⟨he, ?_⟩
  subst hw1
  refine (linear13_yes I hI w1).mono fun e w2 ⟨he, h2, b2⟩ => ⟨he, ?_⟩
  have C2 := C0.below b2
  have c := vanish13_any (I : Int) y hy w2 C2
  rw [(vv_nat hI y).1, (vv_nat hI 0).2] at c
  refine c.mono fun e w3 ⟨he, hw3⟩ => ⟨he, ?_⟩
  subst hw3
  have c := vanish13_any (I : Int) (x ^^^ y) (Nat.xor_lt_two_pow (n := 16) hx hy) w3 C2
  rw [(vv_nat hI (x ^^^ y)).1, (vv_nat hI 0).2, sv_xor] at c
  refine c.mono fun e w4 ⟨he, hw4⟩ => ⟨he, ?_⟩
  subst hw4
  exact ⟨bthen13 b0 b2, h2, C2⟩
set_option maxHeartbeats 4000000 in
set_option maxRecDepth 100000 in
theorem lchAdditive_any (i : Int) (x y : Nat) (hx : x < 65536) (hy : y < 65536) (w : World) (hC : Cant w) (hT : Tzt w) :
    Calls Tryd.prog 6 #[.int .i64 i, .int .u16 (x : Nat), .int .u16 (y : Nat)] w fun e w' => e = .returned (.bool true) ∧ Below w.heap.size w w' := by
  by_cases hi : 0 ≤ i ∧ i ≤ 16
  · obtain ⟨I, rfl⟩ := Int.eq_ofNat_of_zero_le hi.1
    have hI : I ≤ 16 := by omega
    have c0 := add_first I x y hI hx hy w hC hT
    have X0 := u16_xor_nat x y hx hy
    have HX : Hid (ls I (I + 1) x = sv I x) := ls_sv hx I hI
    have HL : Hid (x < 65536) := hx
    have X1 := u16_xor_nat (sv I x) (sv I y) (sv_lt _ _) (sv_lt _ _)
    have HS : Hid (I < 16 → sv (I + 1) x = fm 65581 (sv I x) (sv I x) ^^^ sv I x) := fun _ => sv_succ I x
    have HZ : Hid (I = 16 → sv I x = 0) := fun e => by rw [e]; exact sv_16 x
    have hv := sv_lt I x
    obtain ⟨V, hV⟩ : ∃ V, V = sv I x := ⟨_, rfl⟩
    obtain ⟨Y, hY⟩ : ∃ Y, Y = sv I y := ⟨_, rfl⟩
    rw [← hV, ← hY] at c0 X1
    rw [← hV] at HX HS HZ hv
    have HN : Hid (I ≤ 16 ∧ V < 65536) := ⟨hI, hv⟩
    have ib : (I : Int) ≤ 16 := by omega
    have W0 : wrap64 ((I : Int) + 1) = (I : Int) + 1 := by unfold wrap64; omega
    clear hi hC hT hV hY hx hy hv
    go_enter Tryd.func6, Tryd.ntmps6
    go_wp2_with (first | (go_at_call 13; ((with_reducible refine (c0).mono ?_); (rintro e w0 ⟨rfl, c1⟩))) | (go_at_call 15; first | ((with_reducible refine (c1).mono ?_); (rintro e w1 ⟨rfl, c2⟩)) | ((with_reducible refine (c3).mono ?_); (rintro e w3 ⟨rfl, c4⟩)) | ((with_reducible refine (c4).mono ?_); (rintro e w4 ⟨rfl, HB⟩))) | (go_at_call 16; ((with_reducible refine (c2).mono ?_); (rintro e w2 ⟨rfl, c3⟩))))
    clear c0 c1 c2 c3 c4 X0 X1
    obtain ⟨hb, hr, hCr⟩ := HB.out
    have HC : Hid (Cant w4) := hCr
    have HR : Hid (R6 w4 w1.heap.size (I + 1) (fun t => oc t I)) := hr
    have HW : Hid (Below w.heap.size w w4) := hb
    clear HB hb hr hCr
    go_loopw [15, 16, 17] (fun sv pv tv wq => ∃ t : Nat, t ≤ I + 1 ∧ tv = .int .i64 t ∧ sv = .int .u16 (ls I t x : Nat) ∧ pv = .int .u16 (qp t x : Nat) ∧ wq = w4) (fun _ _ tv _ => I + 1 - (intOf tv).toNat)
    case atStart => exact ⟨0, Nat.zero_le _, rfl, rfl, rfl, rfl⟩
    case round =>
      obtain ⟨t, ht, rfl, rfl, rfl, hq⟩ := hrel
      subst hq
      by_cases hlt : t < I + 1
      · have q1 : wr.cell? ⟨w1.heap.size, t, none⟩ = some (.int .u16 (oc t I : Nat)) := HR.out.2.2.cell hlt
        have lo := oc_lt t I
        have lq := qp_lt t HL.out
        have d1 := hmul_nat (oc t I) (qp t x) wr lo lq
        have d2 := hmul_nat (qp t x) (qp t x) wr lq lq
        have X := u16_xor_nat (ls I t x) (fm 65581 (oc t I) (qp t x)) (ls_lt _ _ _) (fm16_lt _ _)
        have HS1 : Hid (ls I (t + 1) x = ls I t x ^^^ fm 65581 (oc t I) (qp t x)) := rfl
        have HS2 : Hid (qp (t + 1) x = fm 65581 (qp t x) (qp t x)) := rfl
        have tb : ((t : Nat) : Int) ≤ (I : Int) := by omega
        have tb2 : ((t : Nat) : Int) < (I : Int) + 1 := by omega
        have W1 : wrap64 ((t : Int) + 1) = (t : Int) + 1 := by unfold wrap64; omega
        obtain ⟨A, hA⟩ : ∃ A, A = oc t I := ⟨_, rfl⟩
        obtain ⟨B, hB⟩ : ∃ B, B = qp t x := ⟨_, rfl⟩
        obtain ⟨L, hL⟩ : ∃ L, L = ls I t x := ⟨_, rfl⟩
        rw [← hA] at q1 d1 X HS1
        rw [← hB] at d1 d2 X HS1 HS2 ⊢
        rw [← hL] at X HS1 ⊢
        clear lo lq hA hB hL
        go_wp2_with (go_at_call 17; first | ((with_reducible refine (d1).mono ?_); (rintro e w9 ⟨rfl, hw9⟩; have hw9 := hw9.symm; subst hw9)) | ((with_reducible refine (d2).mono ?_); (rintro e w8 ⟨rfl, hw8⟩; have hw8 := hw8.symm; subst hw8)))
        go_roundw
        case rel => exact ⟨t + 1, hlt, by first | rfl | (rw [W1]; rfl), by rw [HS1.out], by rw [HS2.out], by first | rfl | trivial⟩
        case measure => first | exact meas_lt8 hlt | (rw [W1]; exact meas_lt8 hlt)
      · have ht1 : t = I + 1 := by omega
        subst ht1
        rw [HX.out]
        have tb : ¬ (((I + 1 : Nat) : Int)) ≤ (I : Int) := by omega
        by_cases h16 : I = 16
        · have hV0 := HZ.out h16
          subst h16
          subst hV0
          clear tb
          go_wp2
          go_ret
          exact ⟨rfl, HW.out⟩
        · have hlt : I < 16 := by omega
          have d1 := vanish13_any ((I : Int) + 1) x HL.out wr HC.out
          rw [show vv ((I : Int) + 1) x = sv (I + 1) x from (vv_nat (i := I + 1) (by omega) x).1, show ve ((I : Int) + 1) = 0 from (vv_nat (i := I + 1) (by omega) 0).2, HS.out hlt] at d1
          have d2 := hmul_nat V V wr HN.out.2 HN.out.2
          have X := u16_xor_nat (fm 65581 V V) V (fm16_lt _ _) HN.out.2
          obtain ⟨M, hM⟩ : ∃ M, M = fm 65581 V V := ⟨_, rfl⟩
          rw [← hM] at d1 d2 X
          have D9 : ((I : Int) == 16) = false := by simp; omega
          clear hM h16
          go_wp2_with (first | (go_at_call 15; ((with_reducible refine (d1).mono ?_); (rintro e w9 ⟨rfl, hw9⟩; have hw9 := hw9.symm; subst hw9))) | (go_at_call 17; ((with_reducible refine (d2).mono ?_); (rintro e w8 ⟨rfl, hw8⟩; have hw8 := hw8.symm; subst hw8))))
          go_ret
          exact ⟨ret_bool (by simp), HW.out⟩
  · have c0 : Calls Tryd.prog 13 #[] w fun e w1 => e = .returned (.bool true) ∧
        Calls Tryd.prog 15 #[.int .i64 i, .int .u16 (x : Nat)] w1 (fun e w' => e = .returned (.tuple #[.int .u16 0, .int .i64 7]) ∧ w' = w1) ∧
        Calls Tryd.prog 16 #[.int .i64 i] w1 (fun e w' => e = .returned (.tuple #[.slice none 0 0, .int .i64 7]) ∧ w' = w1) ∧ Hid (Below w.heap.size w w1) :=
      (awake13 w hC hT).mono fun e w1 ⟨he, hb⟩ => ⟨he, by
        have c := vanish13_any i x hx w1 (hC.below hb)
        rw [(vv_out hi x).1, (vv_out hi 0).2] at c
        exact c, linear13_no i hi w1, hb⟩
    by_cases h : i < 0
    · have D1 : decide (i < 0) = true := by simpa using h
      clear hi hC hT h hx hy
      go_enter Tryd.func6, Tryd.ntmps6
      go_wp2_with (first | (go_at_call 13; ((with_reducible refine (c0).mono ?_); (rintro e w1 ⟨rfl, c1, c2, HB⟩))) | (go_at_call 15; ((with_reducible refine (c1).mono ?_); (rintro e w9 ⟨rfl, hw9⟩; have hw9 := hw9.symm; subst hw9))) | (go_at_call 16; ((with_reducible refine (c2).mono ?_); (rintro e w8 ⟨rfl, hw8⟩; have hw8 := hw8.symm; subst hw8))))
      go_ret
      exact ⟨rfl, HB.out⟩
    · have D1 : decide (i < 0) = false := by simpa using h
      have D2 : decide (16 < i) = true := by simp; omega
      clear hi hC hT h hx hy
      go_enter Tryd.func6, Tryd.ntmps6
      go_wp2_with (first | (go_at_call 13; ((with_reducible refine (c0).mono ?_); (rintro e w1 ⟨rfl, c1, c2, HB⟩))) | (go_at_call 15; ((with_reducible refine (c1).mono ?_); (rintro e w9 ⟨rfl, hw9⟩; have hw9 := hw9.symm; subst hw9))) | (go_at_call 16; ((with_reducible refine (c2).mono ?_); (rintro e w8 ⟨rfl, hw8⟩; have hw8 := hw8.symm; subst hw8))))
      go_ret
      exact ⟨rfl, HB.out⟩
end Go.Proofs.YtoofoamondepoaaDoor
