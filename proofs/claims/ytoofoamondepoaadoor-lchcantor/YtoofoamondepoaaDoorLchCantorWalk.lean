import Derived.Test.YtoofoamondepoaaDoorLcg
namespace Go.Proofs.YtoofoamondepoaaDoor
open Go.RowKit Gf2
set_option linter.unusedVariables false

set_option maxHeartbeats 4000000 in
set_option maxRecDepth 100000 in
theorem lchCantor_any (i j : Int) (w : World) (hC : Cant w) (hT : Tzt w) :
    Calls Tryd.prog 7 #[.int .i64 i, .int .i64 j] w fun e w' => e = .returned (.bool true) ∧ Below w.heap.size w w' := by
  by_cases hi : 0 ≤ i ∧ i ≤ 16
  · obtain ⟨I, rfl⟩ := Int.eq_ofNat_of_zero_le hi.1
    have hI : I ≤ 16 := by omega
    by_cases hj : 0 ≤ j ∧ j < 65536
    · obtain ⟨J, rfl⟩ := Int.eq_ofNat_of_zero_le hj.1
      have hJ : J < 65536 := by omega
      have c0 : Calls Tryd.prog 13 #[] w fun e w1 => e = .returned (.bool true) ∧
          Calls Tryd.prog 18 #[.int .i64 (I : Int), .int .i64 (J : Int)] w1 (fun e w' => e = .returned (.tuple #[.int .u16 (we (J / 2 ^ I) : Nat), .int .i64 0]) ∧ w' = w1) ∧
          Calls Tryd.prog 19 #[.int .i64 (J : Int)] w1 (fun e w' => e = .returned (.tuple #[.int .u16 (we J : Nat), .int .i64 0]) ∧ w' = w1) ∧
          Calls Tryd.prog 19 #[.int .i64 ((J : Int) / 2 ^ I)] w1 (fun e w' => e = .returned (.tuple #[.int .u16 (we (J / 2 ^ I) : Nat), .int .i64 0]) ∧ w' = w1) ∧
          Calls Tryd.prog 15 #[.int .i64 (I : Int), .int .u16 (we J : Nat)] w1 (fun e w' => e = .returned (.tuple #[.int .u16 (we (J / 2 ^ I) : Nat), .int .i64 0]) ∧ w' = w1) ∧ Hid (Below w.heap.size w w1) := by
        refine (awake13 w hC hT).mono fun e w1 ⟨he, hb⟩ => ⟨he, skew13_yes I J hI hJ w1 (hC.below hb), ?_, element_shr J I hJ w1 (hC.below hb), ?_, hb⟩
        · have c := helement_int (J : Int) w1 (hC.below hb)
          rw [(ew_nat13 (n := J) (by omega)).1, (ew_nat13 (n := J) (by omega)).2] at c
          exact c
        · have c := vanish13_any (I : Int) (we J) (we_lt J) w1 (hC.below hb)
          rw [(vv_nat hI (we J)).1, (vv_nat hI 0).2, sv_we hJ] at c
          exact c
      have hz := sv_eq_zero hJ I
      obtain ⟨P, hP⟩ : ∃ P, P = 2 ^ I := ⟨_, rfl⟩
      have hP2 : P ≤ 65536 := by rw [hP]; exact Nat.pow_le_pow_right (by decide) hI
      have E : wrap64 (2 ^ I) = (P : Int) := by
        have e : ((2 : Int) ^ I) = ((2 ^ I : Nat) : Int) := by simp
        rw [e, ← hP]; unfold wrap64; omega
      have LY := we_lt (J / 2 ^ I)
      obtain ⟨Y, hY⟩ : ∃ Y, Y = we (J / 2 ^ I) := ⟨_, rfl⟩
      obtain ⟨X, hX⟩ : ∃ X, X = we J := ⟨_, rfl⟩
      rw [← hY] at c0 hz LY
      rw [← hX] at c0
      rw [← hP] at hz
      have D1 : decide ((J : Int) < 0) = false := by simp
      have D2 : decide ((65535 : Int) < (J : Int)) = false := by simp; omega
      have HZ : Hid (((Y : Int) == 0) = decide ((J : Int) < (P : Int))) := by
        show ((Y : Int) == 0) = decide ((J : Int) < (P : Int))
        by_cases h : Y = 0
        · have h2 := hz.1 h
          rw [h]
          simp
          omega
        · have h2 : ¬ J < P := fun e => h (hz.2 e)
          rw [show ((Y : Int) == 0) = false by simp; exact h, show decide ((J : Int) < (P : Int)) = false by simp; omega]
      have ib : (I : Int) ≤ 16 := by omega
      clear hi hj hJ hC hT hz hP hP2 hY hX LY
      go_enter Tryd.func7, Tryd.ntmps7
      go_wp2_with (first | (go_at_call 13; ((with_reducible refine (c0).mono ?_); (rintro e w1 ⟨rfl, c1, c2, c3, c4, HB⟩))) | (go_at_call 18; ((with_reducible refine (c1).mono ?_); (rintro e w9 ⟨rfl, hw9⟩; have hw9 := hw9.symm; subst hw9))) | (go_at_call 19; first | ((with_reducible refine (c2).mono ?_); (rintro e w8 ⟨rfl, hw8⟩; have hw8 := hw8.symm; subst hw8)) | ((with_reducible refine (c3).mono ?_); (rintro e w7 ⟨rfl, hw7⟩; have hw7 := hw7.symm; subst hw7))) | (go_at_call 15; ((with_reducible refine (c4).mono ?_); (rintro e w6 ⟨rfl, hw6⟩; have hw6 := hw6.symm; subst hw6))))
      go_ret
      refine ⟨ret_bool ?_, HB.out⟩
      simp [HZ.out]
    · have c0 : Calls Tryd.prog 13 #[] w fun e w1 => e = .returned (.bool true) ∧
          Calls Tryd.prog 18 #[.int .i64 (I : Int), .int .i64 j] w1 (fun e w' => e = .returned (.tuple #[.int .u16 0, .int .i64 31]) ∧ w' = w1) ∧ Hid (Below w.heap.size w w1) :=
        (awake13 w hC hT).mono fun e w1 ⟨he, hb⟩ => ⟨he, skew13_index I j hI hj w1, hb⟩
      have ib : (I : Int) ≤ 16 := by omega
      by_cases h : j < 0
      · have D1 : decide (j < 0) = true := by simpa using h
        clear hj hi hC hT h
        go_enter Tryd.func7, Tryd.ntmps7
        go_wp2_with (first | (go_at_call 13; ((with_reducible refine (c0).mono ?_); (rintro e w1 ⟨rfl, c1, HB⟩))) | (go_at_call 18; ((with_reducible refine (c1).mono ?_); (rintro e w9 ⟨rfl, hw9⟩; have hw9 := hw9.symm; subst hw9))))
        go_ret
        exact ⟨rfl, HB.out⟩
      · have D1 : decide (j < 0) = false := by simpa using h
        have D2 : decide (65535 < j) = true := by simp; omega
        clear hj hi hC hT h
        go_enter Tryd.func7, Tryd.ntmps7
        go_wp2_with (first | (go_at_call 13; ((with_reducible refine (c0).mono ?_); (rintro e w1 ⟨rfl, c1, HB⟩))) | (go_at_call 18; ((with_reducible refine (c1).mono ?_); (rintro e w9 ⟨rfl, hw9⟩; have hw9 := hw9.symm; subst hw9))))
        go_ret
        exact ⟨rfl, HB.out⟩
  · have c0 : Calls Tryd.prog 13 #[] w fun e w1 => e = .returned (.bool true) ∧
        Calls Tryd.prog 18 #[.int .i64 i, .int .i64 j] w1 (fun e w' => e = .returned (.tuple #[.int .u16 0, .int .i64 7]) ∧ w' = w1) ∧ Hid (Below w.heap.size w w1) :=
      (awake13 w hC hT).mono fun e w1 ⟨he, hb⟩ => ⟨he, skew13_range i j hi w1, hb⟩
    by_cases h : i < 0
    · have D1 : decide (i < 0) = true := by simpa using h
      clear hi hC hT h
      go_enter Tryd.func7, Tryd.ntmps7
      go_wp2_with (first | (go_at_call 13; ((with_reducible refine (c0).mono ?_); (rintro e w1 ⟨rfl, c1, HB⟩))) | (go_at_call 18; ((with_reducible refine (c1).mono ?_); (rintro e w9 ⟨rfl, hw9⟩; have hw9 := hw9.symm; subst hw9))))
      go_ret
      exact ⟨rfl, HB.out⟩
    · have D1 : decide (i < 0) = false := by simpa using h
      have D2 : decide (16 < i) = true := by simp; omega
      clear hi hC hT h
      go_enter Tryd.func7, Tryd.ntmps7
      go_wp2_with (first | (go_at_call 13; ((with_reducible refine (c0).mono ?_); (rintro e w1 ⟨rfl, c1, HB⟩))) | (go_at_call 18; ((with_reducible refine (c1).mono ?_); (rintro e w9 ⟨rfl, hw9⟩; have hw9 := hw9.symm; subst hw9))))
      go_ret
      exact ⟨rfl, HB.out⟩
end Go.Proofs.YtoofoamondepoaaDoor
