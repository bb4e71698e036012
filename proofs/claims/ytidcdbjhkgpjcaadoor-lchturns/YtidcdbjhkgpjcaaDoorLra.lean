import Derived.Test.YtidcdbjhkgpjcaaDoorLtb
namespace Go.Proofs.YtidcdbjhkgpjcaaDoor
open Go.RowKit Gf2
set_option linter.unusedVariables false

theorem own_q6 {w : World} {B g n cap : Nat} {l : List Nat} {F : Nat → Nat} (h : w.ownsRow B 26 1 (.slice (some ⟨g, 0, none⟩) n cap) n (l.map vU)) (hg : g < w.heap.size) (hn : n ≤ 65536) (hF : ∀ i, i < n → l[i]? = some (F i) ∧ F i < 65536) : Q6 w (.slice (some ⟨g, 0, none⟩) n cap) n F := by
  have hc : n ≤ cap ∧ cap ≤ big := by
    rcases h.2 with ⟨h1, -⟩ | ⟨g', cap', cur, h1, -, -, h4, h5, -⟩
    · cases h1
    · cases h1
      exact ⟨h4, h5⟩
  refine ⟨by unfold big; omega, fun i hi => (hF i hi).2, _, _, rfl, hc.1, hc.2, fun _ => ⟨g, 0, rfl, hg, fun i hi => ?_⟩⟩
  rw [Nat.zero_add, h.cellAt i (by omega), vU_get (hF i hi).1]
theorem pow_le16 {i : Nat} (h : i ≤ 16) : 2 ^ i ≤ 65536 := Nat.pow_le_pow_right (by decide) h
set_option maxHeartbeats 4000000 in
set_option maxRecDepth 100000 in
theorem refvanish13 (i x : Nat) (w : World) (hi : i ≤ 16) (hx : x < 65536) :
    Calls Tryd.prog 31 #[.int .i64 (i : Int), .int .u16 (x : Int)] w fun e w' => e = .returned (.int .u16 (sv i x : Nat)) ∧ Below w.heap.size w w' := by
  have HP : Hid (zv (2 ^ i) x = sv i x) := zv_sv i hi x hx
  have hN := pow_le16 hi
  have c1 : Calls Tryd.prog 43 #[.int .i64 (i : Int)] w fun e w' => ∃ g cap, e = .returned (.slice (some ⟨g, 0, none⟩) (2 ^ i) cap) ∧ Q6 w' (.slice (some ⟨g, 0, none⟩) (2 ^ i) cap) (2 ^ i) we ∧ Below w.heap.size w w' :=
    (refElementsTo_nat i w hi).mono fun e w' ⟨g, cap, he, h1, h2, h3⟩ => ⟨g, cap, he, own_q6 h1 h2 hN (fun j hj => ⟨wes_get hj, we_lt j⟩), h3⟩
  obtain ⟨N, hN'⟩ : ∃ N, N = 2 ^ i := ⟨_, rfl⟩
  rw [← hN'] at HP c1 hN
  clear hN'
  have HX : Hid (x < 65536) := hx
  clear hx
  go_enter Tryd.func31, Tryd.ntmps31
  go_wp2_with (go_at_call 43; ((with_reducible refine (c1).mono ?_); (rintro e w1 ⟨g, cap, rfl, hq1, hb1⟩)))
  have HC : Hid ((∀ j, j < N → w1.cell? ⟨g, 0 + j, none⟩ = some (.int .u16 (we j : Nat))) ∧ Below w.heap.size w w1 ∧ N ≤ 65536) := ⟨fun j hj => by
    obtain ⟨-, -, a, c, e, -, -, h4⟩ := hq1
    cases e
    obtain ⟨b, o, e2, -, hc⟩ := h4 (by omega)
    cases e2
    exact hc j hj, hb1, hN⟩
  clear hq1 hb1 hN c1
  go_loopw [6, 7] (fun pv9 jv wq => ∃ j : Nat, j ≤ N ∧ jv = .int .i64 j ∧ pv9 = .int .u16 (zv j x : Nat) ∧ wq = w1) (fun _ jv _ => N - (intOf jv).toNat)
  case atStart => exact ⟨0, Nat.zero_le _, rfl, rfl, rfl⟩
  case round =>
    obtain ⟨j, hj, rfl, rfl, hwq⟩ := hrel
    subst hwq
    by_cases hlt : j < N
    · have q1 := HC.out.1 j hlt
      rw [Nat.zero_add] at q1
      have lp := zv_lt j x
      have X := u16_xor_nat x (we j) HX.out (we_lt j)
      have c2 := refMulH_nat (zv j x) (x ^^^ we j) wr lp (Nat.xor_lt_two_pow (n := 16) HX.out (we_lt j))
      have jb : ((j : Nat) : Int) < (N : Int) := Int.ofNat_lt.2 hlt
      have W1 := wrap_succ8 (j := j) (Nat.lt_of_lt_of_le hlt (Nat.le_trans HC.out.2.2 (by decide)))
      by_cases hz : zv j x = 0
      · have H0 : Hid (sv i x = 0) := by
          have h := zv_zero j x hz (N - j)
          rw [Nat.add_sub_cancel' hj, HP.out] at h
          exact h
        rw [hz]
        clear c2 q1 X lp hz
        go_wp2
        go_ret
        rw [H0.out]
        exact ⟨rfl, HC.out.2.1⟩
      · have D : (((zv j x : Nat) : Int) == 0) = false := by simp; exact hz
        have HS : Hid (zv (j + 1) x = fm 65581 (zv j x) (x ^^^ we j)) := rfl
        obtain ⟨P, hP⟩ : ∃ P, P = zv j x := ⟨_, rfl⟩
        obtain ⟨E, hE⟩ : ∃ E, E = we j := ⟨_, rfl⟩
        rw [← hP] at D HS c2 ⊢
        rw [← hE] at X HS c2 q1
        clear hz lp hP hE
        go_wp2_with (go_at_call 33; ((with_reducible refine (c2).mono ?_); (rintro e w9 ⟨rfl, hw9⟩; have hw9 := hw9.symm; subst hw9)))
        go_roundw
        case rel => exact ⟨j + 1, hlt, by first | rfl | (rw [W1]; rfl), by rw [HS.out], by first | rfl | trivial⟩
        case measure => first | exact meas_lt8 hlt | (rw [W1]; exact meas_lt8 hlt)
    · have hjN : j = N := Nat.le_antisymm hj (Nat.le_of_not_lt hlt)
      subst hjN
      rw [HP.out]
      go_wp2
      go_ret
      exact ⟨rfl, HC.out.2.1⟩
set_option maxHeartbeats 2000000 in
set_option maxRecDepth 100000 in
theorem refVanish13 (i : Int) (x : Nat) (hx : x < 65536) (w : World) :
    Calls Tryd.prog 13 #[.int .i64 i, .int .u16 (x : Int)] w fun e w' => e = .returned (.tuple #[.int .u16 (vv i x : Nat), .int .i64 (ve i : Nat)]) ∧ Below w.heap.size w w' := by
  by_cases h : 0 ≤ i ∧ i ≤ 16
  · obtain ⟨n, rfl⟩ := Int.eq_ofNat_of_zero_le h.1
    have hn : n ≤ 16 := by omega
    rw [(vv_nat hn x).1, (vv_nat hn x).2]
    have c2 := refvanish13 n x w hn hx
    clear h hx
    go_enter Tryd.func13, Tryd.ntmps13
    go_wp2_with (go_at_call 31; ((with_reducible refine (c2).mono ?_); (rintro e w1 ⟨rfl, hb⟩)))
    go_ret2
    exact ⟨rfl, hb⟩
  · rw [(vv_out h x).1, (vv_out h x).2]
    by_cases h1 : i < 0
    · have D1 : decide (i < 0) = true := by simpa using h1
      clear h h1
      go_enter Tryd.func13, Tryd.ntmps13
      go_wp2
      go_ret2
      exact ⟨rfl, Below.refl _ _⟩
    · have D1 : decide (i < 0) = false := by simpa using h1
      have D2 : decide (16 < i) = true := by simp; omega
      clear h h1
      go_enter Tryd.func13, Tryd.ntmps13
      go_wp2
      go_ret2
      exact ⟨rfl, Below.refl _ _⟩
/-- what Skew answers. -/
def sk (i j : Int) : Nat := if 0 ≤ i ∧ i ≤ 16 then (if 0 ≤ j ∧ j < 65536 then we (j.toNat / 2 ^ i.toNat) else 0) else 0
def ske (i j : Int) : Nat := if 0 ≤ i ∧ i ≤ 16 then (if 0 ≤ j ∧ j < 65536 then 0 else 31) else 7
theorem sk_lt (i j : Int) : sk i j < 65536 := by
  unfold sk; split
  · split
    · exact we_lt _
    · decide
  · decide
theorem skew13_any (i j : Int) (w : World) (hC : Cant w) :
    Calls Tryd.prog 11 #[.int .i64 i, .int .i64 j] w fun e w' => e = .returned (.tuple #[.int .u16 (sk i j : Nat), .int .i64 (ske i j : Nat)]) ∧ w' = w := by
  unfold sk ske
  by_cases h : 0 ≤ i ∧ i ≤ 16
  · rw [if_pos h, if_pos h]
    obtain ⟨I, rfl⟩ := Int.eq_ofNat_of_zero_le h.1
    by_cases hj : 0 ≤ j ∧ j < 65536
    · rw [if_pos hj, if_pos hj]
      obtain ⟨J, rfl⟩ := Int.eq_ofNat_of_zero_le hj.1
      exact skew13_yes I J (by omega) (by omega) w hC
    · rw [if_neg hj, if_neg hj]
      exact skew13_index I j (by omega) hj w
  · rw [if_neg h, if_neg h]
    exact skew13_range i j h w
set_option maxHeartbeats 2000000 in
set_option maxRecDepth 100000 in
theorem refSkew13 (i j : Int) (w : World) :
    Calls Tryd.prog 15 #[.int .i64 i, .int .i64 j] w fun e w' => e = .returned (.tuple #[.int .u16 (sk i j : Nat), .int .i64 (ske i j : Nat)]) ∧ Below w.heap.size w w' := by
  by_cases h : 0 ≤ i ∧ i ≤ 16
  · obtain ⟨I, rfl⟩ := Int.eq_ofNat_of_zero_le h.1
    have hI : I ≤ 16 := by omega
    have c1 := refElement_int j w
    by_cases hj : 0 ≤ j ∧ j < 65536
    · have e1 : sk (I : Int) j = we (j.toNat / 2 ^ I) ∧ ske (I : Int) j = 0 := by unfold sk ske; rw [if_pos h, if_pos hj, if_pos h, if_pos hj]; exact ⟨rfl, rfl⟩
      rw [e1.1, e1.2]
      obtain ⟨J, rfl⟩ := Int.eq_ofNat_of_zero_le hj.1
      have hJ : J < 65536 := by omega
      rw [(ew_nat13 (n := J) (by omega)).1, (ew_nat13 (n := J) (by omega)).2] at c1
      have c2 : ∀ w, Calls Tryd.prog 31 #[.int .i64 (I : Int), .int .u16 (we J : Nat)] w fun e w' => e = .returned (.int .u16 (we (J / 2 ^ I) : Nat)) ∧ Below w.heap.size w w' := fun w => by
        have c := refvanish13 I (we J) w hI (we_lt J)
        rw [sv_we hJ] at c
        exact c
      rw [show ((J : Int).toNat) = J from rfl]
      obtain ⟨Y, hY⟩ : ∃ Y, Y = we (J / 2 ^ I) := ⟨_, rfl⟩
      obtain ⟨E, hE⟩ : ∃ E, E = we J := ⟨_, rfl⟩
      rw [← hE] at c1
      rw [← hY, ← hE] at c2
      rw [← hY]
      clear e1 h hj hJ hY hE
      go_enter Tryd.func15, Tryd.ntmps15
      go_wp2_with (first | (go_at_call 34; ((with_reducible refine (c1).mono ?_); (rintro e w1 ⟨rfl, hb1⟩))) | (go_at_call 31; ((with_reducible refine (c2 _).mono ?_); (rintro e w2 ⟨rfl, hb2⟩))))
      go_ret2
      exact ⟨rfl, bthen13 hb1 hb2⟩
    · have e1 : sk (I : Int) j = 0 ∧ ske (I : Int) j = 31 := by unfold sk ske; rw [if_pos h, if_neg hj, if_pos h, if_neg hj]; exact ⟨rfl, rfl⟩
      rw [e1.1, e1.2]
      have e2 : ew j = 0 ∧ ee j = 31 := by unfold ew ee; rw [if_neg (by omega), if_neg (by omega)]; exact ⟨rfl, rfl⟩
      rw [e2.1, e2.2] at c1
      clear e1 e2 h hj
      go_enter Tryd.func15, Tryd.ntmps15
      go_wp2_with (go_at_call 34; ((with_reducible refine (c1).mono ?_); (rintro e w1 ⟨rfl, hb1⟩)))
      go_ret2
      exact ⟨rfl, hb1⟩
  · have e1 : sk i j = 0 ∧ ske i j = 7 := by unfold sk ske; rw [if_neg h, if_neg h]; exact ⟨rfl, rfl⟩
    rw [e1.1, e1.2]
    by_cases h1 : i < 0
    · have D1 : decide (i < 0) = true := by simpa using h1
      clear h h1 e1
      go_enter Tryd.func15, Tryd.ntmps15
      go_wp2
      go_ret2
      exact ⟨rfl, Below.refl _ _⟩
    · have D1 : decide (i < 0) = false := by simpa using h1
      have D2 : decide (16 < i) = true := by simp; omega
      clear h h1 e1
      go_enter Tryd.func15, Tryd.ntmps15
      go_wp2
      go_ret2
      exact ⟨rfl, Below.refl _ _⟩
end Go.Proofs.YtidcdbjhkgpjcaaDoor
