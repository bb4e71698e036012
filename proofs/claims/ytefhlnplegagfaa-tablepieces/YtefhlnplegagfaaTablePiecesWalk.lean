import Derived.Test.YtefhlnplegagfaaEbn
import Derived.Test.YtefhlnplegagfaaEbo
import Derived.Test.YtefhlnplegagfaaEsg
namespace Go.Proofs.Ytefhlnplegagfaa
open Go.RowKit Gf2
set_option linter.unusedVariables false

/-- at brought to 0 .. n. -/
def pn (n : Nat) (i : Int) : Nat := (i % ((n : Int) + 1)).toNat
theorem pn_le (n : Nat) (i : Int) : pn n i ≤ n := by
  have h1 := Int.emod_nonneg i (b := (n : Int) + 1) (by omega)
  have h2 := Int.emod_lt_of_pos i (b := (n : Int) + 1) (by omega)
  unfold pn
  omega
theorem tmod_pos (n : Nat) (i : Int) : -(n : Int) ≤ i.tmod ((n : Int) + 1) ∧ i.tmod ((n : Int) + 1) ≤ (n : Int) ∧ ((i.tmod ((n : Int) + 1) + (n : Int) + 1).tmod ((n : Int) + 1)) = (pn n i : Nat) := by
  have h1 := Int.emod_nonneg i (b := (n : Int) + 1) (by omega)
  have h2 := Int.emod_lt_of_pos i (b := (n : Int) + 1) (by omega)
  have e : i.tmod ((n : Int) + 1) = i % ((n : Int) + 1) ∨ i.tmod ((n : Int) + 1) = i % ((n : Int) + 1) - ((n : Int) + 1) := by
    have := Int.tmod_eq_emod (a := i) (b := (n : Int) + 1)
    rw [this]
    split
    · left; omega
    · right
      have hn : ((n : Int) + 1).natAbs = n + 1 := by omega
      omega
  have b : -(n : Int) ≤ i.tmod ((n : Int) + 1) ∧ i.tmod ((n : Int) + 1) ≤ (n : Int) := by
    rcases e with e | e
    · omega
    · have hlt : -((n : Int) + 1) < i.tmod ((n : Int) + 1) := Int.lt_tmod_of_pos _ (by omega)
      omega
  refine ⟨b.1, b.2, ?_⟩
  have hpn : ((pn n i : Nat) : Int) = i % ((n : Int) + 1) := by unfold pn; omega
  rw [hpn, Int.tmod_eq_emod_of_nonneg (by omega)]
  rcases e with e | e
  · rw [e, Int.add_assoc, Int.add_emod_right, Int.emod_emod]
  · rw [e, show i % ((n : Int) + 1) - ((n : Int) + 1) + (n : Int) + 1 = i % ((n : Int) + 1) by omega, Int.emod_emod]

theorem pieces_eq (Z P : Nat → Nat) (q n : Nat) (hq : q ≤ n) : ∀ i, i < n → P i = pl (pl Z q (n - q) (fun i => P (q + i))) 0 q P i := by
  intro i hi
  unfold pl
  by_cases h : i < q
  · rw [if_pos (by omega)]; rfl
  · rw [if_neg (by omega), if_pos (by omega)]; show P i = P (q + (i - q)); rw [show q + (i - q) = i by omega]

set_option maxHeartbeats 4000000 in
set_option maxRecDepth 100000 in
theorem pieces_walk (c b : Nat) (x : Option Addr) (n cx : Nat) (X : Nat → Nat) (i : Int) (w : World) (hc : c < 256) (hb : b < 256) (hu : Rb w (.slice x n cx) n X) (hm : n ≤ 140737488351232) :
    Calls Try.prog 8 #[.int .u8 (c : Int), .int .u8 (b : Int), .slice x n cx, .int .i64 i] w fun e w' => e = .returned (.bool true) ∧ Below w.heap.size w w' := by
  have cA := awake5_any w
  have hnb : n ≤ 140737488355328 := by omega
  have hcx : n ≤ cx := by obtain ⟨_, _, a, cap, h, h5, _⟩ := hu; cases h; omega
  obtain ⟨t1, t2, t3⟩ := tmod_pos n i
  have hp := pn_le n i
  obtain ⟨q, hq⟩ : ∃ q, q = pn n i := ⟨_, rfl⟩
  rw [← hq] at t3 hp
  clear hq
  have hn2 : n ≤ big := by unfold big; omega
  go_enter Try.func8, Try.ntmps8
  go_wp2_with (first | (go_at_call 10; ((with_reducible refine (cA).mono ?_); (rintro e w1 ⟨p, hi, rfl, hk1, hb1⟩; have s0 := St.start w1 (fun _ => 0) (fun _ _ => 0); have rx := hu.below hb1))) | (go_at_call 12; first | ((with_reducible refine (st_zeros s0 n (plus0 _) hnb).mono ?_); (rintro e w3 ⟨rfl, s1⟩)) | ((with_reducible refine (st_zeros s1 n rfl hnb).mono ?_); (rintro e w4 ⟨rfl, s2⟩))))
  have cG := fun w => gmul_nat b c w hb hc
  have hbc : fm 285 b c < 256 := fm8_lt b c
  by_cases hlt : q < n
  · have i1 : ((q : Nat) : Int) < (n : Int) := by omega
    have hq1 : q < cx := by omega
    have rx1 := rx.cut (n := q) (by omega) (by omega)
    obtain ⟨xb, xo, rfl⟩ : ∃ xb xo, x = some ⟨xb, xo, none⟩ := by obtain ⟨_, _, a, cap, h, _, _, h4⟩ := hu; cases h; obtain ⟨b, o, e, _⟩ := h4 (by omega); exact ⟨b, o, e⟩
    have rx2 := rx.drop (o := q) (by omega)
    have f1 := St.fits s2 1 (q + (n - q)) (show q + (n - q) ≤ n by omega)
    have f2 := St.fits s2 1 (0 + q) (show 0 + q ≤ n by omega)
    clear t1 t2 t3
    have ne1 : ¬ n = q := by omega
    have i2 : ((q : Nat) : Int) ≤ (cx : Int) := by omega
    have i3 : q ≤ cx := by omega
    have ne2 : ¬ cx = q := by omega
    refine region_plan [4, 10, 11, 5, 2] 90 (by kernel_rfl) (by kernel_rfl) (by kernel_rfl) (fun _ a d v _ h => by cases d <;> exact h) ?_
    refine plan_step ?Aa0 rfl (fun w' => ?sa0) rfl (fun K hK => ?na0)
    case sa0 =>
      simp only [List.take_succ_cons, List.take_zero]
      repeat still_step
      exact rfl
    case na0 =>
    go_simp
    go_wp2_with (go_at_call 13; (with_reducible refine (st_mul_far s2.drew hk1 0 c n n cx rx (plus0 _) (by decide) rfl hc).mono ?_); rintro e w5 ⟨rfl, s3⟩)
    refine plan_step ?Aa1 rfl (fun w' => ?sa1) rfl (fun K hK => ?na1)
    case sa1 =>
      simp only [List.take_succ_cons, List.take_zero]
      repeat still_step
      exact rfl
    case na1 =>
    go_simp
    go_wp2_with (go_at_call 13; (with_reducible refine (st_mul_piece s3 hk1 1 c (n - q) q (n - q) (cx - q) rx2 (fun _ => rfl) (by decide) f1 hc).mono ?_); rintro e w6 ⟨rfl, s4⟩)
    refine plan_step ?Aa2 rfl (fun w' => ?sa2) rfl (fun K hK => ?na2)
    case sa2 =>
      simp only [List.take_succ_cons, List.take_zero]
      repeat still_step
      exact rfl
    case na2 =>
    go_simp
    go_wp2_with (go_at_call 13; (with_reducible refine (st_mul_piece s4 hk1 1 c q 0 n cx rx1 (fun _ => rfl) (by decide) f2 hc).mono ?_); rintro e w7 ⟨rfl, s5⟩; have q5 := St.he s5 0 1 n (pieces_eq _ _ q n (by omega)))
    refine plan_step ?Aa3 rfl (fun w' => ?sa3) rfl (fun K hK => ?na3)
    case sa3 =>
      simp only [List.take_succ_cons, List.take_zero]
      repeat still_step
      exact rfl
    case na3 =>
    go_simp
    go_wp2_with (go_at_call 15; (with_reducible refine (st_equal s5 0 1 n n n (plus0 _) rfl (by decide) (by decide) rfl rfl (Nat.le_refl _) hn2 (Nat.le_refl _) hn2 q5).mono ?_); rintro e w8 ⟨rfl, s6⟩; clear q5)
    refine plan_last ?Aaz rfl (fun w' => ?saz) rfl ?naz
    case saz =>
      simp only [List.take_succ_cons, List.take_zero]
      repeat still_step
      exact rfl
    case naz =>
    go_wp2_with (first | (go_at_call 18; ((with_reducible refine (cG _).mono ?_); (rintro e w9 ⟨rfl, hw9⟩; have hw9 := hw9.symm; subst hw9))) | (go_at_call 13; first | ((with_reducible refine (st_mul_row s6 hk1 0 1 b n n n rfl (plus0 _) (by decide) (by decide) (by decide) rfl rfl hb).mono ?_); (rintro e w10 ⟨rfl, s7⟩)) | ((with_reducible refine (st_mul_far s7 hk1 0 (fm 285 b c) n n cx rx (plus0 _) (by decide) rfl hbc).mono ?_); (rintro e w11 ⟨rfl, s8⟩; have q8 := St.he s8 0 1 n (fun i hi => fld8.fm_assoc _ _ _)))) | (go_at_call 15; ((with_reducible refine (st_equal s8 0 1 n n n (plus0 _) rfl (by decide) (by decide) rfl rfl (Nat.le_refl _) hn2 (Nat.le_refl _) hn2 q8).mono ?_); (rintro e w12 ⟨rfl, s9⟩; clear q8))))
    go_ret
    exact ⟨rfl, hb1.trans (s9.1.mono hb1.size)⟩
  · have hqn : n = q := by omega
    subst hqn
    clear t1 t2 t3 hlt hp
    have i2 : ((n : Nat) : Int) ≤ (cx : Int) := by omega
    by_cases hcn : n = cx
    · subst hcn
      refine region_plan [4, 10, 11, 5, 2] 90 (by kernel_rfl) (by kernel_rfl) (by kernel_rfl) (fun _ a d v _ h => by cases d <;> exact h) ?_
      refine plan_step ?Ab0 rfl (fun w' => ?sb0) rfl (fun K hK => ?nb0)
      case sb0 =>
        simp only [List.take_succ_cons, List.take_zero]
        repeat still_step
        exact rfl
      case nb0 =>
      go_simp
      go_wp2_with (go_at_call 13; (with_reducible refine (st_mul_far s2.drew hk1 0 c n n n rx (plus0 _) (by decide) rfl hc).mono ?_); rintro e w5 ⟨rfl, s3⟩)
      refine plan_step ?Ab1 rfl (fun w' => ?sb1) rfl (fun K hK => ?nb1)
      case sb1 =>
        simp only [List.take_succ_cons, List.take_zero]
        repeat still_step
        exact rfl
      case nb1 =>
      go_simp
      go_wp2_with (go_at_call 13; (with_reducible refine (st_mul_none s3 hk1 (by decide) c hc).mono ?_); rintro e w6 ⟨rfl, s4⟩)
      refine plan_step ?Ab2 rfl (fun w' => ?sb2) rfl (fun K hK => ?nb2)
      case sb2 =>
        simp only [List.take_succ_cons, List.take_zero]
        repeat still_step
        exact rfl
      case nb2 =>
      go_simp
      go_wp2_with (go_at_call 13; (with_reducible refine (st_mul_far s4 hk1 1 c n n n rx rfl (by decide) rfl hc).mono ?_); rintro e w7 ⟨rfl, s5⟩; have q5 := St.he s5 0 1 n (fun i hi => rfl))
      refine plan_step ?Ab3 rfl (fun w' => ?sb3) rfl (fun K hK => ?nb3)
      case sb3 =>
        simp only [List.take_succ_cons, List.take_zero]
        repeat still_step
        exact rfl
      case nb3 =>
      go_simp
      go_wp2_with (go_at_call 15; (with_reducible refine (st_equal s5 0 1 n n n (plus0 _) rfl (by decide) (by decide) rfl rfl (Nat.le_refl _) hn2 (Nat.le_refl _) hn2 q5).mono ?_); rintro e w8 ⟨rfl, s6⟩; clear q5)
      refine plan_last ?Abz rfl (fun w' => ?sbz) rfl ?nbz
      case sbz =>
        simp only [List.take_succ_cons, List.take_zero]
        repeat still_step
        exact rfl
      case nbz =>
      go_wp2_with (first | (go_at_call 18; ((with_reducible refine (cG _).mono ?_); (rintro e w9 ⟨rfl, hw9⟩; have hw9 := hw9.symm; subst hw9))) | (go_at_call 13; first | ((with_reducible refine (st_mul_row s6 hk1 0 1 b n n n rfl (plus0 _) (by decide) (by decide) (by decide) rfl rfl hb).mono ?_); (rintro e w10 ⟨rfl, s7⟩)) | ((with_reducible refine (st_mul_far s7 hk1 0 (fm 285 b c) n n n rx (plus0 _) (by decide) rfl hbc).mono ?_); (rintro e w11 ⟨rfl, s8⟩; have q8 := St.he s8 0 1 n (fun i hi => fld8.fm_assoc _ _ _)))) | (go_at_call 15; ((with_reducible refine (st_equal s8 0 1 n n n (plus0 _) rfl (by decide) (by decide) rfl rfl (Nat.le_refl _) hn2 (Nat.le_refl _) hn2 q8).mono ?_); (rintro e w12 ⟨rfl, s9⟩; clear q8))))
      go_ret
      exact ⟨rfl, hb1.trans (s9.1.mono hb1.size)⟩
    · have i4 : ((n : Nat) : Int) < (cx : Int) := by omega
      refine region_plan [4, 10, 11, 5, 2] 90 (by kernel_rfl) (by kernel_rfl) (by kernel_rfl) (fun _ a d v _ h => by cases d <;> exact h) ?_
      refine plan_step ?Ad0 rfl (fun w' => ?sd0) rfl (fun K hK => ?nd0)
      case sd0 =>
        simp only [List.take_succ_cons, List.take_zero]
        repeat still_step
        exact rfl
      case nd0 =>
      go_simp
      go_wp2_with (go_at_call 13; (with_reducible refine (st_mul_far s2.drew hk1 0 c n n cx rx (plus0 _) (by decide) rfl hc).mono ?_); rintro e w5 ⟨rfl, s3⟩)
      refine plan_step ?Ad1 rfl (fun w' => ?sd1) rfl (fun K hK => ?nd1)
      case sd1 =>
        simp only [List.take_succ_cons, List.take_zero]
        repeat still_step
        exact rfl
      case nd1 =>
      go_simp
      go_wp2_with (go_at_call 13; (with_reducible refine (st_mul_none s3 hk1 (by decide) c hc).mono ?_); rintro e w6 ⟨rfl, s4⟩)
      refine plan_step ?Ad2 rfl (fun w' => ?sd2) rfl (fun K hK => ?nd2)
      case sd2 =>
        simp only [List.take_succ_cons, List.take_zero]
        repeat still_step
        exact rfl
      case nd2 =>
      go_simp
      go_wp2_with (go_at_call 13; (with_reducible refine (st_mul_far s4 hk1 1 c n n cx rx rfl (by decide) rfl hc).mono ?_); rintro e w7 ⟨rfl, s5⟩; have q5 := St.he s5 0 1 n (fun i hi => rfl))
      refine plan_step ?Ad3 rfl (fun w' => ?sd3) rfl (fun K hK => ?nd3)
      case sd3 =>
        simp only [List.take_succ_cons, List.take_zero]
        repeat still_step
        exact rfl
      case nd3 =>
      go_simp
      go_wp2_with (go_at_call 15; (with_reducible refine (st_equal s5 0 1 n n n (plus0 _) rfl (by decide) (by decide) rfl rfl (Nat.le_refl _) hn2 (Nat.le_refl _) hn2 q5).mono ?_); rintro e w8 ⟨rfl, s6⟩; clear q5)
      refine plan_last ?Adz rfl (fun w' => ?sdz) rfl ?ndz
      case sdz =>
        simp only [List.take_succ_cons, List.take_zero]
        repeat still_step
        exact rfl
      case ndz =>
      go_wp2_with (first | (go_at_call 18; ((with_reducible refine (cG _).mono ?_); (rintro e w9 ⟨rfl, hw9⟩; have hw9 := hw9.symm; subst hw9))) | (go_at_call 13; first | ((with_reducible refine (st_mul_row s6 hk1 0 1 b n n n rfl (plus0 _) (by decide) (by decide) (by decide) rfl rfl hb).mono ?_); (rintro e w10 ⟨rfl, s7⟩)) | ((with_reducible refine (st_mul_far s7 hk1 0 (fm 285 b c) n n cx rx (plus0 _) (by decide) rfl hbc).mono ?_); (rintro e w11 ⟨rfl, s8⟩; have q8 := St.he s8 0 1 n (fun i hi => fld8.fm_assoc _ _ _)))) | (go_at_call 15; ((with_reducible refine (st_equal s8 0 1 n n n (plus0 _) rfl (by decide) (by decide) rfl rfl (Nat.le_refl _) hn2 (Nat.le_refl _) hn2 q8).mono ?_); (rintro e w12 ⟨rfl, s9⟩; clear q8))))
      go_ret
      exact ⟨rfl, hb1.trans (s9.1.mono hb1.size)⟩
theorem pieces_any {w : World} (c : Nat) (hc : c < 256) (b : Nat) (hb : b < 256) (a : Option Addr) (n ca : Nat) (hu : Rbm w a n ca) (i : Int) (hi : (Lit.int .i64 i).wf = true) :
    Calls Try.prog 8 #[.int .u8 (c : Int), .int .u8 (b : Int), .slice a n ca, .int .i64 i] w fun e w' => e = .returned (.bool true) ∧ Below w.heap.size w w' := by
  obtain ⟨hm, X, hX⟩ := hu
  exact pieces_walk c b a n ca X i w hc hb hX hm
end Go.Proofs.Ytefhlnplegagfaa
