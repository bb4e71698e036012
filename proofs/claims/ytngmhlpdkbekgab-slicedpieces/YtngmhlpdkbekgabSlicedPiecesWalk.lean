import Derived.Test.YtngmhlpdkbekgabSpi
import Derived.Test.YtngmhlpdkbekgabEsh
import Derived.Test.YtngmhlpdkbekgabEbo
namespace Go.Proofs.Ytngmhlpdkbekgab
open Go.RowKit Gf2
set_option linter.unusedVariables false

theorem wrap_eight {i : Nat} (h : i ≤ 140737488351232) : wrap64 ((i : Int) + 8) = (i : Int) + 8 := by unfold wrap64; omega
theorem wrap_sum {i j : Nat} (h : i ≤ 140737488351232) (hj : j < 8) : wrap64 ((i : Int) + (j : Int)) = (i : Int) + (j : Int) := by unfold wrap64; omega
theorem meas_eight {i n : Nat} (h : i + 8 ≤ n) : n - (intOf (Value.int .i64 ((i : Int) + 8))).toNat < n - (intOf (Value.int .i64 (i : Int))).toNat := by
  simp only [intOf]
  omega
set_option maxHeartbeats 8000000 in
set_option maxRecDepth 100000 in
theorem spieces_walk (c n : Nat) (x : Option Addr) (cx : Nat) (S : Nat → Nat) (xK : Option Addr) (nK cK : Nat) (K : Nat → Int) (w : World) (hc : c < 256) (hu : Rb w (.slice x n cx) n S) (hm : n ≤ 140737488351232) (hK : Ri w (.slice xK nK cK) nK K) :
    Calls Try.prog 3 #[.int .u8 (c : Int), .slice x n cx, .slice xK nK cK] w fun e w' => e = .returned (.bool true) ∧ Below w.heap.size w w' := by
  have hn : n ≤ 140737488355328 := by omega
  have hmk := make_u8 n hn
  have c1 := snew_any w
  have HI : Hid (c < 256 ∧ Rb w (.slice x n cx) n S ∧ n ≤ 140737488351232 ∧ Ri w (.slice xK nK cK) nK K) := ⟨hc, hu, hm, hK⟩
  have h4 : Hid (0 < nK → ∃ b o, xK = some ⟨b, o, none⟩ ∧ b < w.heap.size ∧ ∀ i, i < nK → w.cell? ⟨b, o + i, none⟩ = some (.int .i64 (K i))) := by
    obtain ⟨-, a, cap, e, h⟩ := hK
    cases e
    exact h
  clear hc hu hm hK hn
  go_enter Try.func3, Try.ntmps3
  go_wp2_with (first
    | (go_at_call 6; (with_reducible refine c1.mono ?_); rintro e w1 ⟨p, rfl, hk, hb1⟩; have c2 := awake7_any w1 p _ _ hk; have h1 := HI.out.2.1.below hb1; clear c1)
    | (go_at_call 7; (with_reducible refine c2.mono ?_); rintro e w2 ⟨rfl, hb2⟩; have s3 := ((Ow.start w1 (fun _ => 0) (fun _ => 0) (fun _ _ => 0)).still hb2).made7 n (by have := HI.out.2.2.1; omega); have q1 := sw_mul s3 hk 0 c n n cx (Nat.le_refl _) (rb_cap h1) (b := w2.heap.size) rfl (by decide) rfl HI.out.1 (s3.far 0 h1 (by decide)); clear c2)
    | (go_at_call 8; (with_reducible refine q1.mono ?_); rintro e w4 ⟨rfl, s4, -⟩; clear q1 s3))
  have P0 : Pc w (w4.alloc (.cells (madeCells #[.int .u8 0] n) 5)) p w.heap.size w1.heap.size w2.heap.size w4.heap.size n (fun i => fm 285 c (S i)) (fun _ => 0) 0 := by
    have s5 := s4.made7 n (by have := HI.out.2.2.1; omega)
    have r0 : Rw w4 w2.heap.size n (fun i => fm 285 c (S i)) := s4.row (t := 0) (by decide)
    have z1 := r0.lt
    have z2 := s4.1.size
    have b5 := hb1.trans (s5.1.mono hb1.size)
    exact ⟨b5, sk_below hk s5.1, s5.row (t := 0) (by decide), s5.row (t := 1) (by decide), by omega, by have := hb1.size; omega, z2, fun j hj => absurd hj (Nat.not_lt_zero _)⟩
  have HP : Hid _ := P0
  clear hmk s4 P0 hb2 h1 hk hb1
  go_loopw [11, 12] (fun ev iv wr => ∃ (i e : Nat) (T : Nat → Nat), i ≤ 64 ∧ i ≤ nK ∧ e ≤ n ∧ iv = .int .i64 i ∧ ev = .int .i64 e ∧ Pc w wr p w.heap.size w1.heap.size w2.heap.size w4.heap.size n (fun i => fm 285 c (S i)) T e) (fun _ iv _ => 64 - (intOf iv).toNat)
  case atStart => exact ⟨0, 0, _, Nat.zero_le _, Nat.zero_le _, Nat.zero_le _, rfl, rfl, HP.out⟩
  case round =>
    obtain ⟨i, e, T, hi, hiK, he, rfl, rfl, hP⟩ := hrel
    by_cases hlt : i < nK ∧ i < 64
    · obtain ⟨kb, ko, rfl, hkl, hcell⟩ := h4.out (by omega)
      have j1 : ((i : Nat) : Int) < (nK : Int) := by omega
      have j2 : ((i : Nat) : Int) < 64 := by omega
      have q1 := (hP.bel.cell (p := ⟨kb, ko + i, none⟩) hkl).trans (hcell i hlt.1)
      by_cases hcut : (e : Int) < K i ∧ K i ≤ (n : Int)
      · obtain ⟨m, hmK⟩ : ∃ m : Nat, K i = (m : Int) := ⟨(K i).toNat, by omega⟩
        rw [hmK] at q1 hcut
        have D1 : e < m := by omega
        have D2 : m ≤ n := by omega
        obtain ⟨aP, eP, sP, -⟩ := piece_at (cap := n) hP.rP (show e ≤ m by omega) (show m ≤ n by omega)
        obtain ⟨aS, rS, sS, -⟩ := cut_rb HI.out.2.1 (show e ≤ m by omega) (show m ≤ n by omega)
        have cM := pc_mul (ca := n - e) (by omega) hP.drew HI.out.1 (show e ≤ m by omega) (show m ≤ n by omega) eP rS
        have HC : Hid (e < m ∧ m ≤ n ∧ i < nK ∧ i < 64 ∧ kb < w.heap.size ∧ w.cell? ⟨kb, ko + i, none⟩ = some (.int .i64 (m : Int))) := ⟨by omega, by omega, hlt.1, hlt.2, hkl, by rw [← hmK]; exact hcell i hlt.1⟩
        have HQ : Hid (Pc w wr p w.heap.size w1.heap.size w2.heap.size w4.heap.size n (fun i => fm 285 c (S i)) T e) := hP
        clear hcut hmK eP rS hP hcell hkl
        go_wp2
        clear D1 D2
        refine region_planH (fun w' => w'.cell? ⟨kb, ko + i, none⟩ = some (.int .i64 (m : Int))) [16, 1] 136 q1 (by kernel_rfl) (by kernel_rfl) (by kernel_rfl) (fun _ a d v _ h => by cases d <;> exact h) ?_
        refine planH_step ?A1 rfl (fun w' hS => ?s1) rfl (fun KK hKK => ?n1)
        case s1 =>
          simp only [List.take_succ_cons, List.take_zero]
          repeat still_step
          exact rfl
        case n1 =>
        go_simp
        go_wp2_with (go_at_call 8; (with_reducible refine cM.mono ?_); rintro r x1 ⟨rfl, T', hP'⟩)
        have q2 := (hP'.bel.cell (p := ⟨kb, ko + i, none⟩) HC.out.2.2.2.2.1).trans HC.out.2.2.2.2.2
        refine hKK _ _ q2 ?_
        clear hKK KK
        refine planH_last ?A2 rfl (fun w' hS => ?s2) rfl ?n2
        case s2 =>
          simp only [List.take_succ_cons, List.take_zero]
          repeat still_step
          exact rfl
        case n2 =>
        clear cM sP sS
        go_wp2
        go_roundw
        case rel => exact ⟨i + 1, m, T', by have := HC.out; omega, by have := HC.out; omega, HC.out.2.1, by go_num, rfl, hP'⟩
        case measure => simp [intOf]; have := HC.out; omega
      · have HQ : Hid (Pc w wr p w.heap.size w1.heap.size w2.heap.size w4.heap.size n (fun i => fm 285 c (S i)) T e) := hP
        have HC : Hid (i < nK ∧ i < 64 ∧ e ≤ n) := ⟨hlt.1, hlt.2, he⟩
        by_cases hc1 : (e : Int) < K i
        · have D1 : decide ((e : Int) < K i) = true := by simpa using hc1
          have D2 : decide (K i ≤ (n : Int)) = false := by simp; omega
          clear hcell hkl hP
          go_wp2
          go_roundw
          case rel => exact ⟨i + 1, e, T, by have := HC.out; omega, by have := HC.out; omega, HC.out.2.2, by go_num, rfl, HQ.out⟩
          case measure => simp [intOf]; have := HC.out; omega
        · have D1 : decide ((e : Int) < K i) = false := by simpa using hc1
          clear hcell hkl hP
          go_wp2
          go_roundw
          case rel => exact ⟨i + 1, e, T, by have := HC.out; omega, by have := HC.out; omega, HC.out.2.2, by go_num, rfl, HQ.out⟩
          case measure => simp [intOf]; have := HC.out; omega
    · obtain ⟨aP, eP, -, sP⟩ := piece_at (cap := n) hP.rP he (Nat.le_refl _)
      obtain ⟨aS, rS, -, sS⟩ := cut_rb HI.out.2.1 he (Nat.le_refl n)
      have sP2 := sP rfl
      have sS2 := sS rfl
      have cM := pc_mul (ca := n - e) (Nat.le_refl _) hP.drew HI.out.1 he (Nat.le_refl _) eP rS
      by_cases h64 : i < nK
      · have hi64 : i = 64 := by omega
        subst hi64
        rw [show ((64 : Nat) : Int) = 64 from rfl]
        have j1 : (64 : Int) < (nK : Int) := by omega
        clear hP eP rS h64 hlt he sP sS
        go_wp2
        refine region_plan [8, 4, 2] 136 (by kernel_rfl) (by kernel_rfl) (by kernel_rfl) (fun _ a d v _ h => by cases d <;> exact h) ?_
        refine plan_step ?B1a rfl (fun w' => ?t1a) rfl (fun KK hKK => ?m1a)
        case t1a =>
          simp only [List.take_succ_cons, List.take_zero]
          repeat still_step
          exact rfl
        case m1a =>
        go_simp
        go_wp2_with (go_at_call 8; (with_reducible refine cM.mono ?_); rintro r x1 ⟨rfl, T', hP'⟩; have cE := same7_true (.slice (some ⟨w4.heap.size, 0, none⟩) n n) (.slice (some ⟨w2.heap.size, 0, none⟩) n n) n (fun i => fm 285 c (S i)) x1 (hP'.rP.rb0.congr (fun j hj => hP'.upto j hj)) hP'.rW.rb0; have HQ : Hid (Pc w x1 p w.heap.size w1.heap.size w2.heap.size w4.heap.size n (fun i => fm 285 c (S i)) T' n) := hP'; clear hP')
        refine plan_step ?B2a rfl (fun w' => ?t2a) rfl (fun KK hKK => ?m2a)
        case t2a =>
          simp only [List.take_succ_cons, List.take_zero]
          repeat still_step
          exact rfl
        case m2a =>
        go_simp
        go_wp2_with (go_at_call 9; (with_reducible refine cE.mono ?_); rintro r V ⟨rfl, m2, hV⟩; have HV : Hid (Below w.heap.size w V ∧ Rw V w2.heap.size n (fun i => fm 285 c (S i))) := (by rw [hV]; exact ⟨below_drewN HQ.out.bel m2, HQ.out.rW.drewN m2⟩); clear cE hV)
        refine plan_last ?B3a rfl (fun w' => ?t3a) rfl ?m3a
        case t3a =>
          simp only [List.take_succ_cons, List.take_zero]
          repeat still_step
          exact rfl
        case m3a =>
        clear cM sP2 sS2 HQ
        go_wp2
        go_loopw [13] (fun iv wr => ∃ i : Nat, i ≤ n ∧ iv = .int .i64 i ∧ Below V.heap.size V wr) (fun iv _ => n - (intOf iv).toNat)
        case atStart => exact ⟨0, Nat.zero_le _, rfl, Below.refl _ _⟩
        case round =>
          obtain ⟨i, hi, rfl, hb⟩ := hrel
          have hm := HI.out.2.2.1
          have HW1 : Hid (wrap64 ((i : Int) + 8) = (i : Int) + 8) := wrap_eight (by omega)
          by_cases hlt : i + 8 ≤ n
          · have j1 : (i : Int) + 8 ≤ (n : Int) := by omega
            have bV := HV.out.1.trans (hb.mono HV.out.1.size)
            have rS := HI.out.2.1.below bV
            obtain ⟨-, kS, a9, c9, e9, -, -, k4⟩ := rS
            cases e9
            obtain ⟨xb, xo, rfl, -, kc⟩ := k4 (by omega)
            have rW := rw_below HV.out.2 hb
            have HQ : Hid (Below V.heap.size V wr ∧ (∀ t, t < n → S t < 256) ∧ (∀ t, t < n → wr.cell? ⟨xb, xo + t, none⟩ = some (.int .u8 (S t : Nat))) ∧ (∀ t, t < n → wr.cell? ⟨w2.heap.size, t, none⟩ = some (.int .u8 (fm 285 c (S t) : Nat))) ∧ i + 8 ≤ n ∧ n ≤ 140737488351232) := ⟨hb, kS, kc, fun t ht => rW.2.2.cell ht, hlt, hm⟩
            clear hb bV kS k4 kc rW hm hlt hi
            have W1 := HW1.out
            go_wp2
            clear W1
            go_loopw [14, 15, 16] (fun wv vv jv wq => ∃ j : Nat, j ≤ 8 ∧ jv = .int .i64 j ∧ wv = .int .u64 (wbs (fun t => S (i + t)) j : Nat) ∧ vv = .int .u64 (wbs (fun t => fm 285 c (S (i + t))) j : Nat) ∧ wq = wr) (fun _ _ jv _ => 8 - (intOf jv).toNat)
            case atStart => exact ⟨0, Nat.zero_le _, rfl, rfl, rfl, rfl⟩
            case round =>
              obtain ⟨j, hj, rfl, rfl, rfl, hw⟩ := hrel
              obtain ⟨wy, hwy⟩ : ∃ wy : World, wy = wr := ⟨_, rfl⟩
              rw [← hw] at HQ
              by_cases hjl : j < 8
              · obtain ⟨-, g1, g2, g3, g4, g5⟩ := HQ.out
                have j2 : ((j : Nat) : Int) < 8 := by omega
                have q1 := g2 (i + j) (by omega)
                have q2 := g3 (i + j) (by omega)
                have l1 : wbs (fun t => S (i + t)) j < 256 ^ j := wbs_lt (fun t ht => g1 _ (by omega))
                have l2 : wbs (fun t => fm 285 c (S (i + t))) j < 256 ^ j := wbs_lt (fun t ht => fm8_lt _ _)
                have E1 := or_word (wbs (fun t => S (i + t)) j) (S (i + j)) j l1 (g1 _ (by omega)) hjl
                have E2 := or_word (wbs (fun t => fm 285 c (S (i + t))) j) (fm 285 c (S (i + j))) j l2 (fm8_lt _ _) hjl
                have j3 : (i : Int) + (j : Int) < (n : Int) := by omega
                have W2 : wrap64 ((i : Int) + (j : Int)) = (i : Int) + (j : Int) := wrap_sum (by omega) hjl
                have HE : Hid (_ ∧ _) := ⟨E1, E2⟩
                have HW : Hid (wr = _) := hw
                clear g1 g2 g3 g4 g5 l1 l2 E1 E2 hw j1
                go_wp2
                go_roundw
                case rel => exact ⟨j + 1, by omega, by go_num, by rw [HE.out.1]; rfl, by rw [HE.out.2]; rfl, HW.out⟩
                case measure => simp [intOf]; omega
              · have hj8 : j = 8 := by omega
                subst hj8
                rw [show ((8 : Nat) : Int) = 8 from rfl]
                have lw : wbs (fun t => S (i + t)) 8 < 18446744073709551616 := by
                  have := wbs_lt (k := 8) (S := fun t => S (i + t)) (fun t ht => HQ.out.2.1 _ (by have := HQ.out.2.2.2.2.1; omega))
                  have e8 : (256 : Nat) ^ 8 = 18446744073709551616 := by decide
                  omega
                have cW : Calls Try.prog 10 #[.int .u8 (c : Int), .int .u64 (wbs (fun t => S (i + t)) 8 : Nat)] wr fun e w' => e = .returned (.int .u64 (wbs (fun t => fm 285 c (S (i + t))) 8 : Nat)) ∧ Below wr.heap.size wr w' := by
                  have h := sword_any c (wbs (fun t => S (i + t)) 8) wr HI.out.1 lw
                  rw [wdk_wbs (fun t ht => HQ.out.2.1 _ (by have := HQ.out.2.2.2.2.1; omega)) 8 (Nat.le_refl _)] at h
                  exact h
                clear lw hw
                have W1 := HW1.out
                go_wp2_with (go_at_call 10; (with_reducible refine cW.mono ?_); rintro e w9 ⟨rfl, hb9⟩)
                go_roundw
                case rel => exact ⟨i + 8, HQ.out.2.2.2.2.1, by first | rfl | (rw [HW1.out]; rfl), HQ.out.1.trans (hb9.mono HQ.out.1.size)⟩
                case measure => first | exact meas_eight HQ.out.2.2.2.2.1 | (rw [HW1.out]; exact meas_eight HQ.out.2.2.2.2.1)
          · have j1 : ¬ (i : Int) + 8 ≤ (n : Int) := by omega
            have bV := HV.out.1.trans (hb.mono HV.out.1.size)
            clear hm hb hi
            have W1 := HW1.out
            go_wp2
            go_ret
            exact ⟨rfl, bV⟩

      · have j1 : ¬ ((i : Nat) : Int) < (nK : Int) := by omega
        clear hP eP rS h64 hlt he sP sS
        go_wp2
        refine region_plan [8, 4, 2] 136 (by kernel_rfl) (by kernel_rfl) (by kernel_rfl) (fun _ a d v _ h => by cases d <;> exact h) ?_
        refine plan_step ?B1b rfl (fun w' => ?t1b) rfl (fun KK hKK => ?m1b)
        case t1b =>
          simp only [List.take_succ_cons, List.take_zero]
          repeat still_step
          exact rfl
        case m1b =>
        go_simp
        go_wp2_with (go_at_call 8; (with_reducible refine cM.mono ?_); rintro r x1 ⟨rfl, T', hP'⟩; have cE := same7_true (.slice (some ⟨w4.heap.size, 0, none⟩) n n) (.slice (some ⟨w2.heap.size, 0, none⟩) n n) n (fun i => fm 285 c (S i)) x1 (hP'.rP.rb0.congr (fun j hj => hP'.upto j hj)) hP'.rW.rb0; have HQ : Hid (Pc w x1 p w.heap.size w1.heap.size w2.heap.size w4.heap.size n (fun i => fm 285 c (S i)) T' n) := hP'; clear hP')
        refine plan_step ?B2b rfl (fun w' => ?t2b) rfl (fun KK hKK => ?m2b)
        case t2b =>
          simp only [List.take_succ_cons, List.take_zero]
          repeat still_step
          exact rfl
        case m2b =>
        go_simp
        go_wp2_with (go_at_call 9; (with_reducible refine cE.mono ?_); rintro r V ⟨rfl, m2, hV⟩; have HV : Hid (Below w.heap.size w V ∧ Rw V w2.heap.size n (fun i => fm 285 c (S i))) := (by rw [hV]; exact ⟨below_drewN HQ.out.bel m2, HQ.out.rW.drewN m2⟩); clear cE hV)
        refine plan_last ?B3b rfl (fun w' => ?t3b) rfl ?m3b
        case t3b =>
          simp only [List.take_succ_cons, List.take_zero]
          repeat still_step
          exact rfl
        case m3b =>
        clear cM sP2 sS2 HQ
        go_wp2
        go_loopw [13] (fun iv wr => ∃ i : Nat, i ≤ n ∧ iv = .int .i64 i ∧ Below V.heap.size V wr) (fun iv _ => n - (intOf iv).toNat)
        case atStart => exact ⟨0, Nat.zero_le _, rfl, Below.refl _ _⟩
        case round =>
          obtain ⟨i, hi, rfl, hb⟩ := hrel
          have hm := HI.out.2.2.1
          have HW1 : Hid (wrap64 ((i : Int) + 8) = (i : Int) + 8) := wrap_eight (by omega)
          by_cases hlt : i + 8 ≤ n
          · have j1 : (i : Int) + 8 ≤ (n : Int) := by omega
            have bV := HV.out.1.trans (hb.mono HV.out.1.size)
            have rS := HI.out.2.1.below bV
            obtain ⟨-, kS, a9, c9, e9, -, -, k4⟩ := rS
            cases e9
            obtain ⟨xb, xo, rfl, -, kc⟩ := k4 (by omega)
            have rW := rw_below HV.out.2 hb
            have HQ : Hid (Below V.heap.size V wr ∧ (∀ t, t < n → S t < 256) ∧ (∀ t, t < n → wr.cell? ⟨xb, xo + t, none⟩ = some (.int .u8 (S t : Nat))) ∧ (∀ t, t < n → wr.cell? ⟨w2.heap.size, t, none⟩ = some (.int .u8 (fm 285 c (S t) : Nat))) ∧ i + 8 ≤ n ∧ n ≤ 140737488351232) := ⟨hb, kS, kc, fun t ht => rW.2.2.cell ht, hlt, hm⟩
            clear hb bV kS k4 kc rW hm hlt hi
            have W1 := HW1.out
            go_wp2
            clear W1
            go_loopw [14, 15, 16] (fun wv vv jv wq => ∃ j : Nat, j ≤ 8 ∧ jv = .int .i64 j ∧ wv = .int .u64 (wbs (fun t => S (i + t)) j : Nat) ∧ vv = .int .u64 (wbs (fun t => fm 285 c (S (i + t))) j : Nat) ∧ wq = wr) (fun _ _ jv _ => 8 - (intOf jv).toNat)
            case atStart => exact ⟨0, Nat.zero_le _, rfl, rfl, rfl, rfl⟩
            case round =>
              obtain ⟨j, hj, rfl, rfl, rfl, hw⟩ := hrel
              obtain ⟨wy, hwy⟩ : ∃ wy : World, wy = wr := ⟨_, rfl⟩
              rw [← hw] at HQ
              by_cases hjl : j < 8
              · obtain ⟨-, g1, g2, g3, g4, g5⟩ := HQ.out
                have j2 : ((j : Nat) : Int) < 8 := by omega
                have q1 := g2 (i + j) (by omega)
                have q2 := g3 (i + j) (by omega)
                have l1 : wbs (fun t => S (i + t)) j < 256 ^ j := wbs_lt (fun t ht => g1 _ (by omega))
                have l2 : wbs (fun t => fm 285 c (S (i + t))) j < 256 ^ j := wbs_lt (fun t ht => fm8_lt _ _)
                have E1 := or_word (wbs (fun t => S (i + t)) j) (S (i + j)) j l1 (g1 _ (by omega)) hjl
                have E2 := or_word (wbs (fun t => fm 285 c (S (i + t))) j) (fm 285 c (S (i + j))) j l2 (fm8_lt _ _) hjl
                have j3 : (i : Int) + (j : Int) < (n : Int) := by omega
                have W2 : wrap64 ((i : Int) + (j : Int)) = (i : Int) + (j : Int) := wrap_sum (by omega) hjl
                have HE : Hid (_ ∧ _) := ⟨E1, E2⟩
                have HW : Hid (wr = _) := hw
                clear g1 g2 g3 g4 g5 l1 l2 E1 E2 hw j1
                go_wp2
                go_roundw
                case rel => exact ⟨j + 1, by omega, by go_num, by rw [HE.out.1]; rfl, by rw [HE.out.2]; rfl, HW.out⟩
                case measure => simp [intOf]; omega
              · have hj8 : j = 8 := by omega
                subst hj8
                rw [show ((8 : Nat) : Int) = 8 from rfl]
                have lw : wbs (fun t => S (i + t)) 8 < 18446744073709551616 := by
                  have := wbs_lt (k := 8) (S := fun t => S (i + t)) (fun t ht => HQ.out.2.1 _ (by have := HQ.out.2.2.2.2.1; omega))
                  have e8 : (256 : Nat) ^ 8 = 18446744073709551616 := by decide
                  omega
                have cW : Calls Try.prog 10 #[.int .u8 (c : Int), .int .u64 (wbs (fun t => S (i + t)) 8 : Nat)] wr fun e w' => e = .returned (.int .u64 (wbs (fun t => fm 285 c (S (i + t))) 8 : Nat)) ∧ Below wr.heap.size wr w' := by
                  have h := sword_any c (wbs (fun t => S (i + t)) 8) wr HI.out.1 lw
                  rw [wdk_wbs (fun t ht => HQ.out.2.1 _ (by have := HQ.out.2.2.2.2.1; omega)) 8 (Nat.le_refl _)] at h
                  exact h
                clear lw hw
                have W1 := HW1.out
                go_wp2_with (go_at_call 10; (with_reducible refine cW.mono ?_); rintro e w9 ⟨rfl, hb9⟩)
                go_roundw
                case rel => exact ⟨i + 8, HQ.out.2.2.2.2.1, by first | rfl | (rw [HW1.out]; rfl), HQ.out.1.trans (hb9.mono HQ.out.1.size)⟩
                case measure => first | exact meas_eight HQ.out.2.2.2.2.1 | (rw [HW1.out]; exact meas_eight HQ.out.2.2.2.2.1)
          · have j1 : ¬ (i : Int) + 8 ≤ (n : Int) := by omega
            have bV := HV.out.1.trans (hb.mono HV.out.1.size)
            clear hm hb hi
            have W1 := HW1.out
            go_wp2
            go_ret
            exact ⟨rfl, bV⟩

theorem spieces_any {w : World} (c : Nat) (hc : c < 256) (a : Option Addr) (n ca : Nat) (hu : Rbm w a n ca) (b : Option Addr) (m cb : Nat) (hv : ∃ K, Ri w (.slice b m cb) m K) :
    Calls Try.prog 3 #[.int .u8 (c : Int), .slice a n ca, .slice b m cb] w fun e w' => e = .returned (.bool true) ∧ Below w.heap.size w w' := by
  obtain ⟨hm, S, hS⟩ := hu
  obtain ⟨K, hK⟩ := hv
  exact spieces_walk c n a ca S b m cb K w hc hS hm hK
end Go.Proofs.Ytngmhlpdkbekgab

