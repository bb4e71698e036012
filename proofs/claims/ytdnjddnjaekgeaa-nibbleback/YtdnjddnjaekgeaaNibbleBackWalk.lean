import Derived.Test.YtdnjddnjaekgeaaNbd
import Derived.Test.YtdnjddnjaekgeaaEbo
import Derived.Test.YtdnjddnjaekgeaaWalkg
import Derived.Deep.RegionHeld
namespace Go.Proofs.Ytdnjddnjaekgeaa
open Go.RowKit Gf2
set_option linter.unusedVariables false

theorem fi_fm6 {c x : Nat} (hc : c < 256) (h0 : c ≠ 0) (hx : x < 256) : fm 285 (fi 285 c) (fm 285 c x) = x := by
  rw [← fld8.fm_assoc, fm_comm 285 (fi 285 c), fld8.fi_mul hc h0, fld8.one_fm hx]
theorem xor_back6 (a b : Nat) : a ^^^ b ^^^ b = a := by rw [Nat.xor_assoc, Nat.xor_self, Nat.xor_zero]
set_option maxHeartbeats 4000000 in
set_option maxRecDepth 100000 in
theorem back_not (c : Nat) (u v : Value) (n m : Nat) (S T : Nat → Nat) (w : World) (hc : c < 256) (hu : Rb w u n S) (hv : Rb w v m T) (hm : n ≤ 140737488351232) (h0 : c ≠ 0) :
    Calls Try.prog 8 #[.int .u8 (c : Int), u, v] w fun e w' => e = .returned (.bool true) ∧ Below w.heap.size w w' := by
  obtain ⟨x, cx, rfl⟩ : ∃ x cx, u = .slice x n cx := by obtain ⟨_, _, a, cap, h, _⟩ := hu; exact ⟨a, cap, h⟩
  obtain ⟨y, cy, rfl⟩ : ∃ x cx, v = .slice x m cx := by obtain ⟨_, _, a, cap, h, _⟩ := hv; exact ⟨a, cap, h⟩
  have hn : n ≤ 140737488355328 := by omega
  have hnb : n ≤ big := hu.1
  have c1 := nnew_any w
  have c2 := fun W => fixed6_any W
  have hmk := make_u8 n hn
  have c3 := fun W => ginv_nat c W hc h0
  have ne0 : ((c : Int) != 0) = true := by simp; omega
  go_enter Try.func8, Try.ntmps8
  go_wp2_with (first | (go_at_call 13; ((with_reducible refine (c1).mono ?_); (rintro e w1 ⟨p, rfl, hk1, hb1⟩))) | (go_at_call 11; ((with_reducible refine (c2 _).mono ?_); (rintro e w2 ⟨rfl, hb2⟩; have s0 := (Ow.start w1 (fun _ => 0) (fun _ => 0) (fun _ _ => 0)).still hb2; have h1 := hu.below hb1; have h2 := hv.below hb1; have cC := ow_copied s0 n (s0.src h1) hn))) | (go_at_call 15; ((with_reducible refine (cC).mono ?_); (rintro e w3 ⟨b1, rfl, s1⟩; have q1 := ow_mul_same s1 hk1 0 c n (b := b1) n n rfl (by decide) rfl hc))) | (go_at_call 23; ((with_reducible refine (c3 _).mono ?_); (rintro e w9 ⟨rfl, hw9⟩; have hw9 := hw9.symm; subst hw9))) | (go_at_call 14; first | ((with_reducible refine (q1).mono ?_); (rintro e w4 ⟨rfl, s2⟩; have q2 := ow_mul_same s2 hk1 0 (fi 285 c) n (b := b1) n n rfl (by decide) rfl (fi8_lt hc h0))) | ((with_reducible refine (q2).mono ?_); (rintro e w5 ⟨rfl, s3⟩; have q3 := ow_equal s3 n (s3.own 0 n n (b := b1) rfl (by decide) rfl (Nat.le_refl _) hnb) (s3.src h1) (fun i hi => fi_fm6 hc h0 (h1.2.1 i hi))))) | (go_at_call 12; ((with_reducible refine (q3).mono ?_); (rintro e wA ⟨rfl, s4⟩; have t0 := s4.one6 S (fun i hi => fi_fm6 hc h0 (h1.2.1 i hi)); clear q1 q2 q3 s1 s2 s3 s4))))
  have t1 := t0.made n hn
  obtain ⟨bA, hbA⟩ : ∃ bA, bA = wA.heap.size := ⟨_, rfl⟩
  rw [← hbA] at t1 ⊢
  obtain ⟨NN, hNN⟩ : ∃ NN, NN = upn (upn (fun _ => 0) 0 n) (0 + 1) n := ⟨_, rfl⟩
  obtain ⟨BB, hBB⟩ : ∃ BB, BB = upn (upn (fun _ => 0) 0 b1) (0 + 1) bA := ⟨_, rfl⟩
  have n0 : NN 0 = n := by rw [hNN]; rfl
  have n1 : NN 1 = n := by rw [hNN]; rfl
  have e0 : BB 0 = b1 := by rw [hBB]; rfl
  have e1 : BB 1 = bA := by rw [hBB]; rfl
  have t1 : Ow w1 2 NN BB (upn (fun _ => S) 1 (fun _ => 0)) (wA.alloc (.cells (madeCells #[.int .u8 0] n) 5)) := by rw [hNN, hBB]; exact t1
  clear hNN hBB hbA t0 c1 c2 c3 cC hmk
  obtain ⟨k1, k2, yy, cc, e, -, -, k4⟩ := h2
  cases e
  go_loopw [61] (fun i wr => ∃ k : Nat, k ≤ n ∧ i = .int .i64 k ∧ ∃ R, Ow w1 2 NN BB (upn (fun _ => S) 1 R) wr) (fun i _ => n - (intOf i).toNat)
  case atStart => exact ⟨0, Nat.zero_le _, rfl, _, t1⟩
  case round =>
    obtain ⟨k, hk, rfl, R, hs⟩ := hrel
    by_cases hlt : k < n
    · have ib : ((k : Nat) : Int) < (n : Int) := by omega
      by_cases hlm : k < m
      · have hr := hs.row (t := 1) (by decide)
        rw [n1, e1, upn_same] at hr
        have q1 := hr.2.2.cell hlt
        have q2 := hr.2.2.frozen k
        obtain ⟨b', o', rfl, hbl', hc'⟩ := k4 (by omega)
        have q4 := (hs.1.cell (p := ⟨b', o' + k, none⟩) hbl').trans (hc' k hlm)
        have im : ((k : Nat) : Int) < (m : Int) := by omega
        have W1 := wrap_succ8 (j := k) (by omega)
        have HV : Hid (Ow w1 2 NN BB (upn (fun _ => S) 1 R) wr ∧ T k < 256) := ⟨hs, k2 k hlm⟩
        clear hs hr hc' k4 k2 k1 t1 hm hn hnb hc h0 hlm
        go_wp2
        go_roundw
        case rel => exact ⟨k + 1, hlt, by first | rfl | (rw [W1]; rfl), _, (HV.out.1.set 1 k (T k) e1.symm (by decide) HV.out.2).over⟩
        case measure => first | exact meas_lt8 hlt | (rw [W1]; exact meas_lt8 hlt)
      · have im : ¬ ((k : Nat) : Int) < (m : Int) := by omega
        have W1 := wrap_succ8 (j := k) (by omega)
        clear k4 k2 k1 t1 hm hn hnb hc h0 hlm
        go_wp2
        go_roundw
        case rel => exact ⟨k + 1, hlt, by first | rfl | (rw [W1]; rfl), _, hs⟩
        case measure => first | exact meas_lt8 hlt | (rw [W1]; exact meas_lt8 hlt)
    · have hkN : k = n := by omega
      subst hkN
      clear hk k4 k2 k1 t1
      have rb := hs.own 1 k k (b := bA) e1.symm (by decide) n1.symm (Nat.le_refl _) hnb
      have cD := ow_copied hs k rb hn
      go_wp2_with (first | (go_at_call 15; ((with_reducible refine (cD).mono ?_); (rintro e w20 ⟨b20, rfl, s20⟩; have q20 := ow_add s20 hk1 2 c k (b := b20) k k rfl (by decide) rfl hc (s20.farRow 0 2 k (b := b1) e0.symm (by decide) (by decide) (by decide) (Nat.le_of_eq n0.symm))))) | (go_at_call 16; first | ((with_reducible refine (q20).mono ?_); (rintro e w21 ⟨rfl, s21⟩; have q21 := ow_times s21 hk1 c k hc (s21.src h1) hn)) | ((with_reducible refine (q24).mono ?_); (rintro e w25 ⟨rfl, s25⟩; have q25 := ow_equal s25 k (s25.own 2 k k (b := b20) rfl (by decide) rfl (Nat.le_refl _) hnb) (s25.own 1 k k (b := bA) e1.symm (by decide) n1.symm (Nat.le_refl _) hnb) (fun i hi => xor_back6 _ _)))) | (go_at_call 20; ((with_reducible refine (q21).mono ?_); (rintro e w22 ⟨b22, rfl, s22⟩; have q22 := ow_sum s22 k k (s22.own 1 k k (b := bA) e1.symm (by decide) n1.symm (Nat.le_refl _) hnb) (s22.own 3 k k (b := b22) rfl (by decide) rfl (Nat.le_refl _) hnb) (Nat.le_refl _) hn))) | (go_at_call 21; ((with_reducible refine (q22).mono ?_); (rintro e w23 ⟨b23, rfl, s23⟩; have q23 := ow_equal s23 k (s23.own 2 k k (b := b20) rfl (by decide) rfl (Nat.le_refl _) hnb) (s23.own 4 k k (b := b23) rfl (by decide) rfl (Nat.le_refl _) hnb) (fun i hi => rfl)))) | (go_at_call 12; first | ((with_reducible refine (q23).mono ?_); (rintro e w24 ⟨rfl, s24⟩; have q24 := ow_add s24 hk1 2 c k (b := b20) k k rfl (by decide) rfl hc (s24.farRow 0 2 k (b := b1) e0.symm (by decide) (by decide) (by decide) (Nat.le_of_eq n0.symm)))) | ((with_reducible refine (q25).mono ?_); (rintro e w26 ⟨rfl, s26⟩))))
      go_ret
      exact ⟨rfl, hb1.trans (s26.1.mono hb1.size)⟩
set_option maxHeartbeats 4000000 in
set_option maxRecDepth 100000 in
theorem back_zero (c : Nat) (u v : Value) (n m : Nat) (S T : Nat → Nat) (w : World) (hc : c < 256) (hu : Rb w u n S) (hv : Rb w v m T) (hm : n ≤ 140737488351232) (h0 : c = 0) :
    Calls Try.prog 8 #[.int .u8 (c : Int), u, v] w fun e w' => e = .returned (.bool true) ∧ Below w.heap.size w w' := by
  obtain ⟨x, cx, rfl⟩ : ∃ x cx, u = .slice x n cx := by obtain ⟨_, _, a, cap, h, _⟩ := hu; exact ⟨a, cap, h⟩
  obtain ⟨y, cy, rfl⟩ : ∃ x cx, v = .slice x m cx := by obtain ⟨_, _, a, cap, h, _⟩ := hv; exact ⟨a, cap, h⟩
  have hn : n ≤ 140737488355328 := by omega
  have hnb : n ≤ big := hu.1
  have c1 := nnew_any w
  have c2 := fun W => fixed6_any W
  have hmk := make_u8 n hn
  have c3 : ∀ W, Calls Try.prog 23 #[.int .u8 (c : Int)] W fun e w' => e = .returned (.tuple #[.int .u8 0, .int .i64 20]) ∧ w' = W := by subst h0; exact fun W => ginv_zero W
  have ne0 : ((c : Int) != 0) = false := by subst h0; rfl
  clear h0
  go_enter Try.func8, Try.ntmps8
  go_wp2_with (first | (go_at_call 13; ((with_reducible refine (c1).mono ?_); (rintro e w1 ⟨p, rfl, hk1, hb1⟩))) | (go_at_call 11; ((with_reducible refine (c2 _).mono ?_); (rintro e w2 ⟨rfl, hb2⟩; have s0 := (Ow.start w1 (fun _ => 0) (fun _ => 0) (fun _ _ => 0)).still hb2; have h1 := hu.below hb1; have h2 := hv.below hb1; have cC := ow_copied s0 n (s0.src h1) hn))) | (go_at_call 15; ((with_reducible refine (cC).mono ?_); (rintro e wA ⟨b1, rfl, s1⟩; have t0 := s1.one S rfl))) | (go_at_call 23; ((with_reducible refine (c3 _).mono ?_); (rintro e w9 ⟨rfl, hw9⟩; have hw9 := hw9.symm; subst hw9))))
  have t1 := t0.made n hn
  obtain ⟨bA, hbA⟩ : ∃ bA, bA = wA.heap.size := ⟨_, rfl⟩
  rw [← hbA] at t1 ⊢
  obtain ⟨NN, hNN⟩ : ∃ NN, NN = upn (upn (fun _ => 0) 0 n) (0 + 1) n := ⟨_, rfl⟩
  obtain ⟨BB, hBB⟩ : ∃ BB, BB = upn (upn (fun _ => 0) 0 b1) (0 + 1) bA := ⟨_, rfl⟩
  have n0 : NN 0 = n := by rw [hNN]; rfl
  have n1 : NN 1 = n := by rw [hNN]; rfl
  have e0 : BB 0 = b1 := by rw [hBB]; rfl
  have e1 : BB 1 = bA := by rw [hBB]; rfl
  have t1 : Ow w1 2 NN BB (upn (fun _ => S) 1 (fun _ => 0)) (wA.alloc (.cells (madeCells #[.int .u8 0] n) 5)) := by rw [hNN, hBB]; exact t1
  clear hNN hBB hbA t0 c1 c2 c3 cC hmk
  obtain ⟨k1, k2, yy, cc, e, -, -, k4⟩ := h2
  cases e
  go_loopw [61] (fun i wr => ∃ k : Nat, k ≤ n ∧ i = .int .i64 k ∧ ∃ R, Ow w1 2 NN BB (upn (fun _ => S) 1 R) wr) (fun i _ => n - (intOf i).toNat)
  case atStart => exact ⟨0, Nat.zero_le _, rfl, _, t1⟩
  case round =>
    obtain ⟨k, hk, rfl, R, hs⟩ := hrel
    by_cases hlt : k < n
    · have ib : ((k : Nat) : Int) < (n : Int) := by omega
      by_cases hlm : k < m
      · have hr := hs.row (t := 1) (by decide)
        rw [n1, e1, upn_same] at hr
        have q1 := hr.2.2.cell hlt
        have q2 := hr.2.2.frozen k
        obtain ⟨b', o', rfl, hbl', hc'⟩ := k4 (by omega)
        have q4 := (hs.1.cell (p := ⟨b', o' + k, none⟩) hbl').trans (hc' k hlm)
        have im : ((k : Nat) : Int) < (m : Int) := by omega
        have W1 := wrap_succ8 (j := k) (by omega)
        have HV : Hid (Ow w1 2 NN BB (upn (fun _ => S) 1 R) wr ∧ T k < 256) := ⟨hs, k2 k hlm⟩
        clear hs hr hc' k4 k2 k1 t1 hm hn hnb hlm
        go_wp2
        go_roundw
        case rel => exact ⟨k + 1, hlt, by first | rfl | (rw [W1]; rfl), _, (HV.out.1.set 1 k (T k) e1.symm (by decide) HV.out.2).over⟩
        case measure => first | exact meas_lt8 hlt | (rw [W1]; exact meas_lt8 hlt)
      · have im : ¬ ((k : Nat) : Int) < (m : Int) := by omega
        have W1 := wrap_succ8 (j := k) (by omega)
        clear k4 k2 k1 t1 hm hn hnb hlm
        go_wp2
        go_roundw
        case rel => exact ⟨k + 1, hlt, by first | rfl | (rw [W1]; rfl), _, hs⟩
        case measure => first | exact meas_lt8 hlt | (rw [W1]; exact meas_lt8 hlt)
    · have hkN : k = n := by omega
      subst hkN
      clear hk k4 k2 k1 t1
      have rb := hs.own 1 k k (b := bA) e1.symm (by decide) n1.symm (Nat.le_refl _) hnb
      have cD := ow_copied hs k rb hn
      go_wp2_with (first | (go_at_call 15; ((with_reducible refine (cD).mono ?_); (rintro e w20 ⟨b20, rfl, s20⟩; have q20 := ow_add s20 hk1 2 c k (b := b20) k k rfl (by decide) rfl hc (s20.farRow 0 2 k (b := b1) e0.symm (by decide) (by decide) (by decide) (Nat.le_of_eq n0.symm))))) | (go_at_call 16; first | ((with_reducible refine (q20).mono ?_); (rintro e w21 ⟨rfl, s21⟩; have q21 := ow_times s21 hk1 c k hc (s21.src h1) hn)) | ((with_reducible refine (q24).mono ?_); (rintro e w25 ⟨rfl, s25⟩; have q25 := ow_equal s25 k (s25.own 2 k k (b := b20) rfl (by decide) rfl (Nat.le_refl _) hnb) (s25.own 1 k k (b := bA) e1.symm (by decide) n1.symm (Nat.le_refl _) hnb) (fun i hi => xor_back6 _ _)))) | (go_at_call 20; ((with_reducible refine (q21).mono ?_); (rintro e w22 ⟨b22, rfl, s22⟩; have q22 := ow_sum s22 k k (s22.own 1 k k (b := bA) e1.symm (by decide) n1.symm (Nat.le_refl _) hnb) (s22.own 3 k k (b := b22) rfl (by decide) rfl (Nat.le_refl _) hnb) (Nat.le_refl _) hn))) | (go_at_call 21; ((with_reducible refine (q22).mono ?_); (rintro e w23 ⟨b23, rfl, s23⟩; have q23 := ow_equal s23 k (s23.own 2 k k (b := b20) rfl (by decide) rfl (Nat.le_refl _) hnb) (s23.own 4 k k (b := b23) rfl (by decide) rfl (Nat.le_refl _) hnb) (fun i hi => rfl)))) | (go_at_call 12; first | ((with_reducible refine (q23).mono ?_); (rintro e w24 ⟨rfl, s24⟩; have q24 := ow_add s24 hk1 2 c k (b := b20) k k rfl (by decide) rfl hc (s24.farRow 0 2 k (b := b1) e0.symm (by decide) (by decide) (by decide) (Nat.le_of_eq n0.symm)))) | ((with_reducible refine (q25).mono ?_); (rintro e w26 ⟨rfl, s26⟩))))
      go_ret
      exact ⟨rfl, hb1.trans (s26.1.mono hb1.size)⟩
theorem back_any {w : World} (c : Nat) (hc : c < 256) (a : Option Addr) (n ca : Nat) (hu : Rbm w a n ca) (b : Option Addr) (m cb : Nat) (hv : Rbm w b m cb) :
    Calls Try.prog 8 #[.int .u8 (c : Int), .slice a n ca, .slice b m cb] w fun e w' => e = .returned (.bool true) ∧ Below w.heap.size w w' := by
  obtain ⟨hm, S, hS⟩ := hu
  obtain ⟨-, T, hT⟩ := hv
  by_cases h0 : c = 0
  · exact back_zero c _ _ n m S T w hc hS hT hm h0
  · exact back_not c _ _ n m S T w hc hS hT hm h0
end Go.Proofs.Ytdnjddnjaekgeaa
