import Derived.Test.YtdnjddnjaekgeaaNbd
import Derived.Test.YtdnjddnjaekgeaaEbo
import Derived.Deep.RegionHeld
namespace Go.Proofs.Ytdnjddnjaekgeaa
open Go.RowKit Gf2
set_option linter.unusedVariables false

theorem mix8 (a k d : Nat) (hd : d < 256) : bits .xor .u8 (bits .xor .u8 ((a : Int) * 8 % 256) ((k : Int) % 256)) (d : Int) = (((a * 8 % 256) ^^^ (k % 256) ^^^ d : Nat) : Int) ∧ ((a * 8 % 256) ^^^ (k % 256) ^^^ d) < 256 := by
  have l1 : a * 8 % 256 < 256 := Nat.mod_lt _ (by decide)
  have l2 : k % 256 < 256 := Nat.mod_lt _ (by decide)
  have l3 : (a * 8 % 256) ^^^ (k % 256) < 256 := Nat.xor_lt_two_pow (n := 8) l1 l2
  have e1 := u8_xor_nat _ _ l1 l2
  have e2 := u8_xor_nat _ _ l3 hd
  rw [← e1] at e2
  exact ⟨by rw [← e2]; congr 2, Nat.xor_lt_two_pow (n := 8) l3 hd⟩
theorem xor_fm6 (c d x : Nat) : fm 285 c x ^^^ fm 285 d x = fm 285 (c ^^^ d) x := (fld8.xor_fm _ _ _).symm
theorem fm_fm6 (c d x : Nat) : fm 285 (fm 285 c d) x = fm 285 c (fm 285 d x) := fld8.fm_assoc _ _ _
theorem fm_one6 {x : Nat} (h : x < 256) : fm 285 1 x = x := fld8.one_fm h
theorem fm_zero6 (x : Nat) : fm 285 0 x = 0 := fld8.zero_fm x
set_option maxHeartbeats 4000000 in
set_option maxRecDepth 100000 in
theorem linear_walk (c d : Nat) (u : Value) (n : Nat) (S : Nat → Nat) (w : World) (hc : c < 256) (hd : d < 256) (hu : Rb w u n S) (hm : n ≤ 140737488351232) :
    Calls Try.prog 7 #[.int .u8 (c : Int), .int .u8 (d : Int), u] w fun e w' => e = .returned (.bool true) ∧ Below w.heap.size w w' := by
  obtain ⟨x, cx, rfl⟩ : ∃ x cx, u = .slice x n cx := by obtain ⟨_, _, a, cap, h, _⟩ := hu; exact ⟨a, cap, h⟩
  have hn : n ≤ 140737488355328 := by omega
  have hnb : n ≤ big := hu.1
  have c1 := nnew_any w
  have c2 := fun W => fixed6_any W
  go_enter Try.func7, Try.ntmps7
  go_wp2_with (first | (go_at_call 13; ((with_reducible refine (c1).mono ?_); (rintro e w1 ⟨p, rfl, hk1, hb1⟩))) | (go_at_call 11; ((with_reducible refine (c2 _).mono ?_); (rintro e w2 ⟨rfl, hb2⟩; have s0 := (Ow.start w1 (fun _ => 0) (fun _ => 0) (fun _ _ => 0)).still hb2; have h1 := hu.below hb1; have cC := ow_copied s0 n (s0.src h1) hn))) | (go_at_call 15; ((with_reducible refine (cC).mono ?_); (rintro e w3 ⟨b1, rfl, s1⟩))))
  clear c1 c2 cC
  go_loopw [17] (fun i wr => ∃ k : Nat, k ≤ n ∧ i = .int .i64 k ∧ ∃ T, Ow w1 1 (upn (fun _ => 0) 0 n) (upn (fun _ => 0) 0 b1) (fun _ => T) wr) (fun i _ => n - (intOf i).toNat)
  case atStart => exact ⟨0, Nat.zero_le _, rfl, S, s1.one S rfl⟩
  case round =>
    obtain ⟨k, hk, rfl, T, hs⟩ := hrel
    by_cases hlt : k < n
    · have hr : Rw wr b1 n T := hs.row (t := 0) (by decide)
      have q1 := hr.2.2.cell hlt
      have q2 := hr.2.2.frozen k
      have ib : ((k : Nat) : Int) < (n : Int) := by omega
      have W1 := wrap_succ8 (j := k) (by omega)
      have HV : Hid (Ow w1 1 (upn (fun _ => 0) 0 n) (upn (fun _ => 0) 0 b1) (fun _ => T) wr) := hs
      clear hs hr
      go_wp2
      refine ⟨⟨k + 1, hlt, rfl, (fun i => if i = k then T k * 8 % 256 ^^^ k % 256 ^^^ d else T i), ?_⟩, meas_lt8 hlt⟩
      obtain ⟨v1, v2⟩ := mix8 (T k) k d hd
      rw [v1]
      exact (HV.out.set 0 k _ rfl (by decide) v2).one _ rfl
    · have hkN : k = n := by omega
      subst hkN
      clear hk
      have s3 := hs
      have hmk := make_u8 k hn
      have hcd : c ^^^ d < 256 := Nat.xor_lt_two_pow (n := 8) hc hd
      have X1 := u8_xor_nat c d hc hd
      have q3 := ow_sum s3 k k (s3.src h1) (s3.own 0 k k (b := b1) rfl (by decide) rfl (Nat.le_refl _) hnb) (Nat.le_refl _) hn
      go_wp2_with (first | (go_at_call 21; first | ((with_reducible refine (q3).mono ?_); (rintro e w4 ⟨b4, rfl, s4⟩; have q4 := ow_times s4 hk1 (c) k hc (s4.own 1 k k (b := b4) rfl (by decide) rfl (Nat.le_refl _) hnb) hn)) | ((with_reducible refine (q7).mono ?_); (rintro e w8 ⟨b8, rfl, s8⟩; have q8 := ow_equal s8 k (s8.own 2 k k (b := b5) rfl (by decide) rfl (Nat.le_refl _) hnb) (s8.own 5 k k (b := b8) rfl (by decide) rfl (Nat.le_refl _) hnb) (fun i hi => fld8.fm_xor _ _ _))) | ((with_reducible refine (q12).mono ?_); (rintro e w13 ⟨b12, rfl, s13⟩; have q13 := ow_equal s13 k (s13.own 6 k k (b := b9) rfl (by decide) rfl (Nat.le_refl _) hnb) (s13.own 9 k k (b := b12) rfl (by decide) rfl (Nat.le_refl _) hnb) (fun i hi => (xor_fm6 _ _ _).symm)))) | (go_at_call 20; first | ((with_reducible refine (q4).mono ?_); (rintro e w5 ⟨b5, rfl, s5⟩; have q5 := ow_times s5 hk1 (c) k hc (s5.src h1) hn)) | ((with_reducible refine (q5).mono ?_); (rintro e w6 ⟨b6, rfl, s6⟩; have q6 := ow_times s6 hk1 (c) k hc (s6.own 0 k k (b := b1) rfl (by decide) rfl (Nat.le_refl _) hnb) hn)) | ((with_reducible refine (q6).mono ?_); (rintro e w7 ⟨b7, rfl, s7⟩; have q7 := ow_sum s7 k k (s7.own 3 k k (b := b6) rfl (by decide) rfl (Nat.le_refl _) hnb) (s7.own 4 k k (b := b7) rfl (by decide) rfl (Nat.le_refl _) hnb) (Nat.le_refl _) hn)) | ((with_reducible refine (q9).mono ?_); (rintro e w10 ⟨b9, rfl, s10⟩; have q10 := ow_times s10 hk1 (c) k hc (s10.src h1) hn)) | ((with_reducible refine (q10).mono ?_); (rintro e w11 ⟨b10, rfl, s11⟩; have q11 := ow_times s11 hk1 (d) k hd (s11.src h1) hn)) | ((with_reducible refine (q11).mono ?_); (rintro e w12 ⟨b11, rfl, s12⟩; have q12 := ow_sum s12 k k (s12.own 7 k k (b := b10) rfl (by decide) rfl (Nat.le_refl _) hnb) (s12.own 8 k k (b := b11) rfl (by decide) rfl (Nat.le_refl _) hnb) (Nat.le_refl _) hn)) | ((with_reducible refine (q14).mono ?_); (rintro e w15 ⟨b13, rfl, s15⟩; have q15 := ow_times s15 hk1 (d) k hd (s15.src h1) hn)) | ((with_reducible refine (q15).mono ?_); (rintro e w16 ⟨b14, rfl, s16⟩; have q16 := ow_times s16 hk1 (c) k hc (s16.own 11 k k (b := b14) rfl (by decide) rfl (Nat.le_refl _) hnb) hn)) | ((with_reducible refine (q16).mono ?_); (rintro e w17 ⟨b15, rfl, s17⟩; have q17 := ow_equal s17 k (s17.own 10 k k (b := b13) rfl (by decide) rfl (Nat.le_refl _) hnb) (s17.own 12 k k (b := b15) rfl (by decide) rfl (Nat.le_refl _) hnb) (fun i hi => fm_fm6 _ _ _)))) | (go_at_call 12; first | ((with_reducible refine (q8).mono ?_); (rintro e w9 ⟨rfl, s9⟩; have q9 := ow_times s9 hk1 (c ^^^ d) k hcd (s9.src h1) hn)) | ((with_reducible refine (q13).mono ?_); (rintro e w14 ⟨rfl, s14⟩; have q14 := ow_times s14 hk1 (fm 285 c d) k (fm8_lt _ _) (s14.src h1) hn)) | ((with_reducible refine (q17).mono ?_); (rintro e w18 ⟨rfl, s18⟩))) | (go_at_call 22; ((with_reducible refine (gmul_nat c d _ hc hd).mono ?_); (rintro e w99 ⟨rfl, hw9⟩; have hw9 := hw9.symm; subst hw9))))
      have s18d := s18.drew
      have q18 := ow_times_one s18d hk1 k (s18d.src h1) hn
      clear s3 s4 s5 s6 s7 s8 s9 s10 s11 s12 s13 s14 s15 s16 s17 s18 q3 q4 q5 q6 q7 q8 q9 q10 q11 q12 q13 q14 q15 q16 q17 hs
      go_region_held (fun _ => True) (trivial) (first
        | (go_at_call 20; first
          | ((with_reducible refine q18.mono ?_); rintro e w19 ⟨b16, rfl, s19⟩; have q19 := ow_equal s19 k (s19.own 13 k k (b := b16) rfl (by decide) rfl (Nat.le_refl _) hnb) (s19.src h1) (fun i hi => fm_one6 (h1.2.1 i hi)))
          | ((with_reducible refine q20.mono ?_); rintro e w21 ⟨b17, rfl, s21⟩; have s22 := s21.made k hn; have q22 := ow_equal s22 k (s22.own 14 k k (b := b17) rfl (by decide) rfl (Nat.le_refl _) hnb) (s22.own 15 k k (b := w21.heap.size) rfl (by decide) rfl (Nat.le_refl _) hnb) (fun i hi => fm_zero6 _))
          | ((with_reducible refine q21.mono ?_); rintro e w22 ⟨b17, rfl, s22⟩; have q22 := ow_equal s22 k (s22.own 15 k k (b := b17) rfl (by decide) rfl (Nat.le_refl _) hnb) (s22.own 14 k k (b := w20.heap.size) rfl (by decide) rfl (Nat.le_refl _) hnb) (fun i hi => fm_zero6 _)))
        | (go_at_call 12; first
          | ((with_reducible refine q19.mono ?_); rintro e w20 ⟨rfl, s20⟩; have q20 := ow_times_zero s20 hk1 k (s20.src h1) hn; have s21 := s20.made k hn; have q21 := ow_times_zero s21 hk1 k (s21.src h1) hn)
          | ((with_reducible refine q22.mono ?_); rintro e w23 ⟨rfl, s23⟩)))
      all_goals
        go_wp2
        go_ret
        exact ⟨rfl, hb1.trans (s23.1.mono hb1.size)⟩
theorem linear_any {w : World} (c : Nat) (hc : c < 256) (d : Nat) (hd : d < 256) (a : Option Addr) (n ca : Nat) (hu : Rbm w a n ca) :
    Calls Try.prog 7 #[.int .u8 (c : Int), .int .u8 (d : Int), .slice a n ca] w fun e w' => e = .returned (.bool true) ∧ Below w.heap.size w w' := by
  obtain ⟨hm, S, hS⟩ := hu
  exact linear_walk c d _ n S w hc hd hS hm
end Go.Proofs.Ytdnjddnjaekgeaa
