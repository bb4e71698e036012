import Derived.Test.YtdnjddnjaekgeaaNbd
import Derived.Test.YtdnjddnjaekgeaaNbf
import Derived.Test.YtdnjddnjaekgeaaEbo
import Derived.Deep.RegionHeld
namespace Go.Proofs.Ytdnjddnjaekgeaa
open Go.RowKit Gf2
set_option linter.unusedVariables false

set_option maxHeartbeats 4000000 in
set_option maxRecDepth 100000 in
theorem calls_same (c : Nat) (u v : Value) (n : Nat) (D S : Nat → Nat) (w : World) (hc : c < 256) (hu : Rb w u n D) (hv : Rb w v n S) (hm : n ≤ 140737488351232) :
    Calls Try.prog 4 #[.int .u8 (c : Int), u, v] w fun e w' => e = .returned (.bool true) ∧ Below w.heap.size w w' := by
  obtain ⟨x, cx, rfl⟩ : ∃ x cx, u = .slice x n cx := by obtain ⟨_, _, a, cap, h, _⟩ := hu; exact ⟨a, cap, h⟩
  obtain ⟨y, cy, rfl⟩ : ∃ x cx, v = .slice x n cx := by obtain ⟨_, _, a, cap, h, _⟩ := hv; exact ⟨a, cap, h⟩
  have hn : n ≤ 140737488355328 := by omega
  have hnb : n ≤ big := hu.1
  have c2 := fixed6_any w
  have z1 := fun u v W => nmul_nil (c : Int) u v W
  have z2 := fun u v W => nadd_nil (c : Int) u v W
  go_enter Try.func4, Try.ntmps4
  go_wp2_with (first | (go_at_call 11; ((with_reducible refine (c2).mono ?_); (rintro e w1 ⟨rfl, hb1⟩; have s0 := Ow.start w1 (fun _ => 0) (fun _ => 0) (fun _ _ => 0); have hu1 := hu.below hb1; have hv1 := hv.below hb1; have q0 := ow_copied s0 n (s0.src hu1) hn))) | (go_at_call 15; first | ((with_reducible refine (q0).mono ?_); (rintro e w2 ⟨b2, rfl, s2⟩; have q2 := ow_copied s2 n (s2.src hv1) hn)) | ((with_reducible refine (q2).mono ?_); (rintro e w3 ⟨b3, rfl, s3⟩; have q3 := ow_equal s3 n (s3.own 0 n n (b := b2) rfl (by decide) rfl (Nat.le_refl _) hnb) (s3.src hu1) (fun i hi => rfl)))) | (go_at_call 14; ((with_reducible refine (z1 _ _ _).mono ?_); (rintro e w9 ⟨rfl, hw9⟩; have hw9 := hw9.symm; subst hw9))) | (go_at_call 16; ((with_reducible refine (z2 _ _ _).mono ?_); (rintro e w9 ⟨rfl, hw9⟩; have hw9 := hw9.symm; subst hw9))) | (go_at_call 12; first | ((with_reducible refine (q3).mono ?_); (rintro e w4 ⟨rfl, s4⟩; have q4 := ow_equal s4 n (s4.own 1 n n (b := b3) rfl (by decide) rfl (Nat.le_refl _) hnb) (s4.src hv1) (fun i hi => rfl))) | ((with_reducible refine (q4).mono ?_); (rintro e w5 ⟨rfl, s5⟩; have q5 := nnew_any w5))) | (go_at_call 13; ((with_reducible refine (q5).mono ?_); (rintro e w6 ⟨p, rfl, hk6, hb6⟩; have hb16 := s5.1.trans (hb6.mono s5.1.size); have hu6 := hu1.below hb16; have hv6 := hv1.below hb16; have t0 := Ow.start w6 (fun _ => 0) (fun _ => 0) (fun _ _ => 0); have r0 := ow_copied t0 n (t0.src hu6) hn; clear q0 q2 q3 q4 q5 s0 s2 s3 s4 z1 z2))))
  go_wp2_with (first | (go_at_call 15; first | ((with_reducible refine (r0).mono ?_); (rintro e w7 ⟨b7, rfl, t1⟩; have r1 := ow_copied t1 n (t1.src hv6) hn)) | ((with_reducible refine (r1).mono ?_); (rintro e w8 ⟨b8, rfl, t2⟩; have r2 := refMul6_any c n _ _ D S w8 hc (t2.src hu6) (t2.src hv6) hm)) | ((with_reducible refine (r6).mono ?_); (rintro e w13 ⟨b13, rfl, t7⟩; have r7 := refAdd6_any c n _ _ D S w13 hc (t7.src hu6) (t7.src hv6) hm))) | (go_at_call 17; ((with_reducible refine (r2).mono ?_); (rintro e w9 ⟨rr, rfl, hG⟩; obtain ⟨ra, rC, rfl⟩ := hG.form; have t3 := t2.still hG.1; have r3 := ow_mulk t3 hk6 0 c n (b := b7) n n rfl (by decide) rfl hc (t3.farRow 1 0 n (b := b8) rfl (by decide) (by decide) (by decide) (Nat.le_refl _)); have l3 : b7 < w8.heap.size := (t2.row (t := 0) (by decide)).lt))) | (go_at_call 14; ((with_reducible refine (r3).mono ?_); (rintro e w10 ⟨rfl, t4, kp4⟩; have r4 := ow_equal t4 n (t4.own 0 n n (b := b7) rfl (by decide) rfl (Nat.le_refl _) hnb) (hG.kp kp4 l3) (fun i hi => rfl)))) | (go_at_call 18; ((with_reducible refine (r7).mono ?_); (rintro e w14 ⟨rr, rfl, hH⟩; obtain ⟨rb, rD, rfl⟩ := hH.form; have t8 := t7.still hH.1; have r8 := ow_addk t8 hk6 2 c n (b := b13) n n rfl (by decide) rfl hc (t8.farRow 1 2 n (b := b8) rfl (by decide) (by decide) (by decide) (Nat.le_refl _)); have l8 : b13 < w13.heap.size := (t7.row (t := 2) (by decide)).lt))) | (go_at_call 16; ((with_reducible refine (r8).mono ?_); (rintro e w15 ⟨rfl, t9, kp9⟩; have r9 := ow_equal t9 n (t9.own 2 n n (b := b13) rfl (by decide) rfl (Nat.le_refl _) hnb) (hH.kp kp9 l8) (fun i hi => rfl)))) | (go_at_call 12; first | ((with_reducible refine (r4).mono ?_); (rintro e w11 ⟨rfl, t5⟩; have r5 := ow_equal t5 n (t5.own 1 n n (b := b8) rfl (by decide) rfl (Nat.le_refl _) hnb) (t5.src hv6) (fun i hi => rfl))) | ((with_reducible refine (r5).mono ?_); (rintro e w12 ⟨rfl, t6⟩; have r6 := ow_copied t6 n (t6.src hu6) hn)) | ((with_reducible refine (r9).mono ?_); (rintro e w16 ⟨rfl, t10⟩; have r10 := ow_equal t10 n (t10.own 1 n n (b := b8) rfl (by decide) rfl (Nat.le_refl _) hnb) (t10.src hv6) (fun i hi => rfl))) | ((with_reducible refine (r10).mono ?_); (rintro e w17 ⟨rfl, t11⟩))))
  go_ret
  exact ⟨rfl, hb1.trans ((hb16.trans (t11.1.mono hb16.size)).mono hb1.size)⟩
set_option maxHeartbeats 4000000 in
set_option maxRecDepth 100000 in
theorem calls_unlike (c : Nat) (u v : Value) (n m : Nat) (D S : Nat → Nat) (w : World) (hc : c < 256) (hu : Rb w u n D) (hv : Rb w v m S) (hm : n ≤ 140737488351232) (hm2 : m ≤ 140737488351232) (hnm : n ≠ m) :
    Calls Try.prog 4 #[.int .u8 (c : Int), u, v] w fun e w' => e = .returned (.bool true) ∧ Below w.heap.size w w' := by
  obtain ⟨x, cx, rfl⟩ : ∃ x cx, u = .slice x n cx := by obtain ⟨_, _, a, cap, h, _⟩ := hu; exact ⟨a, cap, h⟩
  obtain ⟨y, cy, rfl⟩ : ∃ x cx, v = .slice x m cx := by obtain ⟨_, _, a, cap, h, _⟩ := hv; exact ⟨a, cap, h⟩
  have hn : n ≤ 140737488355328 := by omega
  have hnb : n ≤ big := hu.1
  have hn2 : m ≤ 140737488355328 := by omega
  have hnb2 : m ≤ big := hv.1
  have c2 := fixed6_any w
  have z1 := fun u v W => nmul_nil (c : Int) u v W
  have z2 := fun u v W => nadd_nil (c : Int) u v W
  go_enter Try.func4, Try.ntmps4
  go_wp2_with (first | (go_at_call 11; ((with_reducible refine (c2).mono ?_); (rintro e w1 ⟨rfl, hb1⟩; have s0 := Ow.start w1 (fun _ => 0) (fun _ => 0) (fun _ _ => 0); have hu1 := hu.below hb1; have hv1 := hv.below hb1; have q0 := ow_copied s0 n (s0.src hu1) hn))) | (go_at_call 15; first | ((with_reducible refine (q0).mono ?_); (rintro e w2 ⟨b2, rfl, s2⟩; have q2 := ow_copied s2 m (s2.src hv1) hn2)) | ((with_reducible refine (q2).mono ?_); (rintro e w3 ⟨b3, rfl, s3⟩; have q3 := ow_equal s3 n (s3.own 0 n n (b := b2) rfl (by decide) rfl (Nat.le_refl _) hnb) (s3.src hu1) (fun i hi => rfl)))) | (go_at_call 14; ((with_reducible refine (z1 _ _ _).mono ?_); (rintro e w9 ⟨rfl, hw9⟩; have hw9 := hw9.symm; subst hw9))) | (go_at_call 16; ((with_reducible refine (z2 _ _ _).mono ?_); (rintro e w9 ⟨rfl, hw9⟩; have hw9 := hw9.symm; subst hw9))) | (go_at_call 12; first | ((with_reducible refine (q3).mono ?_); (rintro e w4 ⟨rfl, s4⟩; have q4 := ow_equal s4 m (s4.own 1 m m (b := b3) rfl (by decide) rfl (Nat.le_refl _) hnb2) (s4.src hv1) (fun i hi => rfl))) | ((with_reducible refine (q4).mono ?_); (rintro e w5 ⟨rfl, s5⟩; have q5 := nnew_any w5))) | (go_at_call 13; ((with_reducible refine (q5).mono ?_); (rintro e w6 ⟨p, rfl, hk6, hb6⟩; have hb16 := s5.1.trans (hb6.mono s5.1.size); have hu6 := hu1.below hb16; have hv6 := hv1.below hb16; have t0 := Ow.start w6 (fun _ => 0) (fun _ => 0) (fun _ _ => 0); have r0 := ow_copied t0 n (t0.src hu6) hn; clear q0 q2 q3 q4 q5 s0 s2 s3 s4 z1 z2))))
  go_wp2_with (first | (go_at_call 15; first | ((with_reducible refine (r0).mono ?_); (rintro e w7 ⟨b7, rfl, t1⟩; have r1 := ow_copied t1 m (t1.src hv6) hn2)) | ((with_reducible refine (r1).mono ?_); (rintro e w8 ⟨b8, rfl, t2⟩; have r2 := refMul6_lens c n m _ _ D S w8 (t2.src hu6) (t2.src hv6) hm hnm)) | ((with_reducible refine (r6).mono ?_); (rintro e w13 ⟨b13, rfl, t7⟩; have r7 := refAdd6_lens c n m _ _ D S w13 (t7.src hu6) (t7.src hv6) hm hnm))) | (go_at_call 17; ((with_reducible refine (r2).mono ?_); (rintro e w9 ⟨rg, rC, rfl, hG⟩; have t3 := t2.still hG.2.2.1; have r3 := nmul_lens p _ _ c n m (some ⟨b7, 0, none⟩) (some ⟨b8, 0, none⟩) n m w9 (t3.nk hk6) hnm))) | (go_at_call 14; ((with_reducible refine (r3).mono ?_); (rintro e w10 ⟨rfl, hw10⟩; have hw10 := hw10.symm; subst hw10; have t4 := t3; have r4 := ow_equal t4 n (t4.own 0 n n (b := b7) rfl (by decide) rfl (Nat.le_refl _) hnb) (own8_rb hG) (fun i hi => rfl)))) | (go_at_call 18; ((with_reducible refine (r7).mono ?_); (rintro e w14 ⟨rh, rD, rfl, hH⟩; have t8 := t7.still hH.2.2.1; have r8 := nadd_lens p _ _ c n m (some ⟨b13, 0, none⟩) (some ⟨b8, 0, none⟩) n m w14 (t8.nk hk6) hnm))) | (go_at_call 16; ((with_reducible refine (r8).mono ?_); (rintro e w15 ⟨rfl, hw15⟩; have hw15 := hw15.symm; subst hw15; have t9 := t8; have r9 := ow_equal t9 n (t9.own 2 n n (b := b13) rfl (by decide) rfl (Nat.le_refl _) hnb) (own8_rb hH) (fun i hi => rfl)))) | (go_at_call 12; first | ((with_reducible refine (r4).mono ?_); (rintro e w11 ⟨rfl, t5⟩; have r5 := ow_equal t5 m (t5.own 1 m m (b := b8) rfl (by decide) rfl (Nat.le_refl _) hnb2) (t5.src hv6) (fun i hi => rfl))) | ((with_reducible refine (r5).mono ?_); (rintro e w12 ⟨rfl, t6⟩; have r6 := ow_copied t6 n (t6.src hu6) hn)) | ((with_reducible refine (r9).mono ?_); (rintro e w16 ⟨rfl, t10⟩; have r10 := ow_equal t10 m (t10.own 1 m m (b := b8) rfl (by decide) rfl (Nat.le_refl _) hnb2) (t10.src hv6) (fun i hi => rfl))) | ((with_reducible refine (r10).mono ?_); (rintro e w17 ⟨rfl, t11⟩))))
  go_ret
  exact ⟨rfl, hb1.trans ((hb16.trans (t11.1.mono hb16.size)).mono hb1.size)⟩
theorem calls_any {w : World} (c : Nat) (hc : c < 256) (a : Option Addr) (n ca : Nat) (hu : Rbm w a n ca) (b : Option Addr) (m cb : Nat) (hv : Rbm w b m cb) :
    Calls Try.prog 4 #[.int .u8 (c : Int), .slice a n ca, .slice b m cb] w fun e w' => e = .returned (.bool true) ∧ Below w.heap.size w w' := by
  obtain ⟨hm, D, hD⟩ := hu
  obtain ⟨hm2, S, hS⟩ := hv
  by_cases h : n = m
  · subst h; exact calls_same c _ _ n D S w hc hD hS hm
  · exact calls_unlike c _ _ n m D S w hc hD hS hm hm2 h
end Go.Proofs.Ytdnjddnjaekgeaa
