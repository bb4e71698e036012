import Derived.Test.YtdnjddnjaekgeaaNbe
import Derived.Test.YtdnjddnjaekgeaaEsh
import Derived.Deep.RegionHeld
namespace Go.Proofs.Ytdnjddnjaekgeaa
open Go.RowKit Gf2
set_option linter.unusedVariables false

set_option maxHeartbeats 2000000 in
set_option maxRecDepth 100000 in
theorem refMul6_lens (c n m : Nat) (u v : Value) (D S : Nat → Nat) (w : World) (hu : Rb w u n D) (hv : Rb w v m S) (hn : n ≤ 140737488351232) (hnm : n ≠ m) :
    Calls Try.prog 17 #[.int .u8 (c : Int), u, v] w fun e w' => ∃ g C, e = .returned (.tuple #[.slice (some ⟨g, 0, none⟩) n C, .int .i64 6]) ∧ Own8 w w' g C n D := by
  obtain ⟨x, cx, rfl⟩ : ∃ x cx, u = .slice x n cx := by obtain ⟨_, _, a, cap, h, _⟩ := hu; exact ⟨a, cap, h⟩
  obtain ⟨w1, g, C, F0, hrun, hC, hg, hg1, hR, hF, hb⟩ := copy_app w hu (by omega)
  obtain ⟨k1, k2, b, cb, rfl, k5, k6, k4⟩ := hv
  have HA : Hid (n ≤ C ∧ w.heap.size ≤ g ∧ Rw w1 g C F0 ∧ Below w.heap.size w w1 ∧ ∀ i, i < n → F0 i = D i) := ⟨hC, hg, hR, hb, hF⟩
  clear hu hC hg hR hb hF hg1 k4
  go_enter Try.func17, Try.ntmps17
  go_wp2_with (at_builtin; refine Lib.wpList_append_run _ rfl _ _ _ _ rfl _ _ rfl rfl _ _ hrun ?_)
  go_ret2
  obtain ⟨hC, hg, hR, hb, hF⟩ := HA.out
  exact ⟨g, C, rfl, hC, hg, hb, _, hR, hF⟩

set_option maxHeartbeats 2000000 in
set_option maxRecDepth 100000 in
theorem refAdd6_lens (c n m : Nat) (u v : Value) (D S : Nat → Nat) (w : World) (hu : Rb w u n D) (hv : Rb w v m S) (hn : n ≤ 140737488351232) (hnm : n ≠ m) :
    Calls Try.prog 18 #[.int .u8 (c : Int), u, v] w fun e w' => ∃ g C, e = .returned (.tuple #[.slice (some ⟨g, 0, none⟩) n C, .int .i64 6]) ∧ Own8 w w' g C n D := by
  obtain ⟨x, cx, rfl⟩ : ∃ x cx, u = .slice x n cx := by obtain ⟨_, _, a, cap, h, _⟩ := hu; exact ⟨a, cap, h⟩
  obtain ⟨w1, g, C, F0, hrun, hC, hg, hg1, hR, hF, hb⟩ := copy_app w hu (by omega)
  obtain ⟨k1, k2, b, cb, rfl, k5, k6, k4⟩ := hv
  have HA : Hid (n ≤ C ∧ w.heap.size ≤ g ∧ Rw w1 g C F0 ∧ Below w.heap.size w w1 ∧ ∀ i, i < n → F0 i = D i) := ⟨hC, hg, hR, hb, hF⟩
  clear hu hC hg hR hb hF hg1 k4
  go_enter Try.func18, Try.ntmps18
  go_wp2_with (at_builtin; refine Lib.wpList_append_run _ rfl _ _ _ _ rfl _ _ rfl rfl _ _ hrun ?_)
  go_ret2
  obtain ⟨hC, hg, hR, hb, hF⟩ := HA.out
  exact ⟨g, C, rfl, hC, hg, hb, _, hR, hF⟩

set_option maxHeartbeats 2000000 in
set_option maxRecDepth 100000 in
theorem refMul6_any (c n : Nat) (u v : Value) (D S : Nat → Nat) (w : World) (hc : c < 256) (hu : Rb w u n D) (hv : Rb w v n S) (hn : n ≤ 140737488351232) :
    Calls Try.prog 17 #[.int .u8 (c : Int), u, v] w fun e w' => ∃ r, e = .returned (.tuple #[r, .int .i64 0]) ∧ Gw w w' r n (fun i => fm 285 c (S i)) := by
  obtain ⟨x, cx, rfl⟩ : ∃ x cx, u = .slice x n cx := by obtain ⟨_, _, a, cap, h, _⟩ := hu; exact ⟨a, cap, h⟩
  obtain ⟨k1, k2, b, cb, rfl, k5, k6, k4⟩ := hv
  clear hu
  go_enter Try.func17, Try.ntmps17
  go_wp2
  go_loopw [8, 20] (fun o i wr => ∃ k : Nat, k ≤ n ∧ i = .int .i64 k ∧ Gw w wr o k (fun i => fm 285 c (S i))) (fun _ i _ => n - (intOf i).toNat)
  case atStart => exact ⟨0, Nat.zero_le _, rfl, Gw.start _ _⟩
  case round =>
    obtain ⟨k, hk, rfl, hG⟩ := hrel
    obtain ⟨oa, oC, rfl⟩ := hG.form
    by_cases hlt : k < n
    · obtain ⟨b', o', rfl, hbl', hc'⟩ := k4 (by omega)
      have q4 := (hG.1.cell (p := ⟨b', o' + k, none⟩) hbl').trans (hc' k (by omega))
      obtain ⟨w2, v2, hrun, hG2⟩ := app_gw hG (fm 285 c (S k)) (fm8_lt _ _) (by omega)
      have ib : ((k : Nat) : Int) < (n : Int) := by omega
      have c1 := fun w => refMul_nat c (S k) w hc (k2 k hlt)
      have W1 := wrap_succ8 (j := k) (by omega)
      have HV : Hid (Gw w w2 v2 (k + 1) (fun i => if i < k then fm 285 c (S i) else fm 285 c (S k))) := hG2
      clear hG hG2 k1 k2 hc' k4 hn hk
      go_wp2_with (first | (go_at_call 25; ((with_reducible refine (c1 _).mono ?_); rintro e w9 ⟨rfl, hw9⟩; have hw9 := hw9.symm; subst hw9)) | (at_builtin; refine Lib.wpList_append_run _ rfl _ _ _ _ rfl _ _ rfl rfl _ _ hrun ?_))
      go_roundw
      case rel =>
        refine ⟨k + 1, hlt, by first | rfl | (rw [W1]; rfl), HV.out.congr (fun i hi => ?_)⟩
        by_cases e : i < k
        · rw [if_pos e]
        · rw [if_neg e, show i = k by omega]
      case measure => first | exact meas_lt8 hlt | (rw [W1]; exact meas_lt8 hlt)
    · have hkN : k = n := by omega
      subst hkN
      clear k4
      go_wp2
      go_ret2
      exact ⟨_, rfl, hG⟩

set_option maxHeartbeats 2000000 in
set_option maxRecDepth 100000 in
theorem refAdd6_any (c n : Nat) (u v : Value) (D S : Nat → Nat) (w : World) (hc : c < 256) (hu : Rb w u n D) (hv : Rb w v n S) (hn : n ≤ 140737488351232) :
    Calls Try.prog 18 #[.int .u8 (c : Int), u, v] w fun e w' => ∃ r, e = .returned (.tuple #[r, .int .i64 0]) ∧ Gw w w' r n (fun i => D i ^^^ fm 285 c (S i)) := by
  obtain ⟨j1, j2, x, cx, rfl, j5, j6, j4⟩ := hu
  obtain ⟨k1, k2, b, cb, rfl, k5, k6, k4⟩ := hv
  go_enter Try.func18, Try.ntmps18
  go_wp2
  go_loopw [8, 20] (fun o i wr => ∃ k : Nat, k ≤ n ∧ i = .int .i64 k ∧ Gw w wr o k (fun i => D i ^^^ fm 285 c (S i))) (fun _ i _ => n - (intOf i).toNat)
  case atStart => exact ⟨0, Nat.zero_le _, rfl, Gw.start _ _⟩
  case round =>
    obtain ⟨k, hk, rfl, hG⟩ := hrel
    obtain ⟨oa, oC, rfl⟩ := hG.form
    by_cases hlt : k < n
    · obtain ⟨b', o', rfl, hbl', hc'⟩ := k4 (by omega)
      have q4 := (hG.1.cell (p := ⟨b', o' + k, none⟩) hbl').trans (hc' k (by omega))
      obtain ⟨b2, o2, rfl, hbl2, hc2⟩ := j4 (by omega)
      have q5 := (hG.1.cell (p := ⟨b2, o2 + k, none⟩) hbl2).trans (hc2 k (by omega))
      have X := u8_xor_nat (D k) (fm 285 c (S k)) (j2 k hlt) (fm8_lt _ _)
      obtain ⟨w2, v2, hrun, hG2⟩ := app_gw hG.drew (D k ^^^ fm 285 c (S k)) (Nat.xor_lt_two_pow (n := 8) (j2 k hlt) (fm8_lt _ _)) (by omega)
      have ib : ((k : Nat) : Int) < (n : Int) := by omega
      have c1 := fun w => refMul_nat c (S k) w hc (k2 k hlt)
      have HV : Hid (Gw w w2 v2 (k + 1) (fun i => if i < k then D i ^^^ fm 285 c (S i) else D k ^^^ fm 285 c (S k))) := hG2
      have HL : Hid (w.heap.size ≤ wr.heap.size) := hG.1.size
      have H4 : Hid (w.cell? ⟨b', o' + k, none⟩ = some (.int .u8 (S k : Nat))) := hc' k (by omega)
      have H5 : Hid (w.cell? ⟨b2, o2 + k, none⟩ = some (.int .u8 (D k : Nat))) := hc2 k (by omega)
      have W1 := wrap_succ8 (j := k) (by omega)
      clear hG hG2 k1 k2 hc' k4 hn hk hc2 j4 j2 j1 j5 j6 k5 k6
      go_wp2
      refine region_planH (fun w' => w'.cell? ⟨b', o' + k, none⟩ = some (.int .u8 (S k : Nat)) ∧ w'.cell? ⟨b2, o2 + k, none⟩ = some (.int .u8 (D k : Nat))) [10, 1, 0, 1] 39 ⟨q4, q5⟩ (by kernel_rfl) (by kernel_rfl) (by kernel_rfl) (fun _ a d v _ h => by cases d <;> exact h) ?_
      refine planH_step ?A1 rfl (fun w' hS => ?s1) rfl (fun K hK => ?n1)
      case s1 =>
        obtain ⟨y1, y2⟩ := hS
        simp only [List.take_succ_cons, List.take_zero]
        repeat still_step
        exact rfl
      case n1 =>
      go_simp
      go_wp2_with (go_at_call 25; ((with_reducible refine (c1 _).mono ?_); rintro e w9 ⟨rfl, hw9⟩; have hw9 := hw9.symm; subst hw9))
      refine hK _ _ ⟨q4, q5⟩ ?_
      clear hK K
      refine planH_step ?A2 rfl (fun w' hS => ?s2) rfl (fun K hK => ?n2)
      case s2 =>
        simp only [List.take_succ_cons, List.take_zero]
        repeat still_step
        exact rfl
      case n2 =>
      go_simp
      have y4 : ((wr.alloc (.cells #[.int .u8 (D k ^^^ fm 285 c (S k) : Nat)] 5)).drew).cell? ⟨b', o' + k, none⟩ = some (.int .u8 (S k : Nat)) := (Below.cell (p := ⟨b', o' + k, none⟩) ((Below.refl wr.heap.size wr).alloc (Nat.le_refl _) _) (Nat.lt_of_lt_of_le hbl' HL.out)).trans q4
      have y5 : ((wr.alloc (.cells #[.int .u8 (D k ^^^ fm 285 c (S k) : Nat)] 5)).drew).cell? ⟨b2, o2 + k, none⟩ = some (.int .u8 (D k : Nat)) := (Below.cell (p := ⟨b2, o2 + k, none⟩) ((Below.refl wr.heap.size wr).alloc (Nat.le_refl _) _) (Nat.lt_of_lt_of_le hbl2 HL.out)).trans q5
      refine hK _ _ ⟨y4, y5⟩ ?_
      clear hK K
      refine planH_step ?A3 rfl (fun w' hS => ?s3) rfl (fun K hK => ?n3)
      case s3 =>
        simp only [List.take_zero]
        exact rfl
      case n3 =>
      refine step_app6 rfl _ _ 22 rfl rfl rfl hrun ?_
      refine hK _ _ ⟨?_, ?_⟩ ?_
      · exact (HV.out.1.cell (p := ⟨b', o' + k, none⟩) hbl').trans H4.out
      · exact (HV.out.1.cell (p := ⟨b2, o2 + k, none⟩) hbl2).trans H5.out
      clear hK K
      refine planH_last ?A4 rfl (fun w' hS => ?s4) rfl ?n4
      case s4 =>
        simp only [List.take_succ_cons, List.take_zero]
        repeat still_step
        exact rfl
      case n4 =>
      clear q4 q5 y4 y5 hrun
      go_wp2
      go_roundw
      case rel =>
        refine ⟨k + 1, hlt, by first | rfl | (rw [W1]; rfl), HV.out.congr (fun i hi => ?_)⟩
        by_cases e : i < k
        · rw [if_pos e]
        · rw [if_neg e, show i = k by omega]
      case measure => first | exact meas_lt8 hlt | (rw [W1]; exact meas_lt8 hlt)
    · have hkN : k = n := by omega
      subst hkN
      clear k4 j4
      go_wp2
      go_ret2
      exact ⟨_, rfl, hG⟩
end Go.Proofs.Ytdnjddnjaekgeaa
