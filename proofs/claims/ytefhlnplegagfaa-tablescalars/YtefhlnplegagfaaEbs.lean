import Derived.Test.YtefhlnplegagfaaEbq
namespace Go.Proofs.Ytefhlnplegagfaa
open Go.RowKit Gf2
set_option linter.unusedVariables false

set_option maxHeartbeats 2000000 in
set_option maxRecDepth 100000 in
theorem refAdd5_any (c n : Nat) (u v : Value) (D S : Nat → Nat) (w : World) (hc : c < 256) (hu : Rb w u n D) (hv : Rb w v n S) (hn : n ≤ 140737488351232) :
    Calls Try.prog 38 #[.int .u8 (c : Int), u, v] w fun e w' => ∃ g C, e = .returned (.tuple #[.slice (some ⟨g, 0, none⟩) n C, .int .i64 0]) ∧ Own8 w w' g C n (fun i => D i ^^^ fm 285 c (S i)) := by
  obtain ⟨x, cx, rfl⟩ : ∃ x cx, u = .slice x n cx := by obtain ⟨_, _, a, cap, h, _⟩ := hu; exact ⟨a, cap, h⟩
  obtain ⟨w1, g, C, F0, hrun, hC, hg, hg1, hR, hF, hb⟩ := copy_app w hu (by omega)
  obtain ⟨k1, k2, b, cb, rfl, k5, k6, k4⟩ := hv
  have HA : Hid (n ≤ C ∧ w.heap.size ≤ g ∧ Rw w1 g C F0 ∧ Below w.heap.size w w1) := ⟨hC, hg, hR, hb⟩
  have HF : Hid (∀ i, i < n → F0 i = D i) := hF
  clear hu hC hg hR hb hF hg1
  go_enter Try.func38, Try.ntmps38
  go_wp2_with (at_builtin; refine Lib.wpList_append_run _ rfl _ _ _ _ rfl _ _ rfl rfl _ _ hrun ?_)
  clear hrun
  obtain ⟨hC, hg, hR, hb⟩ := HA.out
  go_loopw [9] (fun i wr => ∃ k : Nat, k ≤ n ∧ i = .int .i64 k ∧ Rw wr g C (fun x => if x < k then F0 x ^^^ fm 285 c (S x) else F0 x) ∧ Below w.heap.size w wr) (fun i _ => n - (intOf i).toNat)
  case atStart => exact ⟨0, Nat.zero_le _, rfl, hR.congr (fun i _ => (if_neg (Nat.not_lt_zero _)).symm), hb⟩
  case round =>
    obtain ⟨k, hk, rfl, hr, hbr⟩ := hrel
    by_cases hlt : k < n
    · have q1 := hr.2.2.cell (i := k) (by omega)
      dsimp only at q1
      rw [if_neg (Nat.lt_irrefl _)] at q1
      obtain ⟨b', o', rfl, hbl', hc'⟩ := k4 (by omega)
      have q4 := (hbr.cell (p := ⟨b', o' + k, none⟩) hbl').trans (hc' k (by omega))
      have q2 := hr.2.2.frozen k
      have ib : ((k : Nat) : Int) < (n : Int) := by omega
      have c1 := fun w => refMul_nat c (S k) w hc (k2 k hlt)
      have l0 : F0 k < 256 := hR.2.1 k (by omega)
      have X := u8_xor_nat (F0 k) (fm 285 c (S k)) l0 (fm8_lt _ _)
      have HX : Hid (F0 k ^^^ fm 285 c (S k) < 256) := Nat.xor_lt_two_pow (n := 8) l0 (fm8_lt _ _)
      have W1 := wrap_succ8 (j := k) (by omega)
      have HV : Hid (Rw wr g C (fun x => if x < k then F0 x ^^^ fm 285 c (S x) else F0 x) ∧ Below w.heap.size w wr) := ⟨hr, hbr⟩
      clear hr hbr k1 k2 hc' k4 hR hb hn l0
      go_wp2
      refine region_tail8 13 (by kernel_rfl) (by kernel_rfl) ?_
      simp only [List.take_succ_cons, List.take_zero, List.drop_succ_cons, List.drop_zero]
      repeat still_step
      still_call (c1 _)
      repeat still_step
      refine wpStill_nil ?_
      go_wp2
      go_roundw
      case rel =>
        obtain ⟨g0, g2⟩ := HV.out
        refine ⟨k + 1, hlt, by first | rfl | (rw [W1]; rfl), ?_⟩
        clear W1 X c1
        refine ⟨⟨g0.1, fun i hi => ?_, World.rowIs.drew ((g0.2.2.set k _).congr (fun i hi => ?_))⟩, (g2.setCell hg _).drew⟩
        · have := g0.2.1 i hi
          dsimp only at this ⊢
          by_cases e : i = k
          · subst e; rw [if_pos (Nat.lt_succ_self _)]; exact HX.out
          · by_cases e2 : i < k
            · rw [if_pos e2] at this; rw [if_pos (by omega)]; exact this
            · rw [if_neg e2] at this; rw [if_neg (by omega)]; exact this
        · dsimp only
          by_cases e : i = k
          · subst e; rw [if_pos rfl, if_pos (Nat.lt_succ_self _)]
          · rw [if_neg e]
            by_cases e2 : i < k
            · rw [if_pos e2, if_pos (by omega)]
            · rw [if_neg e2, if_neg (by omega)]
      case measure => first | exact meas_lt8 hlt | (rw [W1]; exact meas_lt8 hlt)
    · have hkN : k = n := by omega
      subst hkN
      clear k4
      go_wp2
      go_ret2
      exact ⟨g, C, rfl, hC, hg, hbr, _, hr, fun i hi => by dsimp only; rw [if_pos hi, HF.out i hi]⟩
end Go.Proofs.Ytefhlnplegagfaa
