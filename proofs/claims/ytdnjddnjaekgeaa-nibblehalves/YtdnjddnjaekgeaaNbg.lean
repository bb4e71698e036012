import Derived.Test.YtdnjddnjaekgeaaNbe
namespace Go.Proofs.Ytdnjddnjaekgeaa
open Go.RowKit Gf2
set_option linter.unusedVariables false

set_option maxHeartbeats 2000000 in
set_option maxRecDepth 100000 in
theorem refHalves6_any (c : Nat) (w : World) (hc : c < 256) :
    Calls Try.prog 10 #[.int .u8 (c : Int)] w fun e w' => ∃ r s, e = .returned (.tuple #[r, s]) ∧ Gw w w' r 16 (fun i => fm 285 c i) ∧ Gw w w' s 16 (fun i => fm 285 c (16 * i)) := by
  go_enter Try.func10, Try.ntmps10
  go_wp2
  go_loopw [4, 5, 6] (fun r s i wr => ∃ k : Nat, k ≤ 16 ∧ i = .int .i64 k ∧ Gw w wr r k (fun i => fm 285 c i) ∧ Gw w wr s k (fun i => fm 285 c (16 * i)) ∧ Dif r s) (fun _ _ i _ => 16 - (intOf i).toNat)
  case atStart => exact ⟨0, by decide, rfl, Gw.start _ _, Gw.start _ _, Dif.nil _⟩
  case round =>
    obtain ⟨k, hk, rfl, hR, hS, hD⟩ := hrel
    obtain ⟨ra, rC, rfl⟩ := hR.form
    obtain ⟨sa, sC, rfl⟩ := hS.form
    by_cases hlt : k < 16
    · obtain ⟨w2, v2, hrun, hR2, hk2⟩ := app_gw2 hR (fm 285 c k) (fm8_lt _ _) (by omega)
      obtain ⟨hS2, hD2⟩ := hk2 _ _ _ hS hD
      obtain ⟨w3, v3, hrun3, hS3, hk3⟩ := app_gw2 hS2 (fm 285 c (16 * k)) (fm8_lt _ _) (by omega)
      obtain ⟨hR3, hD3⟩ := hk3 _ _ _ hR2 hD2.symm
      have ik : ((k : Nat) : Int) < 16 := by omega
      have c1 := fun w => refMul_nat c k w hc (by omega)
      have c2 : ∀ W, Calls Try.prog 25 #[.int .u8 (c : Int), .int .u8 (16 * (k : Int))] W fun e w' => e = .returned (.int .u8 (fm 285 c (16 * k) : Nat)) ∧ w' = W := fun W => by
        have h := refMul_nat c (16 * k) W hc (by omega)
        rw [show ((16 * k : Nat) : Int) = 16 * (k : Int) by omega] at h
        exact h
      have HV : Hid (Gw w w3 v2 (k + 1) (fun i => if i < k then fm 285 c i else fm 285 c k) ∧ Gw w w3 v3 (k + 1) (fun i => if i < k then fm 285 c (16 * i) else fm 285 c (16 * k)) ∧ Dif v2 v3) := ⟨hR3, hS3, hD3.symm⟩
      clear hR hS hD hR2 hk2 hS2 hD2 hS3 hk3 hR3 hD3
      go_wp2_with (first | (go_at_call 25; first | ((with_reducible refine (c1 _).mono ?_); rintro e w9 ⟨rfl, hw9⟩; have hw9 := hw9.symm; subst hw9) | ((with_reducible refine (c2 _).mono ?_); rintro e w9 ⟨rfl, hw9⟩; have hw9 := hw9.symm; subst hw9)) | (at_builtin; refine Lib.wpList_append_run _ rfl _ _ _ _ rfl _ _ rfl rfl _ _ hrun ?_) | (at_builtin; refine Lib.wpList_append_run _ rfl _ _ _ _ rfl _ _ rfl rfl _ _ hrun3 ?_))
      go_roundw
      case rel =>
        obtain ⟨h1, h2, h3⟩ := HV.out
        refine ⟨k + 1, hlt, by go_num, h1.congr (fun i hi => ?_), h2.congr (fun i hi => ?_), h3⟩
        · by_cases e : i < k
          · rw [if_pos e]
          · rw [if_neg e, show i = k by omega]
        · by_cases e : i < k
          · rw [if_pos e]
          · rw [if_neg e, show i = k by omega]
      case measure => simp [intOf]; omega
    · have hkN : k = 16 := by omega
      subst hkN
      go_wp2
      go_ret2
      exact ⟨_, _, rfl, hR, hS⟩
end Go.Proofs.Ytdnjddnjaekgeaa
