import Derived.Test.YtlblkckglelbdaaGreatMwbd
namespace Go.Proofs.YtlblkckglelbdaaGreat
open Go.RowKit Gf2
set_option linter.unusedVariables false

-- layer 19: Shards, where turnsOf answers turns; over any contracts of turnsOf and turned
set_option maxHeartbeats 8000000 in
set_option maxRecDepth 100000 in
theorem shardsh19 (f k m : Int) (n L sb cs : Nat) (R ln C : Nat → Nat) (va : Nat → Option Addr) (vc : Nat → Nat) (G : Nat → Nat → Nat) (w : World) (Q : World → Value → Nat → (Nat → Bool) → (Nat → Nat) → (Nat → Nat → Nat) → Prop) (Q2 : World → Int → Prop) (hn : n ≤ 1048576)
    (c1 : Calls Tryz.prog 21 #[.int .i64 f, .int .i64 k, .int .i64 m, .slice (some ⟨sb, 0, none⟩) n cs] w fun e w2 => ∃ aT nt z, e = .returned (.tuple #[.slice aT nt nt, .int .i64 z]) ∧ Calls Tryz.prog 22 #[.slice aT nt nt, .slice (some ⟨sb, 0, none⟩) n cs] w2 fun e w3 => ∃ v, e = .returned v ∧ ((∃ gt tb B T, aT = some ⟨gt, 0, none⟩ ∧ nt = n ∧ z = 0 ∧ Sxh19 w3 gt sb n L 0 tb B R ln C va vc T G ∧ Q w3 v gt tb B T) ∨ (nt = 0 ∧ v = .slice none 0 0 ∧ Q2 w3 z))) :
    Calls Tryz.prog 5 #[.int .i64 f, .int .i64 k, .int .i64 m, .slice (some ⟨sb, 0, none⟩) n cs] w fun e w' => (∃ gt tb B T w3 v, e = .returned (.tuple #[v, .int .i64 0]) ∧ Q w3 v gt tb B T ∧ Sxh19 w' gt sb n L n tb B R ln C va vc T G ∧ Ke (fun x => x = sb ∨ ∃ y, y < n ∧ ln y ≠ 0 ∧ x = R y) w3 w') ∨ ∃ z, e = .returned (.tuple #[.slice none 0 0, .int .i64 z]) ∧ Q2 w' z := by
  have HN : Hid (n ≤ 1048576) := hn
  clear hn
  go_enter Tryz.func5, Tryz.ntmps5
  go_wp2_with (first
    | (go_at_call 21; (with_reducible refine c1.mono ?_); rintro e w2 ⟨aT, nt, z, rfl, c2⟩; clear c1)
    | (go_at_call 22; (with_reducible refine c2.mono ?_); rintro e w3 ⟨v, rfl, hS⟩; clear c2))
  have HS : Hid _ := hS
  clear hS
  go_loopw [26] (fun s wr => ∃ i : Nat, i ≤ nt ∧ s = .int .i64 (i : Int) ∧ ((∃ gt tb B T, aT = some ⟨gt, 0, none⟩ ∧ nt = n ∧ z = 0 ∧ Q w3 v gt tb B T ∧ Sxh19 wr gt sb n L i tb B R ln C va vc T G ∧ Ke (fun x => x = sb ∨ ∃ y, y < n ∧ ln y ≠ 0 ∧ x = R y) w3 wr) ∨ (nt = 0 ∧ v = .slice none 0 0 ∧ Q2 wr z))) (fun s _ => nt - (intOf s).toNat)
  case atStart =>
    refine ⟨0, Nat.zero_le _, rfl, ?_⟩
    rcases HS.out with ⟨gt, tb, B, T, e1, e2, e3, hS, hQ⟩ | h
    · exact .inl ⟨gt, tb, B, T, e1, e2, e3, hQ, hS, Ke.refl _ _⟩
    · exact .inr h
  case round =>
    obtain ⟨i, hi, rfl, hrel⟩ := hrel
    clear HS
    by_cases hlt : i < nt
    case' pos =>
      rcases hrel with ⟨gt, tb, B, T, rfl, hnt, rfl, hQ, hL, hk⟩ | ⟨h, -, -⟩
      case' inr => exact absurd hlt (by omega)
      have hnt := hnt.symm
      subst hnt
      have HQ : Hid (Q w3 v gt tb B T) := hQ
      clear hQ
    case pos =>
      have q1 := hL.trow.cell hlt
      have q2 := hL.row.cell hlt
      have q3 := hL.row.frozen i
      rw [if_neg (show ¬ (i < i ∧ ln i = 0) from fun h9 => absurd h9.1 (Nat.lt_irrefl _))] at q2
      have ib : ((i : Nat) : Int) < (n : Int) := Int.ofNat_lt.2 hlt
      have W1 := wrap_succ8 (j := i) (by have := HN.out; unfold big; omega)
      by_cases h0 : ln i = 0
      · have hM := hL.miss hlt h0
        have hk2 : Ke (fun x => x = sb ∨ ∃ y, y < n ∧ ln y ≠ 0 ∧ x = R y) w3 (wr.setCell ⟨sb, i, none⟩ (if tb i then .slice (some ⟨B i, 0, none⟩) L L else .slice none 0 0)) := hk.trans ((((Kp.refl _ _).setCell _ _).ke).mono (fun x _ e => .inl e))
        have HE : Hid (i < n ∧ Sxh19 (wr.setCell ⟨sb, i, none⟩ (if tb i then .slice (some ⟨B i, 0, none⟩) L L else .slice none 0 0)) gt sb n L (i + 1) tb B R ln C va vc T G ∧ Ke (fun x => x = sb ∨ ∃ y, y < n ∧ ln y ≠ 0 ∧ x = R y) w3 (wr.setCell ⟨sb, i, none⟩ (if tb i then .slice (some ⟨B i, 0, none⟩) L L else .slice none 0 0))) := ⟨hlt, hM, hk2⟩
        rw [h0] at q2
        clear hL hk hM hk2 hlt hi h0
        cases hb : tb i with
        | true =>
          rw [hb] at HE q1
          simp only [if_true] at HE q1
          go_wp2
          go_roundw
          case rel => exact ⟨i + 1, HE.out.1, by first | rfl | (rw [W1]; rfl), .inl ⟨gt, tb, B, T, rfl, by trivial, by trivial, HQ.out, HE.out.2.1, HE.out.2.2⟩⟩
          case measure => first | exact meas_lt8 HE.out.1 | (rw [W1]; exact meas_lt8 HE.out.1)
        | false =>
          rw [hb] at HE q1
          simp only [Bool.false_eq_true, if_false] at HE q1
          go_wp2
          go_roundw
          case rel => exact ⟨i + 1, HE.out.1, by first | rfl | (rw [W1]; rfl), .inl ⟨gt, tb, B, T, rfl, by trivial, by trivial, HQ.out, HE.out.2.1, HE.out.2.2⟩⟩
          case measure => first | exact meas_lt8 HE.out.1 | (rw [W1]; exact meas_lt8 HE.out.1)
      · have hlL : ln i = L := (hL.le i hlt).2.resolve_right h0
        have h0I : ¬ ((ln i : Nat) : Int) = 0 := by omega
        rw [(hL.sl i hlt h0).1, (hL.sl i hlt h0).2] at q2
        cases hb : tb i with
        | true =>
          rw [hb] at q1
          simp only [if_true] at q1
          have c3 := hL.hit hlt h0 hb
          have HE : Hid (i < n ∧ ln i = L ∧ ln i ≠ 0 ∧ Ke (fun x => x = sb ∨ ∃ y, y < n ∧ ln y ≠ 0 ∧ x = R y) w3 wr) := ⟨hlt, hlL, h0, hk⟩
          rw [hlL] at q2 h0I
          clear hL hk hlt hi hb hlL
          go_wp2_with (go_at_call 23; (with_reducible refine c3.mono ?_); rintro e w9 ⟨rfl, k1, k2⟩; clear c3)
          have HF : Hid (Sxh19 w9 gt sb n L (i + 1) tb B R ln C va vc T G ∧ Kp (R i) wr w9) := ⟨k1, k2⟩
          clear k1 k2
          go_roundw
          case rel => exact ⟨i + 1, HE.out.1, by first | rfl | (rw [W1]; rfl), .inl ⟨gt, tb, B, T, rfl, by trivial, by trivial, HQ.out, HF.out.1, HE.out.2.2.2.trans (HF.out.2.ke.mono (fun x _ e => .inr ⟨i, HE.out.1, HE.out.2.2.1, e⟩))⟩⟩
          case measure => first | exact meas_lt8 HE.out.1 | (rw [W1]; exact meas_lt8 HE.out.1)
        | false =>
          rw [hb] at q1
          simp only [Bool.false_eq_true, if_false] at q1
          have c3 := addTo_nil19 (.slice (some ⟨R i, 0, none⟩) (ln i) (C i)) wr
          have HE : Hid (i < n ∧ Sxh19 wr gt sb n L (i + 1) tb B R ln C va vc T G ∧ Ke (fun x => x = sb ∨ ∃ y, y < n ∧ ln y ≠ 0 ∧ x = R y) w3 wr) := ⟨hlt, hL.pass hlt h0 hb, hk⟩
          clear hL hk hlt hi hb hlL
          go_wp2_with (go_at_call 23; (with_reducible refine c3.mono ?_); rintro e w9 ⟨rfl, hw9⟩; have hw9 := hw9.symm; subst hw9; clear c3)
          go_roundw
          case rel => exact ⟨i + 1, HE.out.1, by first | rfl | (rw [W1]; rfl), .inl ⟨gt, tb, B, T, rfl, by trivial, by trivial, HQ.out, HE.out.2.1, HE.out.2.2⟩⟩
          case measure => first | exact meas_lt8 HE.out.1 | (rw [W1]; exact meas_lt8 HE.out.1)
    case neg =>
      have ib : ¬ ((i : Nat) : Int) < (nt : Int) := by omega
      have hin : i = nt := by omega
      have HF : Hid _ := hrel
      clear hrel hlt hi
      go_wp2
      go_ret2
      rcases HF.out with ⟨gt, tb, B, T, rfl, rfl, rfl, hQ, hL, hk⟩ | ⟨h1, rfl, h2⟩
      · subst hin
        exact .inl ⟨gt, tb, B, T, w3, v, rfl, hQ, hL, hk⟩
      · exact .inr ⟨z, rfl, h2⟩
end Go.Proofs.YtlblkckglelbdaaGreat
