import Derived.Test.YthfpadkihommaaaMre
namespace Go.Proofs.Ythfpadkihommaaa
open Go.RowKit Gf2
set_option linter.unusedVariables false

/-- a reduced form's shape. -/
structure Sh (m n t : Nat) (P : Nat → Nat) (M : Nat → Nat → Nat) : Prop where
  tm : t ≤ m
  pc : ∀ i, i < t → P i < n
  up : ∀ i k, i < k → k < t → P i < P k
  unit : ∀ i k, i < m → k < t → M i (P k) = idm i k
  ahead : ∀ k j, k < t → j < P k → M k j = 0
  rest : ∀ i j, t ≤ i → i < m → j < n → M i j = 0
theorem Red.sh {m n : Nat} {M0 : Nat → Nat → Nat} {s : St} (h : Red m n M0 s) : Sh m n s.t s.P s.M := ⟨h.tm, h.pc, h.up, h.unit, h.ahead, h.rest⟩

set_option maxHeartbeats 4000000 in
set_option maxRecDepth 100000 in
theorem stairs10_true (u v : Value) (m n t : Nat) (P : Nat → Nat) (M : Nat → Nat → Nat) (w : World) (h : Lb w u m (fun _ => n) M) (k : Qi w v t (fun i => (P i : Int))) (h1 : 1 ≤ m) (hm : m ≤ 1000) (hn : n ≤ 1000) (hS : Sh m n t P M) :
    Calls Try.prog 20 #[u, v] w fun e w' => e = .returned (.bool true) ∧ w' = w := by
  obtain ⟨b, o, cap, X, CX, rfl, hU⟩ := rows10f h h1
  have hU := hU w (Below.refl _ _)
  obtain ⟨-, -, a', cap', rfl, -, -, k4⟩ := k
  have HU : Hid (∀ i, i < m → w.cell? ⟨b, o + i, none⟩ = some (.slice (X i) n (CX i)) ∧ ∀ j, j < n → ∃ bx ox, X i = some ⟨bx, ox, none⟩ ∧ w.cell? ⟨bx, ox + j, none⟩ = some (.int .u8 (M i j : Nat))) := fun i hi => ⟨(hU i hi).1, fun j hj => by
    obtain ⟨bx, ox, e, -, -, hc⟩ := ((hU i hi).2 w.heap.size (Nat.le_refl _)).2 (by omega)
    exact ⟨bx, ox, e, hc j hj⟩⟩
  have H : Hid (t ≤ m ∧ m ≤ 1000 ∧ n ≤ 1000) := ⟨hS.tm, hm, hn⟩
  have HS : Hid _ := hS
  have HC : Hid (∀ i, i < t → ∃ b o, a' = some ⟨b, o, none⟩ ∧ ∀ i, i < t → w.cell? ⟨b, o + i, none⟩ = some (.int .i64 (P i : Int))) := fun i hi => by
    obtain ⟨b', o', e, hl, hc⟩ := k4 (by omega)
    exact ⟨b', o', e, hc⟩
  clear h h1 hm hn hS hU k4
  go_enter Try.func20, Try.ntmps20
  go_wp2
  go_loopw [5] (fun i wr => ∃ r : Nat, r ≤ t ∧ i = .int .i64 r ∧ wr = w) (fun i _ => t - (intOf i).toNat)
  case atStart => exact ⟨0, Nat.zero_le _, rfl, rfl⟩
  case round =>
    obtain ⟨r, hr, rfl, hw⟩ := hrel
    have hw := hw.symm
    subst hw
    by_cases hlt : r < t
    · obtain ⟨b', o', rfl, hc⟩ := HC.out r hlt
      have q1 := hc r hlt
      have hrm : r < m := Nat.lt_of_lt_of_le hlt H.out.1
      obtain ⟨q2, -⟩ := HU.out r hrm
      have hpn := HS.out.pc r hlt
      have ir : ((r : Nat) : Int) < (t : Int) := Int.ofNat_lt.2 hlt
      have irm : ((r : Nat) : Int) < (m : Int) := Int.ofNat_lt.2 hrm
      have irm2 : ¬ (m : Int) ≤ ((r : Nat) : Int) := by omega
      have ip0 : ¬ ((P r : Nat) : Int) < 0 := by omega
      have ip : ((P r : Nat) : Int) < (n : Int) := Int.ofNat_lt.2 hpn
      have ip2 : ¬ (n : Int) ≤ ((P r : Nat) : Int) := by omega
      have W1 := wrap_lt8 hlt (by have := H.out; omega)
      have HX : Hid (r < t ∧ r < m) := ⟨hlt, hrm⟩
      have HA : Hid (∀ j, j < P r → j < n ∧ M r j = 0) := fun j hj => ⟨by omega, HS.out.ahead r j hlt hj⟩
      have HI : Hid (∀ i, i < m → M i (P r) = idm i r) := fun i hi => HS.out.unit i r hi hlt
      have HPn : Hid (P r < n) := hpn
      obtain ⟨x, px, q3, T0, T1, WX⟩ : ∃ x px : Nat, (0 < r → w.cell? ⟨b', o' + x, none⟩ = some (.int .i64 (px : Int))) ∧ (0 < r → ((x : Nat) : Int) < (t : Int)) ∧ (0 < r → ¬ ((P r : Nat) : Int) ≤ (px : Int)) ∧ (0 < r → wrap64 ((r : Int) - 1) = (x : Int)) := by
        refine ⟨r - 1, P (r - 1), fun h0 => hc (r - 1) (by omega), fun h0 => by omega, fun h0 => ?_, fun h0 => ?_⟩
        · have := HS.out.up (r - 1) r (by omega) hlt
          omega
        · have := H.out; unfold wrap64; omega
      clear hc hlt hrm hpn hr
      generalize P r = p at q1 ip0 ip ip2 HA HI HPn T1
      have HQ : Hid (w.cell? ⟨b, o + r, none⟩ = some (.slice (X r) n (CX r))) := q2
      rcases Nat.eq_zero_or_pos r with h0 | h0
      · have ir0 : ¬ (0 : Int) < (r : Int) := by omega
        clear q3 T0 T1 WX h0
        go_wp2
        go_loopw [7] (fun i wr => ∃ c : Nat, c ≤ p ∧ i = .int .i64 c ∧ wr = w) (fun i _ => p - (intOf i).toNat)
        case atStart => exact ⟨0, Nat.zero_le _, rfl, rfl⟩
        case round =>
          obtain ⟨c, hc, rfl, hw⟩ := hrel
          have hw := hw.symm
          subst hw
          by_cases hct : c < p
          · obtain ⟨bx, ox, ex, q5⟩ := (HU.out _ HX.out.2).2 c (HA.out c hct).1
            rw [(HA.out c hct).2] at q5
            rw [ex] at q2
            have ic : ((c : Nat) : Int) < (n : Int) := Int.ofNat_lt.2 (HA.out c hct).1
            have icp : ((c : Nat) : Int) < (p : Int) := Int.ofNat_lt.2 hct
            have W2 := wrap_lt8 hct (by have := H.out; have := HPn.out; omega)
            have HX2 : Hid (c < p) := hct
            clear hct hc ex
            go_wp2
            go_roundw
            case rel => exact ⟨c + 1, HX2.out, by first | rfl | (rw [W2]; rfl), by first | trivial | rfl⟩
            case measure => first | exact meas_lt8 HX2.out | (rw [W2]; exact meas_lt8 HX2.out)
          · have hcn : c = p := Nat.le_antisymm hc (Nat.le_of_not_lt hct)
            subst hcn
            clear hc hct q2
            go_wp2
            go_loopw [8] (fun i wr => ∃ a : Nat, a ≤ m ∧ i = .int .i64 a ∧ wr = w) (fun i _ => m - (intOf i).toNat)
            case atStart => exact ⟨0, Nat.zero_le _, rfl, rfl⟩
            case round =>
              obtain ⟨a, ha, rfl, hw⟩ := hrel
              have hw := hw.symm
              subst hw
              by_cases ham : a < m
              · obtain ⟨q2, q3⟩ := HU.out a ham
                obtain ⟨bx, ox, ex, q5⟩ := q3 c HPn.out
                rw [HI.out a ham] at q5
                rw [ex] at q2
                have ia : ((a : Nat) : Int) < (m : Int) := Int.ofNat_lt.2 ham
                have W2 := wrap_lt8 ham (by have := H.out; omega)
                have HX2 : Hid (a < m) := ham
                clear q3 ham ha ex
                by_cases har : a = r
                · subst har
                  rw [show idm a a = 1 from if_pos rfl] at q5
                  go_wp2
                  go_roundw
                  case rel => exact ⟨a + 1, HX2.out, by first | rfl | (rw [W2]; rfl), by first | trivial | rfl⟩
                  case measure => first | exact meas_lt8 HX2.out | (rw [W2]; exact meas_lt8 HX2.out)
                · rw [show idm a r = 0 from if_neg har] at q5
                  have T5 : (((a : Nat) : Int) == ((r : Nat) : Int)) = false := by simp; omega
                  clear har
                  go_wp2
                  go_roundw
                  case rel => exact ⟨a + 1, HX2.out, by first | rfl | (rw [W2]; rfl), by first | trivial | rfl⟩
                  case measure => first | exact meas_lt8 HX2.out | (rw [W2]; exact meas_lt8 HX2.out)
              · have hcn : a = m := Nat.le_antisymm ha (Nat.le_of_not_lt ham)
                subst hcn
                clear ha ham
                go_wp2
                go_roundw
                case rel => exact ⟨r + 1, HX.out.1, by first | rfl | (rw [W1]; rfl), by first | trivial | rfl⟩
                case measure => first | exact meas_lt8 HX.out.1 | (rw [W1]; exact meas_lt8 HX.out.1)
      · have q3 := q3 h0
        have T0 := T0 h0
        have T1 := T1 h0
        have WX := WX h0
        have ir0 : (0 : Int) < (r : Int) := Int.ofNat_lt.2 h0
        clear h0
        go_wp2
        clear q3 T0 T1 WX ir0
        go_loopw [7] (fun i wr => ∃ c : Nat, c ≤ p ∧ i = .int .i64 c ∧ wr = w) (fun i _ => p - (intOf i).toNat)
        case atStart => exact ⟨0, Nat.zero_le _, rfl, rfl⟩
        case round =>
          obtain ⟨c, hc, rfl, hw⟩ := hrel
          have hw := hw.symm
          subst hw
          by_cases hct : c < p
          · obtain ⟨bx, ox, ex, q5⟩ := (HU.out _ HX.out.2).2 c (HA.out c hct).1
            rw [(HA.out c hct).2] at q5
            rw [ex] at q2
            have ic : ((c : Nat) : Int) < (n : Int) := Int.ofNat_lt.2 (HA.out c hct).1
            have icp : ((c : Nat) : Int) < (p : Int) := Int.ofNat_lt.2 hct
            have W2 := wrap_lt8 hct (by have := H.out; have := HPn.out; omega)
            have HX2 : Hid (c < p) := hct
            clear hct hc ex
            go_wp2
            go_roundw
            case rel => exact ⟨c + 1, HX2.out, by first | rfl | (rw [W2]; rfl), by first | trivial | rfl⟩
            case measure => first | exact meas_lt8 HX2.out | (rw [W2]; exact meas_lt8 HX2.out)
          · have hcn : c = p := Nat.le_antisymm hc (Nat.le_of_not_lt hct)
            subst hcn
            clear hc hct q2
            go_wp2
            go_loopw [8] (fun i wr => ∃ a : Nat, a ≤ m ∧ i = .int .i64 a ∧ wr = w) (fun i _ => m - (intOf i).toNat)
            case atStart => exact ⟨0, Nat.zero_le _, rfl, rfl⟩
            case round =>
              obtain ⟨a, ha, rfl, hw⟩ := hrel
              have hw := hw.symm
              subst hw
              by_cases ham : a < m
              · obtain ⟨q2, q3⟩ := HU.out a ham
                obtain ⟨bx, ox, ex, q5⟩ := q3 c HPn.out
                rw [HI.out a ham] at q5
                rw [ex] at q2
                have ia : ((a : Nat) : Int) < (m : Int) := Int.ofNat_lt.2 ham
                have W2 := wrap_lt8 ham (by have := H.out; omega)
                have HX2 : Hid (a < m) := ham
                clear q3 ham ha ex
                by_cases har : a = r
                · subst har
                  rw [show idm a a = 1 from if_pos rfl] at q5
                  go_wp2
                  go_roundw
                  case rel => exact ⟨a + 1, HX2.out, by first | rfl | (rw [W2]; rfl), by first | trivial | rfl⟩
                  case measure => first | exact meas_lt8 HX2.out | (rw [W2]; exact meas_lt8 HX2.out)
                · rw [show idm a r = 0 from if_neg har] at q5
                  have T5 : (((a : Nat) : Int) == ((r : Nat) : Int)) = false := by simp; omega
                  clear har
                  go_wp2
                  go_roundw
                  case rel => exact ⟨a + 1, HX2.out, by first | rfl | (rw [W2]; rfl), by first | trivial | rfl⟩
                  case measure => first | exact meas_lt8 HX2.out | (rw [W2]; exact meas_lt8 HX2.out)
              · have hcn : a = m := Nat.le_antisymm ha (Nat.le_of_not_lt ham)
                subst hcn
                clear ha ham
                go_wp2
                go_roundw
                case rel => exact ⟨r + 1, HX.out.1, by first | rfl | (rw [W1]; rfl), by first | trivial | rfl⟩
                case measure => first | exact meas_lt8 HX.out.1 | (rw [W1]; exact meas_lt8 HX.out.1)
    · have hrt : r = t := Nat.le_antisymm hr (Nat.le_of_not_lt hlt)
      subst hrt
      clear HC hr hlt
      go_wp2
      go_loopw [9] (fun i wr => ∃ a : Nat, r ≤ a ∧ a ≤ m ∧ i = .int .i64 a ∧ wr = w) (fun i _ => m - (intOf i).toNat)
      case atStart => exact ⟨r, Nat.le_refl _, H.out.1, rfl, rfl⟩
      case round =>
        obtain ⟨a, ha1, ha2, rfl, hw⟩ := hrel
        have hw := hw.symm
        subst hw
        by_cases ham : a < m
        · obtain ⟨q2, q3⟩ := HU.out a ham
          have ia : ((a : Nat) : Int) < (m : Int) := Int.ofNat_lt.2 ham
          have W1 := wrap_lt8 ham (by have := H.out; omega)
          have HX : Hid (r ≤ a ∧ a < m) := ⟨ha1, ham⟩
          have HQ3 : Hid _ := q3
          have HZ : Hid (∀ j, j < n → M a j = 0) := fun j hj => HS.out.rest a j ha1 ham hj
          clear q3 ham ha1 ha2
          go_wp2
          go_loopw [10] (fun i wr => ∃ c : Nat, c ≤ n ∧ i = .int .i64 c ∧ wr = w) (fun i _ => n - (intOf i).toNat)
          case atStart => exact ⟨0, Nat.zero_le _, rfl, rfl⟩
          case round =>
            obtain ⟨c, hc, rfl, hw⟩ := hrel
            have hw := hw.symm
            subst hw
            by_cases hct : c < n
            · obtain ⟨bx, ox, ex, q5⟩ := HQ3.out c hct
              rw [HZ.out c hct] at q5
              rw [ex] at q2
              have ic : ((c : Nat) : Int) < (n : Int) := Int.ofNat_lt.2 hct
              have W2 := wrap_lt8 hct (by have := H.out; omega)
              have HX2 : Hid (c < n) := hct
              clear hct hc ex
              go_wp2
              go_roundw
              case rel => exact ⟨c + 1, HX2.out, by first | rfl | (rw [W2]; rfl), by first | trivial | rfl⟩
              case measure => first | exact meas_lt8 HX2.out | (rw [W2]; exact meas_lt8 HX2.out)
            · have hcn : c = n := Nat.le_antisymm hc (Nat.le_of_not_lt hct)
              subst hcn
              clear hc hct
              go_wp2
              go_roundw
              case rel => exact ⟨a + 1, Nat.le_succ_of_le HX.out.1, HX.out.2, by first | rfl | (rw [W1]; rfl), by first | trivial | rfl⟩
              case measure => first | exact meas_lt8 HX.out.2 | (rw [W1]; exact meas_lt8 HX.out.2)
        · have hcn : a = m := Nat.le_antisymm ha2 (Nat.le_of_not_lt ham)
          subst hcn
          clear ha1 ha2 ham
          go_wp2
          go_ret
          exact ⟨rfl, by first | trivial | rfl⟩
end Go.Proofs.Ythfpadkihommaaa
