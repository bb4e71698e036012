import Derived.Test.YthfpadkihommaaaMre
namespace Go.Proofs.Ythfpadkihommaaa
open Go.RowKit Gf2
set_option linter.unusedVariables false

set_option maxHeartbeats 2000000 in
set_option maxRecDepth 100000 in
theorem unit10_true (u v : Value) (n f t : Nat) (P V : Nat → Nat) (w : World) (h : Rb w u n V) (k : Qi w v t (fun i => (P i : Int))) (hn : n ≤ 1000) (ht : t ≤ 1000) (hP : ∀ i j, i < j → j < t → P i < P j)
    (hV : ∀ c, c < n → (∀ k, k < t → P k ≠ c) → V c = if c = f then 1 else 0) :
    Calls Try.prog 23 #[u, .int .i64 (f : Int), v] w fun e w' => e = .returned (.bool true) ∧ w' = w := by
  obtain ⟨-, hF, a, cap, rfl, -, -, h4⟩ := h
  obtain ⟨-, -, a', cap', rfl, -, -, k4⟩ := k
  go_enter Try.func23, Try.ntmps23
  go_wp2
  go_loopw [7, 8] (fun s i wr => ∃ x c : Nat, x ≤ t ∧ c ≤ n ∧ s = .int .i64 x ∧ i = .int .i64 c ∧ (∀ i, i < x → P i < c) ∧ (∀ i, x ≤ i → i < t → c ≤ P i) ∧ wr = w) (fun _ i _ => n - (intOf i).toNat)
  case atStart => exact ⟨0, 0, Nat.zero_le _, Nat.zero_le _, rfl, rfl, fun i hi => absurd hi (Nat.not_lt_zero _), fun i _ _ => Nat.zero_le _, rfl⟩
  case round =>
    obtain ⟨x, c, hx, hc, rfl, rfl, d1, d2, hw⟩ := hrel
    have hw := hw.symm
    subst hw
    by_cases hct : c < n
    · obtain ⟨b, o, rfl, -, z1⟩ := h4 (by omega)
      have q1 := z1 c hct
      have ib : ((c : Nat) : Int) < (n : Int) := Int.ofNat_lt.2 hct
      have W1 := wrap_lt8 hct hn
      have HX : Hid (c < n) := hct
      by_cases hxt : x < t
      · obtain ⟨b', o', rfl, -, z2⟩ := k4 (by omega)
        have q2 := z2 x hxt
        have ix : ((x : Nat) : Int) < (t : Int) := Int.ofNat_lt.2 hxt
        have W2 := wrap_lt8 hxt ht
        by_cases hp : P x = c
        · rw [hp] at q2
          have HD : Hid (x + 1 ≤ t ∧ (∀ i, i < x + 1 → P i < c + 1) ∧ ∀ i, x + 1 ≤ i → i < t → c + 1 ≤ P i) := ⟨hxt, fun i hi => by
            by_cases e : i = x
            · subst e; omega
            · have := d1 i (by omega); omega, fun i h1 h2 => by have := hP x i (by omega) h2; omega⟩
          generalize V c = y at q1
          clear z1 z2 hp hxt hct hx hc d1 d2 hP hV hF h4 k4 hn ht
          go_wp2
          go_roundw
          case rel => exact ⟨x + 1, c + 1, HD.out.1, HX.out, by first | rfl | (rw [W2]; rfl), by first | rfl | (rw [W1]; rfl), HD.out.2.1, HD.out.2.2, by first | trivial | rfl⟩
          case measure => first | exact meas_lt8 HX.out | (rw [W1]; exact meas_lt8 HX.out)
        · have hlt : c < P x := by have := d2 x (Nat.le_refl _) hxt; omega
          have hno : ∀ k, k < t → P k ≠ c := fun k hk e => by
            by_cases e2 : k < x
            · have := d1 k e2; omega
            · by_cases e3 : k = x
              · subst e3; omega
              · have := hP x k (by omega) hk; omega
          have hv := hV c hct hno
          have HD : Hid (x ≤ t ∧ (∀ i, i < x → P i < c + 1) ∧ ∀ i, x ≤ i → i < t → c + 1 ≤ P i) := ⟨hx, fun i hi => by have := d1 i hi; omega, fun i h1 h2 => by
            by_cases e : i = x
            · subst e; omega
            · have := hP x i (by omega) h2; omega⟩
          have T1 : (((P x : Nat) : Int) == ((c : Nat) : Int)) = false := by simp; omega
          generalize P x = px at q2 T1
          by_cases hcf : c = f
          · subst hcf
            rw [if_pos rfl] at hv
            rw [hv] at q1
            clear z1 z2 hp hxt hct hx hc d1 d2 hP hV hF h4 k4 hn ht hlt hno hv
            go_wp2
            go_roundw
            case rel => exact ⟨x, c + 1, HD.out.1, HX.out, rfl, by first | rfl | (rw [W1]; rfl), HD.out.2.1, HD.out.2.2, by first | trivial | rfl⟩
            case measure => first | exact meas_lt8 HX.out | (rw [W1]; exact meas_lt8 HX.out)
          · rw [if_neg hcf] at hv
            rw [hv] at q1
            have T2 : (((c : Nat) : Int) == ((f : Nat) : Int)) = false := by simp; omega
            clear z1 z2 hp hxt hct hx hc d1 d2 hP hV hF h4 k4 hn ht hlt hno hv hcf
            go_wp2
            go_roundw
            case rel => exact ⟨x, c + 1, HD.out.1, HX.out, rfl, by first | rfl | (rw [W1]; rfl), HD.out.2.1, HD.out.2.2, by first | trivial | rfl⟩
            case measure => first | exact meas_lt8 HX.out | (rw [W1]; exact meas_lt8 HX.out)
      · have hno : ∀ k, k < t → P k ≠ c := fun k hk e => by have := d1 k (by omega); omega
        have hv := hV c hct hno
        have ix : ¬ ((x : Nat) : Int) < (t : Int) := by omega
        have HD : Hid (x ≤ t ∧ (∀ i, i < x → P i < c + 1) ∧ ∀ i, x ≤ i → i < t → c + 1 ≤ P i) := ⟨hx, fun i hi => by have := d1 i hi; omega, fun i h1 h2 => by omega⟩
        by_cases hcf : c = f
        · subst hcf
          rw [if_pos rfl] at hv
          rw [hv] at q1
          clear z1 hxt hct hx hc d1 d2 hP hV hF h4 k4 hn ht hno hv
          go_wp2
          go_roundw
          case rel => exact ⟨x, c + 1, HD.out.1, HX.out, rfl, by first | rfl | (rw [W1]; rfl), HD.out.2.1, HD.out.2.2, by first | trivial | rfl⟩
          case measure => first | exact meas_lt8 HX.out | (rw [W1]; exact meas_lt8 HX.out)
        · rw [if_neg hcf] at hv
          rw [hv] at q1
          have T2 : (((c : Nat) : Int) == ((f : Nat) : Int)) = false := by simp; omega
          clear z1 hxt hct hx hc d1 d2 hP hV hF h4 k4 hn ht hno hv hcf
          go_wp2
          go_roundw
          case rel => exact ⟨x, c + 1, HD.out.1, HX.out, rfl, by first | rfl | (rw [W1]; rfl), HD.out.2.1, HD.out.2.2, by first | trivial | rfl⟩
          case measure => first | exact meas_lt8 HX.out | (rw [W1]; exact meas_lt8 HX.out)
    · have hcn : c = n := by omega
      subst hcn
      clear h4 k4 hP hV hF d1 d2 hx hc hct hn ht
      go_wp2
      go_ret
      exact ⟨rfl, rfl⟩
end Go.Proofs.Ythfpadkihommaaa
