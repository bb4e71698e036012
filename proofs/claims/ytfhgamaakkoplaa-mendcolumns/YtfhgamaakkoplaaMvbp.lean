import Derived.Test.YtfhgamaakkoplaaMvbm
import Derived.Test.YtfhgamaakkoplaaMvbf
namespace Go.Proofs.Ytfhgamaakkoplaa
open Go.RowKit Gf2
set_option linter.unusedVariables false

-- layer 19: mend's refusals, and Radius on both sides
/-- Radius' answer and error. -/
def Rd19 (k n rv : Int) (c : Nat) : Prop := ((k < 1 ∨ 256 < k ∨ 256 < n) ∧ c = 4 ∧ rv = 0) ∨ (¬ k < 1 ∧ ¬ 256 < k ∧ ¬ 256 < n ∧ (n < k ∧ c = 9 ∧ rv = 0 ∨ ¬ n < k ∧ c = 0 ∧ rv = (n - k) / 2))
theorem rd_ex19 (k n : Int) : ∃ rv c, Rd19 k n rv c := by
  by_cases h1 : k < 1 ∨ 256 < k ∨ 256 < n
  · exact ⟨0, 4, .inl ⟨h1, rfl, rfl⟩⟩
  · by_cases h2 : n < k
    · exact ⟨0, 9, .inr ⟨by omega, by omega, by omega, .inl ⟨h2, rfl, rfl⟩⟩⟩
    · exact ⟨_, 0, .inr ⟨by omega, by omega, by omega, .inr ⟨h2, rfl, rfl⟩⟩⟩
set_option maxHeartbeats 4000000 in
set_option maxRecDepth 100000 in
theorem radius_any19 (k n rv : Int) (c : Nat) (w : World) (h : Rd19 k n rv c) :
    Calls Try.prog 9 #[.int .i64 k, .int .i64 n] w fun e w' => e = .returned (.tuple #[.int .i64 rv, .int .i64 (c : Nat)]) ∧ w' = w := by
  rcases h with ⟨h1, rfl, rfl⟩ | ⟨i1, i2, i3, ⟨i4, rfl, rfl⟩ | ⟨i4, rfl, hr⟩⟩
  · by_cases i1 : k < 1
    · clear h1
      go_enter Try.func9, Try.ntmps9
      go_wp2
      go_ret2
      exact ⟨rfl, rfl⟩
    · by_cases i2 : 256 < k
      · clear h1
        go_enter Try.func9, Try.ntmps9
        go_wp2
        go_ret2
        exact ⟨rfl, rfl⟩
      · have i3 : 256 < n := by omega
        clear h1
        go_enter Try.func9, Try.ntmps9
        go_wp2
        go_ret2
        exact ⟨rfl, rfl⟩
  · go_enter Try.func9, Try.ntmps9
    go_wp2
    go_ret2
    exact ⟨rfl, rfl⟩
  · have W0 : wrap64 (n - k) = n - k := by unfold wrap64; omega
    have T0 : (n - k) / 2 = rv := hr.symm
    have T1 : (n - k).tdiv 2 = rv := by rw [hr]; exact Int.tdiv_eq_ediv_of_nonneg (by omega)
    have W1 : wrap64 rv = rv := by unfold wrap64; omega
    clear hr
    go_enter Try.func9, Try.ntmps9
    go_wp2
    go_ret2
    exact ⟨rfl, rfl⟩
set_option maxHeartbeats 4000000 in
set_option maxRecDepth 100000 in
theorem radius_r19 (k n rv : Int) (c : Nat) (w : World) (h : Rd19 k n rv c) :
    Calls Try.prog 10 #[.int .i64 k, .int .i64 n] w fun e w' => e = .returned (.tuple #[.int .i64 rv, .int .i64 (c : Nat)]) ∧ w' = w := by
  rcases h with ⟨h1, rfl, rfl⟩ | ⟨i1, i2, i3, ⟨i4, rfl, rfl⟩ | ⟨i4, rfl, hr⟩⟩
  · by_cases i1 : k < 1
    · clear h1
      go_enter Try.func10, Try.ntmps10
      go_wp2
      go_ret2
      exact ⟨rfl, rfl⟩
    · by_cases i2 : 256 < k
      · clear h1
        go_enter Try.func10, Try.ntmps10
        go_wp2
        go_ret2
        exact ⟨rfl, rfl⟩
      · have i3 : 256 < n := by omega
        clear h1
        go_enter Try.func10, Try.ntmps10
        go_wp2
        go_ret2
        exact ⟨rfl, rfl⟩
  · go_enter Try.func10, Try.ntmps10
    go_wp2
    go_ret2
    exact ⟨rfl, rfl⟩
  · have W0 : wrap64 (n - k) = n - k := by unfold wrap64; omega
    have T0 : (n - k) / 2 = rv := hr.symm
    have T1 : (n - k).tdiv 2 = rv := by rw [hr]; exact Int.tdiv_eq_ediv_of_nonneg (by omega)
    have W1 : wrap64 rv = rv := by unfold wrap64; omega
    clear hr
    go_enter Try.func10, Try.ntmps10
    go_wp2
    go_ret2
    exact ⟨rfl, rfl⟩
set_option maxHeartbeats 4000000 in
set_option maxRecDepth 100000 in
theorem isPoints_any19 (v : Value) (n : Nat) (F : Nat → Int) (w : World) (h : Qi w v n F) (hn : n ≤ 256) (b : Bool) (hb : b = true ↔ ∀ i, i < n → Pg19 F i) :
    Calls Try.prog 24 #[v] w fun e w' => e = .returned (.bool b) ∧ w' = w := by
  obtain ⟨-, -, a, cap, rfl, -, -, h4⟩ := h
  have HH : Hid (n ≤ 256 ∧ (b = true ↔ ∀ i, i < n → Pg19 F i)) := ⟨hn, hb⟩
  clear hn hb
  go_enter Try.func24, Try.ntmps24
  go_wp2
  go_loopw [3, 8] (fun l s wr => ∃ (i : Nat) (z : Int), i ≤ n ∧ s = .int .i64 (i : Int) ∧ l = .int .i64 z ∧ Hid ((∀ x, x < i → Pg19 F x) ∧ (i = 0 ∧ z = -1 ∨ 0 < i ∧ z = F (i - 1))) ∧ wr = w) (fun _ s _ => n - (intOf s).toNat)
  case atStart => exact ⟨0, -1, Nat.zero_le _, rfl, rfl, ⟨fun x hx => absurd hx (Nat.not_lt_zero _), .inl ⟨rfl, rfl⟩⟩, rfl⟩
  case round =>
    obtain ⟨i, z, hi, rfl, rfl, hz, hw⟩ := hrel
    have hw := hw.symm
    subst hw
    by_cases hlt : i < n
    · obtain ⟨bb, o, rfl, -, hc⟩ := h4 (by omega)
      have q1 := hc i hlt
      have ib : ((i : Nat) : Int) < (n : Int) := Int.ofNat_lt.2 hlt
      by_cases hg : Pg19 F i
      · have hgo : z < F i := by
          rcases hz.out.2 with ⟨-, e⟩ | ⟨h0, e⟩
          · have := hg.1; omega
          · have := hg.2.2 h0; omega
        have z1 : ¬ F i ≤ z := by omega
        have z2 : ¬ (256 : Int) ≤ F i := by have := hg.2.1; omega
        have W1 := wrap_lt8 (j := i) (b := n) hlt (by have := HH.out; omega)
        have HX : Hid (i < n ∧ (∀ x, x < i + 1 → Pg19 F x) ∧ (i + 1 = 0 ∧ F i = -1 ∨ 0 < i + 1 ∧ F i = F (i + 1 - 1))) := ⟨hlt, fun x hx => by
          by_cases e : x = i
          · rw [e]; exact hg
          · exact hz.out.1 x (by omega), .inr ⟨by omega, by rw [Nat.add_sub_cancel]⟩⟩
        clear hz hgo hg hlt hi hc
        generalize F i = y at q1 z1 z2 HX
        go_wp2
        go_roundw
        case rel => exact ⟨i + 1, _, HX.out.1, by first | rfl | (rw [W1]; rfl), rfl, HX.out.2, by trivial⟩
        case measure => first | exact meas_lt8 HX.out.1 | (rw [W1]; exact meas_lt8 HX.out.1)
      · have hf : b = false := by
          cases b with
          | false => rfl
          | true => exact absurd (HH.out.2.1 rfl i hlt) hg
        subst hf
        have hbad : F i ≤ z ∨ 256 ≤ F i := by
          apply Classical.byContradiction
          intro hno
          apply hg
          rcases hz.out.2 with ⟨e0, e⟩ | ⟨h0, e⟩
          · exact ⟨by omega, by omega, fun h => by omega⟩
          · have g1 := (hz.out.1 (i - 1) (by omega)).1
            exact ⟨by omega, by omega, fun _ => by omega⟩
        clear hz hg hlt hi hc
        generalize F i = y at q1 hbad
        by_cases z1 : y ≤ z
        · clear hbad
          go_wp2
          go_ret
          exact ⟨rfl, rfl⟩
        · have z2 : (256 : Int) ≤ y := by omega
          clear hbad
          go_wp2
          go_ret
          exact ⟨rfl, rfl⟩
    · have hin : i = n := by omega
      have ib : ¬ ((i : Nat) : Int) < (n : Int) := by omega
      have ht : b = true := HH.out.2.2 (fun x hx => hz.out.1 x (by omega))
      subst ht
      clear h4 hz hlt hi hin
      go_wp2
      go_ret
      exact ⟨rfl, rfl⟩
set_option maxHeartbeats 4000000 in
set_option maxRecDepth 100000 in
theorem unfit_any19 (v u : Value) (k : Int) (n n2 c : Nat) (F : Nat → Int) (w : World) (h : Qi w v n F) (hu : ∃ a cc, u = .slice a n2 cc) (hc : Cd19 k n n2 F c) :
    Calls Try.prog 14 #[.int .i64 k, v, u] w fun e w' => e = .returned (.int .i64 (c : Nat)) ∧ w' = w := by
  obtain ⟨rv, z, hz⟩ := rd_ex19 k (n : Int)
  have c1 := radius_any19 k (n : Int) rv z w hz
  have c2 := fun (hn : n ≤ 256) (b : Bool) (hb : b = true ↔ ∀ i, i < n → Pg19 F i) => isPoints_any19 v n F w h hn b hb
  obtain ⟨ua, uc, rfl⟩ := hu
  obtain ⟨-, -, a, cap, rfl, -, -, -⟩ := h
  rcases hc with ⟨h1, rfl⟩ | ⟨h1, h2⟩
  · have e1 : z = 4 := by
      rcases hz with ⟨-, e, -⟩ | ⟨x1, x2, x3, -⟩
      · exact e
      · omega
    rw [e1] at c1
    clear c2 e1 h1 hz
    go_enter Try.func14, Try.ntmps14
    go_wp2_with (go_at_call 9; (with_reducible refine c1.mono ?_); rintro e w9 ⟨rfl, hw9⟩; have hw9 := hw9.symm; subst hw9; clear c1)
    go_ret
    exact ⟨rfl, rfl⟩
  · rcases h2 with ⟨h3, rfl⟩ | ⟨h3, h4⟩
    · have c3 := c2 h1.2.2 false ⟨fun h => (by cases h), fun h => absurd h h3⟩
      have hz4 : z ≠ 4 := by
        rcases hz with ⟨x1, -⟩ | ⟨x1, x2, x3, ⟨-, e, -⟩ | ⟨-, e, -⟩⟩ <;> omega
      have T1 : (((z : Nat) : Int) == 4) = false := by simp; omega
      have T2 : ¬ ((z : Nat) : Int) = 4 := by omega
      clear c2 h1 h3 hz4 hz
      go_enter Try.func14, Try.ntmps14
      go_wp2_with (first
        | (go_at_call 9; (with_reducible refine c1.mono ?_); rintro e w9 ⟨rfl, hw9⟩; have hw9 := hw9.symm; subst hw9; clear c1)
        | (go_at_call 24; (with_reducible refine c3.mono ?_); rintro e w9 ⟨rfl, hw9⟩; have hw9 := hw9.symm; subst hw9; clear c3))
      go_ret
      exact ⟨rfl, rfl⟩
    · have c3 := c2 h1.2.2 true ⟨fun _ => h3, fun _ => rfl⟩
      rcases h4 with ⟨g1, rfl⟩ | ⟨g1, h5⟩
      · have hz4 : z ≠ 4 := by
          rcases hz with ⟨x1, -⟩ | ⟨x1, x2, x3, ⟨-, e, -⟩ | ⟨-, e, -⟩⟩ <;> omega
        have T1 : (((z : Nat) : Int) == 4) = false := by simp; omega
        have T2 : ¬ ((z : Nat) : Int) = 4 := by omega
        have T3 : (((n2 : Nat) : Int) == ((n : Nat) : Int)) = false := by simp; omega
        have T4 : ¬ ((n2 : Nat) : Int) = ((n : Nat) : Int) := by omega
        clear c2 h1 h3 hz4 hz
        go_enter Try.func14, Try.ntmps14
        go_wp2_with (first
          | (go_at_call 9; (with_reducible refine c1.mono ?_); rintro e w9 ⟨rfl, hw9⟩; have hw9 := hw9.symm; subst hw9; clear c1)
          | (go_at_call 24; (with_reducible refine c3.mono ?_); rintro e w9 ⟨rfl, hw9⟩; have hw9 := hw9.symm; subst hw9; clear c3))
        go_ret
        exact ⟨rfl, rfl⟩
      · subst g1
        have e1 : z = c ∧ c ≠ 4 := by
          rcases hz with ⟨x1, -⟩ | ⟨x1, x2, x3, ⟨x4, e, -⟩ | ⟨x4, e, -⟩⟩ <;> rcases h5 with ⟨g2, g3⟩ | ⟨g2, g3⟩ <;> omega
        rw [e1.1] at c1
        have T1 : (((c : Nat) : Int) == 4) = false := by simp; omega
        have T2 : ¬ ((c : Nat) : Int) = 4 := by omega
        clear c2 h1 h3 h5 e1 hz
        go_enter Try.func14, Try.ntmps14
        go_wp2_with (first
          | (go_at_call 9; (with_reducible refine c1.mono ?_); rintro e w9 ⟨rfl, hw9⟩; have hw9 := hw9.symm; subst hw9; clear c1)
          | (go_at_call 24; (with_reducible refine c3.mono ?_); rintro e w9 ⟨rfl, hw9⟩; have hw9 := hw9.symm; subst hw9; clear c3))
        go_ret
        exact ⟨rfl, rfl⟩
set_option maxHeartbeats 4000000 in
set_option maxRecDepth 100000 in
theorem column_no19 (v u : Value) (k : Int) (n n2 c : Nat) (F : Nat → Int) (w : World) (h : Qi w v n F) (hu : ∃ a cc, u = .slice a n2 cc) (hc : Cd19 k n n2 F c) (h0 : c ≠ 0) :
    Calls Try.prog 6 #[.int .i64 k, v, u] w fun e w' => e = .returned (.tuple #[.slice none 0 0, .slice none 0 0, .int .i64 (c : Nat)]) ∧ w' = w := by
  have c1 := unfit_any19 v u k n n2 c F w h hu hc
  have T1 : (((c : Nat) : Int) == 0) = false := by simp; omega
  have T2 : ¬ ((c : Nat) : Int) = 0 := by omega
  clear h hu hc
  go_enter Try.func6, Try.ntmps6
  go_wp2_with (go_at_call 14; (with_reducible refine c1.mono ?_); rintro e w9 ⟨rfl, hw9⟩; have hw9 := hw9.symm; subst hw9; clear c1)
  go_ret3
  exact ⟨rfl, rfl⟩
set_option maxHeartbeats 4000000 in
set_option maxRecDepth 100000 in
theorem syndromes_no19 (v u : Value) (k : Int) (n n2 c : Nat) (F : Nat → Int) (w : World) (h : Qi w v n F) (hu : ∃ a cc, u = .slice a n2 cc) (hc : Cd19 k n n2 F c) (h0 : c ≠ 0) :
    Calls Try.prog 11 #[.int .i64 k, v, u] w fun e w' => e = .returned (.tuple #[.slice none 0 0, .int .i64 (c : Nat)]) ∧ w' = w := by
  have c1 := unfit_any19 v u k n n2 c F w h hu hc
  have T1 : (((c : Nat) : Int) == 0) = false := by simp; omega
  have T2 : ¬ ((c : Nat) : Int) = 0 := by omega
  clear h hu hc
  go_enter Try.func11, Try.ntmps11
  go_wp2_with (go_at_call 14; (with_reducible refine c1.mono ?_); rintro e w9 ⟨rfl, hw9⟩; have hw9 := hw9.symm; subst hw9; clear c1)
  go_ret2
  exact ⟨rfl, rfl⟩
set_option maxHeartbeats 4000000 in
set_option maxRecDepth 100000 in
theorem column_rno19 (v u : Value) (k : Int) (n n2 c : Nat) (F : Nat → Int) (w : World) (h : Qi w v n F) (hu : ∃ a cc, u = .slice a n2 cc) (hc : Cd19 k n n2 F c) (h0 : c ≠ 0) :
    Calls Try.prog 13 #[.int .i64 k, v, u] w fun e w' => e = .returned (.tuple #[.slice none 0 0, .slice none 0 0, .int .i64 (c : Nat)]) ∧ Below w.heap.size w w' := by
  have c1 := checked_any19 v u k n n2 c F w h hu hc
  have T1 : (((c : Nat) : Int) == 0) = false := by simp; omega
  have T2 : ¬ ((c : Nat) : Int) = 0 := by omega
  clear h hu hc
  go_enter Try.func13, Try.ntmps13
  go_wp2_with (go_at_call 19; (with_reducible refine c1.mono ?_); rintro e w9 ⟨rfl, hb9⟩; have HB9 : Hid (Below w.heap.size w w9) := hb9; clear c1 hb9)
  go_ret3
  exact ⟨rfl, HB9.out⟩
set_option maxHeartbeats 4000000 in
set_option maxRecDepth 100000 in
theorem syndromes_rno19 (v u : Value) (k : Int) (n n2 c : Nat) (F : Nat → Int) (w : World) (h : Qi w v n F) (hu : ∃ a cc, u = .slice a n2 cc) (hc : Cd19 k n n2 F c) (h0 : c ≠ 0) :
    Calls Try.prog 12 #[.int .i64 k, v, u] w fun e w' => e = .returned (.tuple #[.slice none 0 0, .int .i64 (c : Nat)]) ∧ Below w.heap.size w w' := by
  have c1 := checked_any19 v u k n n2 c F w h hu hc
  have T1 : (((c : Nat) : Int) == 0) = false := by simp; omega
  have T2 : ¬ ((c : Nat) : Int) = 0 := by omega
  clear h hu hc
  go_enter Try.func12, Try.ntmps12
  go_wp2_with (go_at_call 19; (with_reducible refine c1.mono ?_); rintro e w9 ⟨rfl, hb9⟩; have HB9 : Hid (Below w.heap.size w w9) := hb9; clear c1 hb9)
  go_ret2
  exact ⟨rfl, HB9.out⟩
end Go.Proofs.Ytfhgamaakkoplaa
