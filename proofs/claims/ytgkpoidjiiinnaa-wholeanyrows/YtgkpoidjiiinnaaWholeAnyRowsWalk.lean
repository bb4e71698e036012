import Derived.Test.YtgkpoidjiiinnaaGea
import Derived.BigQuiet
namespace Go.Proofs.Ytgkpoidjiiinnaa
open Go.RowKit Gf2
set_option linter.unusedVariables false

theorem box11 (w : World) (o : Obj) : Below w.heap.size w (w.alloc o) := (Below.refl _ _).alloc (Nat.le_refl _) _
set_option maxHeartbeats 4000000 in
set_option maxRecDepth 100000 in
theorem any11_other (f K M : Int) (a : Option Addr) (n c : Nat) (w : World) (hf : ¬ (f = 0 ∨ f = 1)) :
    Calls Try.prog 3 #[.agg #[.int .i64 f, .int .i64 K, .int .i64 M, .slice a n c]] w fun e w' => e = .returned (.bool true) ∧ Below w.heap.size w w' := by
  have HF : Hid (∀ W, Below w.heap.size w W → _) := fun W hb => any_first w W hb
  have f0 : (f == 0) = false := by simp; omega
  have f1 : (f == 1) = false := by simp; omega
  have g0 : ¬ f = 0 := fun h => hf (.inl h)
  have g1 : ¬ f = 1 := fun h => hf (.inr h)
  clear hf
  go_enter Try.func3, Try.ntmps3
  go_wp2
  go_quiet (fail)
  go_wp2_with (first
    | (go_at_call 8; (with_reducible refine Calls.mono (HF.out _ (below_drewN (box11 w _) _)) ?_); rintro e W1 ⟨v1, rfl, q2⟩; clear HF)
    | (go_at_call 9; (with_reducible refine q2.mono ?_); rintro e W2 ⟨rfl, hb2⟩; clear q2; have HB : Hid _ := hb2; clear hb2))
  go_ret
  exact ⟨rfl, HB.out⟩
set_option maxHeartbeats 4000000 in
set_option maxRecDepth 100000 in
theorem any11_no (f K M : Int) (a : Option Addr) (n c : Nat) (w : World) (hf : f = 0 ∨ f = 1) (hv : ¬ (1 ≤ K ∧ 1 ≤ M ∧ K + M ≤ 256)) :
    Calls Try.prog 3 #[.agg #[.int .i64 f, .int .i64 K, .int .i64 M, .slice a n c]] w fun e w' => e = .returned (.bool true) ∧ Below w.heap.size w w' := by
  have HF : Hid (∀ W, Below w.heap.size w W → _) := fun W hb => any_first w W hb
  have c1 := fun x => valid11_no f K M x hf hv
  clear hv
  rcases hf with rfl | rfl
  all_goals
    go_enter Try.func3, Try.ntmps3
    go_wp2
    go_quiet (fail)
    go_wp2_with (first
      | (go_at_call 8; (with_reducible refine Calls.mono (HF.out _ (below_drewN (box11 w _) _)) ?_); rintro e W1 ⟨v1, rfl, q2⟩; clear HF)
      | (go_at_call 9; (with_reducible refine q2.mono ?_); rintro e W2 ⟨rfl, hb2⟩; clear q2; have HB : Hid _ := hb2; clear hb2)
      | (go_at_call 10; (with_reducible refine (c1 _).mono ?_); rintro e w9 ⟨rfl, hw9⟩; have hw9 := hw9.symm; subst hw9; clear c1))
    go_ret
    exact ⟨rfl, HB.out⟩
set_option maxHeartbeats 4000000 in
set_option maxRecDepth 100000 in
theorem any11_yes (f : Int) (k m : Nat) (a : Option Addr) (n c : Nat) (w : World) (hf : f = 0 ∨ f = 1) (h1 : 1 ≤ k) (h2 : 1 ≤ m) (h3 : k + m ≤ 256) (hq : ∃ F, Qi w (.slice a n c) n F) :
    Calls Try.prog 3 #[.agg #[.int .i64 f, .int .i64 (k : Int), .int .i64 (m : Int), .slice a n c]] w fun e w' => e = .returned (.bool true) ∧ Below w.heap.size w w' := by
  obtain ⟨F, hF⟩ := hq
  have HF : Hid (∀ W, Below w.heap.size w W → _) := fun W hb => any_first w W hb
  have c1 := fun x => valid11_yes f k m x hf h1 h2 h3
  have HA : Hid (∀ W, Below w.heap.size w W → _) := fun W hb => any_a (W := W) hb hF hf h1 h2 h3
  have HN : Hid (1 ≤ k ∧ 1 ≤ m ∧ k + m ≤ 256 ∧ (f = 0 ∨ f = 1)) := ⟨h1, h2, h3, hf⟩
  have W0 : wrap64 ((k : Int) + (m : Int)) = ((k + m : Nat) : Int) := add_small (by omega) (by omega)
  have HB : Hid (∀ W8 gb go gc rv av a R, Fb w W8 (.slice (some ⟨gb, go, none⟩) (k + m) gc) rv a k (k + m) (bdd (k + m) k (gen11 f k)) R → Qi W8 av (k + m) (fun i => (i : Int)) → _) := fun W8 gb go gc rv av a R h hv => any_b (f := f) (m := m) h hv hf h1 h2 h3
  generalize bdd (k + m) k (gen11 f k) = T at HA HB
  obtain ⟨N, hN⟩ : ∃ N, N = k + m := ⟨_, rfl⟩
  have HM : Hid (N = k + m) := hN
  rw [← hN] at HA W0 HB
  clear h1 h2 h3 hF hN
  rcases hf with rfl | rfl
  all_goals
    go_enter Try.func3, Try.ntmps3
    go_wp2
    go_quiet (fail)
    go_wp2_with (first
      | (go_at_call 8; first
        | ((with_reducible refine Calls.mono (HF.out _ (below_drewN (box11 w _) _)) ?_); rintro e W1 ⟨v1, rfl, q2⟩; clear HF)
        | ((with_reducible refine q3.mono ?_); rintro e X1 ⟨gb, go, gc, rfl, q4⟩; clear q3))
      | (go_at_call 9; first
        | ((with_reducible refine q2.mono ?_); rintro e W2 ⟨rfl, hb2⟩; clear q2; have q3 := HA.out W2 hb2; clear hb2 HA)
        | ((with_reducible refine q9.mono ?_); rintro e X7 ⟨rfl, hR⟩; clear q9; have HR : Hid _ := hR; clear hR))
      | (go_at_call 10; (with_reducible refine (c1 _).mono ?_); rintro e w9 ⟨rfl, hw9⟩; have hw9 := hw9.symm; subst hw9; clear c1)
      | (go_at_call 11; (with_reducible refine q4.mono ?_); rintro e X2 ⟨rv, rfl, q5⟩; clear q4)
      | (go_at_call 12; (with_reducible refine q5.mono ?_); rintro e X3 ⟨av, rfl, q6⟩; clear q5)
      | (go_at_call 13; (with_reducible refine q6.mono ?_); rintro e X4 ⟨bv, rfl, q7⟩; clear q6)
      | (go_at_call 14; (with_reducible refine q7.mono ?_); rintro e X5 ⟨iv, rfl, q8⟩; clear q7)
      | (go_at_call 15; (with_reducible refine q8.mono ?_); rintro e X6 ⟨pv, rfl, q9⟩; clear q8))
    clear W0
    obtain ⟨R, hR⟩ := HR.out
    have HR2 : Hid _ := hR
    clear hR HR
    have W0 : wrap64 ((k : Int) + (m : Int)) = (N : Int) := by have := HN.out; have := HM.out; unfold wrap64; omega
    go_loopw [16, 17] (fun al iv wr => ∃ i : Nat, i ≤ N ∧ iv = .int .i64 i ∧ Hid (Gj X7.heap.size wr al i (fun j => (j : Int)) ∧ Below X7.heap.size X7 wr)) (fun _ i _ => N - (intOf i).toNat)
    case atStart => exact ⟨0, Nat.zero_le _, rfl, Gj.start _ _ _, Below.refl _ _⟩
    case round =>
      obtain ⟨i, hi, rfl, hG⟩ := hrel
      by_cases hlt : i < N
      · have ib : ((i : Nat) : Int) < (N : Int) := Int.ofNat_lt.2 hlt
        have W1 := wrap_lt8 hlt (by have := HN.out; have := HM.out; omega)
        obtain ⟨w5, v5, hrun, hG5, hb5⟩ := app_gj hG.out.1 hG.out.2.size (i : Int) (by have := HN.out; have := HM.out; omega)
        have HX : Hid (i < N ∧ Gj X7.heap.size w5 v5 (i + 1) (fun j => (j : Int)) ∧ Below X7.heap.size X7 w5) := ⟨hlt, hG5.congr (fun j hj => by
          show (if j < i then (j : Int) else (i : Int)) = (j : Int)
          by_cases e : j < i
          · rw [if_pos e]
          · rw [if_neg e, show j = i by omega]), hG.out.2.trans hb5⟩
        clear hG hG5 hb5 hlt hi HB HR2
        go_wp2_with (at_builtin; refine Lib.wpList_append_run _ rfl _ _ _ _ rfl _ _ rfl rfl _ _ hrun ?_)
        go_roundw
        case rel => exact ⟨i + 1, HX.out.1, by first | rfl | (rw [W1]; rfl), HX.out.2⟩
        case measure => first | exact meas_lt8 HX.out.1 | (rw [W1]; exact meas_lt8 HX.out.1)
      · obtain rfl : i = N := by omega
        have q1 := HB.out wr gb go gc rv _ _ R (HR2.out.step hG.out.2) hG.out.1.qi
        clear HB HR2 hG hlt hi
        go_wp2_with (first
          | (go_at_call 16; (with_reducible refine q1.mono ?_); rintro e X9 ⟨dv, rfl, q2⟩; clear q1)
          | (go_at_call 15; (with_reducible refine q2.mono ?_); rintro e Y1 ⟨pv2, rfl, q3⟩; clear q2)
          | (go_at_call 9; (with_reducible refine q3.mono ?_); rintro e Y2 ⟨rfl, hb⟩; clear q3; have HZ : Hid _ := hb; clear hb))
        go_ret
        exact ⟨rfl, HZ.out⟩
theorem any11 (f K M : Int) (a : Option Addr) (n c : Nat) (w : World) (hq : ∃ F, Qi w (.slice a n c) n F) :
    Calls Try.prog 3 #[.agg #[.int .i64 f, .int .i64 K, .int .i64 M, .slice a n c]] w fun e w' => e = .returned (.bool true) ∧ Below w.heap.size w w' := by
  by_cases hf : f = 0 ∨ f = 1
  · by_cases hv : 1 ≤ K ∧ 1 ≤ M ∧ K + M ≤ 256
    · obtain ⟨k, rfl⟩ := Int.eq_ofNat_of_zero_le (a := K) (by omega)
      obtain ⟨m, rfl⟩ := Int.eq_ofNat_of_zero_le (a := M) (by omega)
      exact any11_yes f k m a n c w hf (by omega) (by omega) (by omega) hq
    · exact any11_no f K M a n c w hf hv
  · exact any11_other f K M a n c w hf
end Go.Proofs.Ytgkpoidjiiinnaa
