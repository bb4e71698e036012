import Derived.Test.YtldacjpkblffbabYht
namespace Go.Proofs.Ytldacjpkblffbab
open Go.RowKit Gf2
set_option linter.unusedVariables false

-- layer 16: numbers, empties (laid by wip/genyhu.py)
set_option maxHeartbeats 4000000 in
set_option maxRecDepth 100000 in
theorem numbers16e (v : Value) (c : Nat) (n : Nat → Nat) (w : World) (h : Ln w v c n) (hcb : c ≤ 1099511627776) :
    Calls Try.prog 25 #[v, .func (.func 26) #[] #[]] w fun e w' => ∃ u, e = .returned u ∧ Gi w w' u (ems (fun i => n i == 0) c).length (emz (fun i => n i == 0) c) := by
  have HL : Hid (Ln w v c n) := h
  obtain ⟨a, cap, rfl⟩ := h.form
  have HN : Hid (c ≤ 1099511627776) := hcb
  clear hcb h
  go_enter Try.func25, Try.ntmps25
  go_wp2
  go_loopw [5, 10] (fun s i wr => ∃ k : Nat, k ≤ c ∧ i = .int .i64 k ∧ Gi w wr s (ems (fun i => n i == 0) k).length (emz (fun i => n i == 0) k)) (fun _ i _ => c - (intOf i).toNat)
  case atStart => exact ⟨0, Nat.zero_le _, rfl, Gi.start _ _⟩
  case round =>
    obtain ⟨k, hk, rfl, hG⟩ := hrel
    obtain ⟨sa, sC, rfl⟩ := hG.form
    by_cases hlt : k < c
    · obtain ⟨-, -, a', cap', e', -, -, h6⟩ := HL.out.below hG.1
      cases e'
      obtain ⟨b, o, rfl, -, hc⟩ := h6 (by omega)
      obtain ⟨x, y, q1⟩ := hc k hlt
      have ib : ((k : Nat) : Int) < (c : Int) := by omega
      have W1 := wrap_succ8 (j := k) (by have := HN.out; unfold big; omega)
      have hle := ems_le (fun i => n i == 0) k
      have c1 := fun w => isEmpty16 x (n k) y w
      cases hP : (fun i => n i == 0) k
      · have e1 : (n k == 0) = false := by simpa using hP
        rw [e1] at c1
        have HG : Hid (Gi w wr (.slice sa (ems (fun i => n i == 0) (k + 1)).length sC) (ems (fun i => n i == 0) (k + 1)).length (emz (fun i => n i == 0) (k + 1))) := by
          show Gi _ _ _ _ _
          have := ems_no (P := fun i => n i == 0) (k := k) hP
          unfold emz at hG ⊢
          rw [this]; exact hG
        have HQ : Hid ((ems (fun i => n i == 0) (k + 1)).length = (ems (fun i => n i == 0) k).length) := by show _ = _; rw [ems_no (P := fun i => n i == 0) (k := k) hP]
        generalize n k = nk at q1 c1
        clear hG hc h6 hP hle
        go_wp2_with (go_at_call 26; (with_reducible refine (c1 _).mono ?_); rintro e w9 ⟨rfl, hw9⟩; have hw9 := hw9.symm; subst hw9)
        go_roundw
        case rel => exact ⟨k + 1, hlt, by first | rfl | (rw [W1]; rfl), by rw [← HQ.out]; exact HG.out⟩
        case measure => first | exact meas_lt8 hlt | (rw [W1]; exact meas_lt8 hlt)
      · have e1 : (n k == 0) = true := by simpa using hP
        rw [e1] at c1
        obtain ⟨w5, v5, hrun, hG5⟩ := app_gi hG (k : Int) (by have := HN.out; omega)
        have HG : Hid (Gi w w5 v5 (ems (fun i => n i == 0) (k + 1)).length (emz (fun i => n i == 0) (k + 1))) := by
          show Gi _ _ _ _ _
          rw [ems_len_yes (P := fun i => n i == 0) (k := k) hP]
          exact hG5.congr (fun i hi => emz_step (P := fun i => n i == 0) (k := k) hP i (by rw [ems_len_yes (P := fun i => n i == 0) (k := k) hP]; exact hi))
        generalize n k = nk at q1 c1
        clear hG hc h6 hG5 hP hle
        go_wp2_with (first | (go_at_call 26; (with_reducible refine (c1 _).mono ?_); rintro e w9 ⟨rfl, hw9⟩; have hw9 := hw9.symm; subst hw9) | (at_builtin; refine Lib.wpList_append_run _ rfl _ _ _ _ rfl _ _ rfl rfl _ _ hrun ?_))
        go_roundw
        case rel => exact ⟨k + 1, hlt, by first | rfl | (rw [W1]; rfl), HG.out⟩
        case measure => first | exact meas_lt8 hlt | (rw [W1]; exact meas_lt8 hlt)
    · have htl : ¬ ((k : Nat) : Int) < (c : Int) := fun e => hlt (Int.ofNat_lt.1 e)
      obtain rfl : k = c := by omega
      clear HL
      go_wp2
      go_ret
      exact ⟨_, rfl, hG⟩
set_option maxHeartbeats 4000000 in
set_option maxRecDepth 100000 in
theorem numbers16f (v : Value) (c : Nat) (n : Nat → Nat) (w : World) (h : Ln w v c n) (hcb : c ≤ 1099511627776) :
    Calls Try.prog 25 #[v, .func (.func 27) #[] #[]] w fun e w' => ∃ u, e = .returned u ∧ Gi w w' u (ems (fun i => n i != 0) c).length (emz (fun i => n i != 0) c) := by
  have HL : Hid (Ln w v c n) := h
  obtain ⟨a, cap, rfl⟩ := h.form
  have HN : Hid (c ≤ 1099511627776) := hcb
  clear hcb h
  go_enter Try.func25, Try.ntmps25
  go_wp2
  go_loopw [5, 10] (fun s i wr => ∃ k : Nat, k ≤ c ∧ i = .int .i64 k ∧ Gi w wr s (ems (fun i => n i != 0) k).length (emz (fun i => n i != 0) k)) (fun _ i _ => c - (intOf i).toNat)
  case atStart => exact ⟨0, Nat.zero_le _, rfl, Gi.start _ _⟩
  case round =>
    obtain ⟨k, hk, rfl, hG⟩ := hrel
    obtain ⟨sa, sC, rfl⟩ := hG.form
    by_cases hlt : k < c
    · obtain ⟨-, -, a', cap', e', -, -, h6⟩ := HL.out.below hG.1
      cases e'
      obtain ⟨b, o, rfl, -, hc⟩ := h6 (by omega)
      obtain ⟨x, y, q1⟩ := hc k hlt
      have ib : ((k : Nat) : Int) < (c : Int) := by omega
      have W1 := wrap_succ8 (j := k) (by have := HN.out; unfold big; omega)
      have hle := ems_le (fun i => n i != 0) k
      have c1 := fun w => isFull16 x (n k) y w
      cases hP : (fun i => n i != 0) k
      · have e1 : (n k != 0) = false := by simpa using hP
        rw [e1] at c1
        have HG : Hid (Gi w wr (.slice sa (ems (fun i => n i != 0) (k + 1)).length sC) (ems (fun i => n i != 0) (k + 1)).length (emz (fun i => n i != 0) (k + 1))) := by
          show Gi _ _ _ _ _
          have := ems_no (P := fun i => n i != 0) (k := k) hP
          unfold emz at hG ⊢
          rw [this]; exact hG
        have HQ : Hid ((ems (fun i => n i != 0) (k + 1)).length = (ems (fun i => n i != 0) k).length) := by show _ = _; rw [ems_no (P := fun i => n i != 0) (k := k) hP]
        generalize n k = nk at q1 c1
        clear hG hc h6 hP hle
        go_wp2_with (go_at_call 27; (with_reducible refine (c1 _).mono ?_); rintro e w9 ⟨rfl, hw9⟩; have hw9 := hw9.symm; subst hw9)
        go_roundw
        case rel => exact ⟨k + 1, hlt, by first | rfl | (rw [W1]; rfl), by rw [← HQ.out]; exact HG.out⟩
        case measure => first | exact meas_lt8 hlt | (rw [W1]; exact meas_lt8 hlt)
      · have e1 : (n k != 0) = true := by simpa using hP
        rw [e1] at c1
        obtain ⟨w5, v5, hrun, hG5⟩ := app_gi hG (k : Int) (by have := HN.out; omega)
        have HG : Hid (Gi w w5 v5 (ems (fun i => n i != 0) (k + 1)).length (emz (fun i => n i != 0) (k + 1))) := by
          show Gi _ _ _ _ _
          rw [ems_len_yes (P := fun i => n i != 0) (k := k) hP]
          exact hG5.congr (fun i hi => emz_step (P := fun i => n i != 0) (k := k) hP i (by rw [ems_len_yes (P := fun i => n i != 0) (k := k) hP]; exact hi))
        generalize n k = nk at q1 c1
        clear hG hc h6 hG5 hP hle
        go_wp2_with (first | (go_at_call 27; (with_reducible refine (c1 _).mono ?_); rintro e w9 ⟨rfl, hw9⟩; have hw9 := hw9.symm; subst hw9) | (at_builtin; refine Lib.wpList_append_run _ rfl _ _ _ _ rfl _ _ rfl rfl _ _ hrun ?_))
        go_roundw
        case rel => exact ⟨k + 1, hlt, by first | rfl | (rw [W1]; rfl), HG.out⟩
        case measure => first | exact meas_lt8 hlt | (rw [W1]; exact meas_lt8 hlt)
    · have htl : ¬ ((k : Nat) : Int) < (c : Int) := fun e => hlt (Int.ofNat_lt.1 e)
      obtain rfl : k = c := by omega
      clear HL
      go_wp2
      go_ret
      exact ⟨_, rfl, hG⟩
end Go.Proofs.Ytldacjpkblffbab
