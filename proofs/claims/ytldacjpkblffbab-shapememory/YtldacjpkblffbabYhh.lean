import Derived.Test.YtldacjpkblffbabYhg
import Derived.Test.YtldacjpkblffbabYhf
import Derived.Test.YtldacjpkblffbabYj6
import Derived.BigQuiet
namespace Go.Proofs.Ytldacjpkblffbab
open Go.RowKit Gf2
set_option linter.unusedVariables false

-- layer 16: sameBytes, sameInts, same (laid by wip/genyhh.py)
set_option maxHeartbeats 2000000 in
set_option maxRecDepth 100000 in
theorem sb16 (u v : Value) (n n' : Nat) (F G : Nat → Nat) (w : World) (h : Rb w u n F) (k : Rb w v n' G) :
    Calls Try.prog 12 #[u, v] w fun e w' => ∃ b : Bool, e = .returned (.bool b) ∧ (b = true ↔ n = n' ∧ ∀ i, i < n → F i = G i) ∧ ∃ m, w' = w.drewN m := by
  obtain ⟨hn, hF, a, cap, rfl, -, -, h4⟩ := h
  obtain ⟨hn', -, c, cap', rfl, -, -, k4⟩ := k
  by_cases hnn : n = n'
  case neg =>
    have hI : ¬ ((n : Int) = (n' : Int)) := by omega
    clear h4 k4
    go_enter Try.func12, Try.ntmps12
    go_wp2
    go_ret
    exact ⟨false, rfl, ⟨fun h => (by cases h), fun h => absurd h.1 hnn⟩, 0, rfl⟩
  case pos =>
    subst hnn
    go_enter Try.func12, Try.ntmps12
    go_wp2
    go_loopw [5] (fun i wr => ∃ k m : Nat, k ≤ n ∧ i = .int .i64 k ∧ wr = w.drewN m ∧ ∀ i, i < k → F i = G i) (fun i _ => n - (intOf i).toNat)
    case atStart => exact ⟨0, 0, Nat.zero_le _, rfl, rfl, fun i hi => absurd hi (Nat.not_lt_zero _)⟩
    case round =>
      obtain ⟨k, m, hk, rfl, hw, hE⟩ := hrel
      by_cases hlt : k < n
      · obtain ⟨b, o, rfl, -, hc⟩ := h4 (by omega)
        obtain ⟨b', o', rfl, -, hc'⟩ := k4 (by omega)
        have q1 : wr.cell? ⟨b, o + k, none⟩ = some (.int .u8 (F k : Nat)) := by rw [hw]; exact hc k hlt
        have q2 : wr.cell? ⟨b', o' + k, none⟩ = some (.int .u8 (G k : Nat)) := by rw [hw]; exact hc' k hlt
        have HW : Hid (wr = w.drewN m ∧ ∀ i, i < k → F i = G i) := ⟨hw, hE⟩
        have ib : ((k : Nat) : Int) < (n : Int) := by omega
        have W1 := wrap_succ8 (j := k) (by omega)
        have HN : Hid (n ≤ big) := hn
        by_cases hfg : F k = G k
        · rw [← hfg] at q2
          have Hfg : Hid (F k = G k) := hfg
          clear hc hc' hw h4 k4 hF hn hE hfg hn'
          go_wp2
          go_quiet (fail)
          go_wp2
          go_roundw
          case rel =>
            refine ⟨k + 1, m + nq, hlt, by first | rfl | (rw [W1]; rfl), by rw [HW.out.1, World.drewN_drewN], fun i hi => ?_⟩
            by_cases e : i = k
            · rw [e]; exact Hfg.out
            · exact HW.out.2 i (by omega)
          case measure => first | exact meas_lt8 hlt | (rw [W1]; exact meas_lt8 hlt)
        · have hI : ¬ (((F k : Nat) : Int) = ((G k : Nat) : Int)) := by omega
          have Hfg : Hid (¬ F k = G k) := hfg
          clear hc hc' hw h4 k4 hF hn hE hfg hn'
          go_wp2
          go_quiet (fail)
          go_wp2
          go_ret
          exact ⟨false, rfl, ⟨fun h => (by cases h), fun h => absurd (h.2 k hlt) Hfg.out⟩, m + nq, by rw [HW.out.1, World.drewN_drewN]⟩
      · have hk5 : k = n := by omega
        subst hk5
        subst hw
        go_wp2
        go_ret
        exact ⟨true, rfl, ⟨fun _ => ⟨by trivial, hE⟩, fun _ => rfl⟩, _, rfl⟩
set_option maxHeartbeats 2000000 in
set_option maxRecDepth 100000 in
theorem si16 (u v : Value) (n n' : Nat) (F G : Nat → Int) (w : World) (h : Qi w u n F) (k : Qi w v n' G) :
    Calls Try.prog 19 #[u, v] w fun e w' => ∃ b : Bool, e = .returned (.bool b) ∧ (b = true ↔ n = n' ∧ ∀ i, i < n → F i = G i) ∧ ∃ m, w' = w.drewN m := by
  obtain ⟨hn, -, a, cap, rfl, -, -, h4⟩ := h
  obtain ⟨hn', -, c, cap', rfl, -, -, k4⟩ := k
  by_cases hnn : n = n'
  case neg =>
    have hI : ¬ ((n : Int) = (n' : Int)) := by omega
    clear h4 k4
    go_enter Try.func19, Try.ntmps19
    go_wp2
    go_ret
    exact ⟨false, rfl, ⟨fun h => (by cases h), fun h => absurd h.1 hnn⟩, 0, rfl⟩
  case pos =>
    subst hnn
    go_enter Try.func19, Try.ntmps19
    go_wp2
    go_loopw [5] (fun i wr => ∃ k m : Nat, k ≤ n ∧ i = .int .i64 k ∧ wr = w.drewN m ∧ ∀ i, i < k → F i = G i) (fun i _ => n - (intOf i).toNat)
    case atStart => exact ⟨0, 0, Nat.zero_le _, rfl, rfl, fun i hi => absurd hi (Nat.not_lt_zero _)⟩
    case round =>
      obtain ⟨k, m, hk, rfl, hw, hE⟩ := hrel
      by_cases hlt : k < n
      · obtain ⟨b, o, rfl, -, hc⟩ := h4 (by omega)
        obtain ⟨b', o', rfl, -, hc'⟩ := k4 (by omega)
        have q1 : wr.cell? ⟨b, o + k, none⟩ = some (.int .i64 (F k)) := by rw [hw]; exact hc k hlt
        have q2 : wr.cell? ⟨b', o' + k, none⟩ = some (.int .i64 (G k)) := by rw [hw]; exact hc' k hlt
        have HW : Hid (wr = w.drewN m ∧ ∀ i, i < k → F i = G i) := ⟨hw, hE⟩
        have ib : ((k : Nat) : Int) < (n : Int) := by omega
        have W1 := wrap_succ8 (j := k) (by omega)
        have HN : Hid (n ≤ big) := hn
        by_cases hfg : F k = G k
        · rw [← hfg] at q2
          have Hfg : Hid (F k = G k) := hfg
          clear hc hc' hw h4 k4 hn hE hfg hn'
          go_wp2
          go_quiet (fail)
          go_wp2
          go_roundw
          case rel =>
            refine ⟨k + 1, m + nq, hlt, by first | rfl | (rw [W1]; rfl), by rw [HW.out.1, World.drewN_drewN], fun i hi => ?_⟩
            by_cases e : i = k
            · rw [e]; exact Hfg.out
            · exact HW.out.2 i (by omega)
          case measure => first | exact meas_lt8 hlt | (rw [W1]; exact meas_lt8 hlt)
        · have hI : ¬ (F k = G k) := hfg
          have Hfg : Hid (¬ F k = G k) := hfg
          clear hc hc' hw h4 k4 hn hE hfg hn'
          go_wp2
          go_quiet (fail)
          go_wp2
          go_ret
          exact ⟨false, rfl, ⟨fun h => (by cases h), fun h => absurd (h.2 k hlt) Hfg.out⟩, m + nq, by rw [HW.out.1, World.drewN_drewN]⟩
      · have hk5 : k = n := by omega
        subst hk5
        subst hw
        go_wp2
        go_ret
        exact ⟨true, rfl, ⟨fun _ => ⟨by trivial, hE⟩, fun _ => rfl⟩, _, rfl⟩
set_option maxHeartbeats 2000000 in
set_option maxRecDepth 100000 in
theorem sm16 (u v : Value) (l l' : Nat) (n n' : Nat → Nat) (F G : Nat → Nat → Nat) (w : World) (h : Lb w u l n F) (k : Lb w v l' n' G) :
    Calls Try.prog 17 #[u, v] w fun e w' => ∃ b : Bool, e = .returned (.bool b) ∧ (b = true ↔ l = l' ∧ ∀ r, r < l → n r = n' r ∧ ∀ i, i < n r → F r i = G r i) ∧ ∃ m, w' = w.drewN m := by
  obtain ⟨V, ⟨hn, a, cap, rfl, -, -, h4⟩, hV⟩ := h
  obtain ⟨V', ⟨hn', a', cap', rfl, -, -, k4⟩, hV'⟩ := k
  by_cases hnn : l = l'
  case neg =>
    have hI : ¬ ((l : Int) = (l' : Int)) := by omega
    clear h4 k4
    go_enter Try.func17, Try.ntmps17
    go_wp2
    go_ret
    exact ⟨false, rfl, ⟨fun h => (by cases h), fun h => absurd h.1 hnn⟩, 0, rfl⟩
  case pos =>
    subst hnn
    go_enter Try.func17, Try.ntmps17
    go_wp2
    go_loopw [5] (fun i wr => ∃ k m : Nat, k ≤ l ∧ i = .int .i64 k ∧ wr = w.drewN m ∧ ∀ r, r < k → n r = n' r ∧ ∀ i, i < n r → F r i = G r i) (fun i _ => l - (intOf i).toNat)
    case atStart => exact ⟨0, 0, Nat.zero_le _, rfl, rfl, fun i hi => absurd hi (Nat.not_lt_zero _)⟩
    case round =>
      obtain ⟨k, m, hk, rfl, hw, hE⟩ := hrel
      by_cases hlt : k < l
      · obtain ⟨b, o, rfl, -, hc⟩ := h4 (by omega)
        obtain ⟨b', o', rfl, -, hc'⟩ := k4 (by omega)
        have q1 : wr.cell? ⟨b, o + k, none⟩ = some (V k) := by rw [hw]; exact hc k hlt
        have q2 : wr.cell? ⟨b', o' + k, none⟩ = some (V' k) := by rw [hw]; exact hc' k hlt
        have hr1 := (hV k hlt).rb
        have hr2 := (hV' k hlt).rb
        obtain ⟨x1, y1, e1⟩ : ∃ x y, V k = .slice x (n k) y := by obtain ⟨_, _, x, y, e, _⟩ := hr1; exact ⟨x, y, e⟩
        obtain ⟨x2, y2, e2⟩ : ∃ x y, V' k = .slice x (n' k) y := by obtain ⟨_, _, x, y, e, _⟩ := hr2; exact ⟨x, y, e⟩
        rw [e1] at q1 hr1
        rw [e2] at q2 hr2
        have HW : Hid (wr = w.drewN m ∧ ∀ r, r < k → n r = n' r ∧ ∀ i, i < n r → F r i = G r i) := ⟨hw, hE⟩
        have ib : ((k : Nat) : Int) < (l : Int) := by omega
        have W1 := wrap_succ8 (j := k) (by omega)
        by_cases hfg : n k = n' k ∧ ∀ i, i < n k → F k i = G k i
        · have cA : ∀ m2, Calls Try.prog 12 #[.slice x1 (n k) y1, .slice x2 (n' k) y2] (wr.drewN m2) fun e w' => e = .returned (.bool true) ∧ ∃ m, w' = (wr.drewN m2).drewN m := fun m2 =>
            (sb16 _ _ (n k) (n' k) (F k) (G k) (wr.drewN m2) (by rw [hw]; exact (hr1.drewN _).drewN _) (by rw [hw]; exact (hr2.drewN _).drewN _)).mono fun e w' ⟨b, h1, h2, h3⟩ => ⟨by rw [h1, h2.2 hfg], h3⟩
          have Hfg : Hid (n k = n' k ∧ ∀ i, i < n k → F k i = G k i) := hfg
          clear hc hc' hw h4 k4 hn hE hfg hn' hr1 hr2 hV hV'
          go_wp2
          go_quiet ((go_at_call 12; with_reducible exact Calls.quiet_of (cA _)))
          go_wp2
          go_roundw
          case rel =>
            refine ⟨k + 1, m + nq, hlt, by first | rfl | (rw [W1]; rfl), by rw [HW.out.1, World.drewN_drewN], fun i hi => ?_⟩
            by_cases e : i = k
            · rw [e]; exact Hfg.out
            · exact HW.out.2 i (by omega)
          case measure => first | exact meas_lt8 hlt | (rw [W1]; exact meas_lt8 hlt)
        · have cA : ∀ m2, Calls Try.prog 12 #[.slice x1 (n k) y1, .slice x2 (n' k) y2] (wr.drewN m2) fun e w' => e = .returned (.bool false) ∧ ∃ m, w' = (wr.drewN m2).drewN m := fun m2 =>
            (sb16 _ _ (n k) (n' k) (F k) (G k) (wr.drewN m2) (by rw [hw]; exact (hr1.drewN _).drewN _) (by rw [hw]; exact (hr2.drewN _).drewN _)).mono fun e w' ⟨b, h1, h2, h3⟩ => ⟨by rw [h1]; cases b with
              | false => rfl
              | true => exact absurd (h2.1 rfl) hfg, h3⟩
          have Hfg : Hid (¬ (n k = n' k ∧ ∀ i, i < n k → F k i = G k i)) := hfg
          clear hc hc' hw h4 k4 hn hE hfg hn' hr1 hr2 hV hV'
          go_wp2
          go_quiet ((go_at_call 12; with_reducible exact Calls.quiet_of (cA _)))
          go_wp2
          go_ret
          exact ⟨false, rfl, ⟨fun h => (by cases h), fun h => absurd (h.2 k hlt) Hfg.out⟩, m + nq, by rw [HW.out.1, World.drewN_drewN]⟩
      · have hk5 : k = l := by omega
        subst hk5
        subst hw
        go_wp2
        go_ret
        exact ⟨true, rfl, ⟨fun _ => ⟨by trivial, hE⟩, fun _ => rfl⟩, _, rfl⟩
theorem sb16_true (u v : Value) (n : Nat) (F G : Nat → Nat) (w : World) (h : Rb w u n F) (k : Rb w v n G) (e : ∀ i, i < n → F i = G i) :
    Calls Try.prog 12 #[u, v] w fun e w' => e = .returned (.bool true) ∧ ∃ m, w' = w.drewN m :=
  (sb16 u v n n F G w h k).mono fun _ w' ⟨b, h1, h2, h3⟩ => ⟨by rw [h1, h2.2 ⟨rfl, e⟩], h3⟩
theorem si16_true (u v : Value) (n : Nat) (F G : Nat → Int) (w : World) (h : Qi w u n F) (k : Qi w v n G) (e : ∀ i, i < n → F i = G i) :
    Calls Try.prog 19 #[u, v] w fun e w' => e = .returned (.bool true) ∧ ∃ m, w' = w.drewN m :=
  (si16 u v n n F G w h k).mono fun _ w' ⟨b, h1, h2, h3⟩ => ⟨by rw [h1, h2.2 ⟨rfl, e⟩], h3⟩
theorem sm16_true (u v : Value) (l : Nat) (n : Nat → Nat) (F G : Nat → Nat → Nat) (w : World) (h : Lb w u l n F) (k : Lb w v l n G) (e : ∀ r, r < l → ∀ i, i < n r → F r i = G r i) :
    Calls Try.prog 17 #[u, v] w fun e w' => e = .returned (.bool true) ∧ ∃ m, w' = w.drewN m :=
  (sm16 u v l l n n F G w h k).mono fun _ w' ⟨b, h1, h2, h3⟩ => ⟨by rw [h1, h2.2 ⟨rfl, fun r hr => ⟨rfl, e r hr⟩⟩], h3⟩
end Go.Proofs.Ytldacjpkblffbab
