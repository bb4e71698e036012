import Derived.Test.YtldacjpkblffbabYhz
namespace Go.Proofs.Ytldacjpkblffbab
open Go.RowKit Gf2
set_option linter.unusedVariables false

-- layer 16: heavy, twin
def su16 (n : Nat → Nat) : Nat → Nat
  | 0 => 0
  | k + 1 => su16 n k + n k
theorem su16_mono {n : Nat → Nat} {a b : Nat} (h : a ≤ b) : su16 n a ≤ su16 n b := by
  induction b with
  | zero => obtain rfl : a = 0 := by omega
            exact Nat.le_refl _
  | succ b ih =>
    by_cases e : a = b + 1
    · rw [e]; exact Nat.le_refl _
    · exact Nat.le_trans (ih (by omega)) (Nat.le_add_right _ _)
theorem su16_le {n : Nat → Nat} {c i : Nat} (h : i < c) : n i ≤ su16 n c := Nat.le_trans (Nat.le_add_left _ _) (su16_mono (n := n) (a := i + 1) (b := c) h)
/-- what heavy answers. -/
def hv16 (n : Nat → Nat) (c : Nat) : Bool := decide (4194304 < c + su16 n c)
theorem hv16_no {n : Nat → Nat} {c : Nat} (h : hv16 n c = false) : c ≤ 4194304 ∧ ∀ i, i < c → n i ≤ 4194304 := by
  unfold hv16 at h
  have h1 := of_decide_eq_false h
  refine ⟨by omega, fun i hi => ?_⟩
  have := su16_le (n := n) hi
  omega
theorem heavy_wrap {s l : Nat} (h : s ≤ 4194304) (hl : l ≤ 140737488355328) : wrap64 ((s : Int) + (l : Int)) = ((s + l : Nat) : Int) := by unfold wrap64; omega
set_option maxHeartbeats 2000000 in
set_option maxRecDepth 100000 in
theorem heavy16 (v : Value) (c : Nat) (n : Nat → Nat) (w : World) (h : Ln w v c n) (hnb : ∀ i, i < c → n i ≤ 140737488355328) :
    Calls Try.prog 20 #[v] w fun e w' => e = .returned (.bool (hv16 n c)) ∧ w' = w := by
  obtain ⟨z, hz⟩ : ∃ z, z = hv16 n c := ⟨_, rfl⟩
  rw [← hz]
  have HZ : Hid (z = decide (4194304 < c + su16 n c)) := hz
  clear hz
  obtain ⟨h1, h2, a, cap, rfl, h4, h5, h6⟩ := h
  have HN : Hid (c ≤ 281474976710656 ∧ ∀ i, i < c → n i ≤ 140737488355328) := ⟨h1, hnb⟩
  clear h1 h2 h4 h5 hnb
  go_enter Try.func20, Try.ntmps20
  go_wp2
  go_loopw [3, 4] (fun s i wr => ∃ k t : Nat, k ≤ c ∧ i = .int .i64 k ∧ s = .int .i64 (t : Nat) ∧ t = c + su16 n k ∧ wr = w) (fun _ i _ => c - (intOf i).toNat)
  case atStart => exact ⟨0, c, Nat.zero_le _, rfl, rfl, rfl, rfl⟩
  case round =>
    obtain ⟨k, t, hk, rfl, rfl, ht, rfl⟩ := hrel
    by_cases hlt : k < c
    · obtain ⟨b, o, rfl, -, hc⟩ := h6 (by omega)
      obtain ⟨x, y, q1⟩ := hc k hlt
      have ib : ((k : Nat) : Int) < (c : Int) := by omega
      by_cases hg : t ≤ 4194304
      · have D1 : decide ((t : Int) ≤ 4194304) = true := by simp; omega
        have Hs : Hid (t + n k = c + su16 n (k + 1)) := by show _ = _; rw [su16, ht]; omega
        have hb := HN.out.2 k hlt
        obtain ⟨u, hu⟩ : ∃ u, u = t + n k := ⟨_, rfl⟩
        have Wa := heavy_wrap hg hb
        rw [← hu] at Wa Hs
        have W1 := wrap_succ8 (j := k) (by have := HN.out.1; unfold big; clear Wa; omega)
        generalize n k = nk at *
        clear hc h6 ht hg hb hu
        go_wp2
        go_roundw
        case rel => exact ⟨k + 1, u, hlt, by first | rfl | (rw [W1]; rfl), by first | rfl | rw [Wa], Hs.out, by trivial⟩
        case measure => first | exact meas_lt8 hlt | (rw [W1]; exact meas_lt8 hlt)
      · have D1 : decide ((t : Int) ≤ 4194304) = false := by simp; omega
        have D2 : decide ((4194304 : Int) < (t : Int)) = true := by simp; omega
        have hz : z = true := by
          rw [HZ.out]
          have := su16_mono (n := n) hk
          exact decide_eq_true (by omega)
        subst hz
        clear hc h6 ht hg
        go_wp2
        go_ret
        exact ⟨rfl, rfl⟩
    · have htl : ¬ ((k : Nat) : Int) < (c : Int) := fun e => hlt (Int.ofNat_lt.1 e)
      obtain rfl : k = c := by omega
      by_cases hg : t ≤ 4194304
      · have D2 : decide ((4194304 : Int) < (t : Int)) = false := by simp; omega
        have hz : z = false := by rw [HZ.out, ← ht]; exact decide_eq_false (by omega)
        subst hz
        clear h6 ht hg
        go_wp2
        go_ret
        exact ⟨rfl, rfl⟩
      · have D2 : decide ((4194304 : Int) < (t : Int)) = true := by simp; omega
        have hz : z = true := by rw [HZ.out, ← ht]; exact decide_eq_true (by omega)
        subst hz
        clear h6 ht hg
        go_wp2
        go_ret
        exact ⟨rfl, rfl⟩
/-- what twin answers: a copy, in new memory. -/
structure Tw16 (w w' : World) (v : Value) (m : Nat) (n : Nat → Nat) (S : Nat → Nat → Nat) : Prop where
  cs : ∃ C B T, Cs w.heap.size w'.heap.size w' v m n C B T ∧ ∀ i, i < m → ∀ j, j < n i → T i j = S i j
  bel : Below w.heap.size w w'
theorem Tw16.lb {w w' : World} {v : Value} {m : Nat} {n : Nat → Nat} {S : Nat → Nat → Nat} (h : Tw16 w w' v m n S) : Lb w' v m n S := by
  obtain ⟨C, B, T, hc, hT⟩ := h.cs
  exact hc.lb.congr hT
end Go.Proofs.Ytldacjpkblffbab
