import Derived.Test.YtdnhidachdjgaaaMme
namespace Go.Proofs.Ytdnhidachdjgaaa
open Go.RowKit Gf2
set_option linter.unusedVariables false

-- layer 10: Augment, both
/-- what Augment asks. -/
def Au10 (m m' : Nat) (n n' : Nat → Nat) : Prop := m = m' ∧ n 0 + n' 0 ≤ 512
theorem fm_lb {w : World} {u : Value} {m : Nat} {n : Nat → Nat} {S : Nat → Nat → Nat} (h : Lb w u m n S) (hf : Fm m n) : Lb w u m (fun _ => n 0) S := by
  obtain ⟨V, h1, h2⟩ := h
  exact ⟨V, h1, fun i hi => by have := h2 i hi; rw [hf.2.2.2.2 i hi] at this; exact this⟩
set_option maxHeartbeats 2000000 in
set_option maxRecDepth 100000 in
theorem raug10_no (u v : Value) (m m' : Nat) (n n' : Nat → Nat) (S S' : Nat → Nat → Nat) (w : World) (h : Lb w u m n S) (h' : Lb w v m' n' S') (z : Int) (hno : (¬ (Fm m n ∧ Fm m' n') ∧ z = 100) ∨ (Fm m n ∧ Fm m' n' ∧ ¬ Au10 m m' n n' ∧ z = 101)) :
    Calls Try.prog 50 #[u, v] w fun e w' => e = .returned (.tuple #[.slice none 0 0, .int .i64 z]) ∧ Below w.heap.size w w' := by
  rcases hno with ⟨hf, rfl⟩ | ⟨hf, hf', hs, rfl⟩
  · by_cases h1 : Fm m n
    · have h2 : ¬ Fm m' n' := fun e => hf ⟨h1, e⟩
      have c1 : Calls Try.prog 42 #[u] w fun e w1 => e = .returned (.int .i64 0) ∧ Calls Try.prog 42 #[v] w1 fun e w2 => e = .returned (.int .i64 100) ∧ Hid (Below w.heap.size w w2) :=
        (rcheck10_b u m n S w h 0 (.inl ⟨rfl, h1⟩)).mono fun e w1 ⟨he, b1⟩ => ⟨he, (rcheck10_b v m' n' S' w1 (Lb.below h' b1) 100 (.inr ⟨rfl, h2⟩)).mono fun e w2 ⟨he, b2⟩ => ⟨he, bthen10 b1 b2⟩⟩
      obtain ⟨a, cap, rfl⟩ := lb_form10 h
      obtain ⟨a', cap', rfl⟩ := lb_form10 h'
      clear h h' hf h1 h2
      go_enter Try.func50, Try.ntmps50
      go_wp2_with (go_at_call 42; first | ((with_reducible refine c1.mono ?_); rintro e w1 ⟨rfl, c2⟩; clear c1) | ((with_reducible refine c2.mono ?_); rintro e w2 ⟨rfl, HB⟩; clear c2))
      go_ret2
      exact ⟨rfl, HB.out⟩
    · have c1 := rcheck10_b u m n S w h 100 (.inr ⟨rfl, h1⟩)
      obtain ⟨a, cap, rfl⟩ := lb_form10 h
      obtain ⟨a', cap', rfl⟩ := lb_form10 h'
      clear h h' hf h1
      go_enter Try.func50, Try.ntmps50
      go_wp2_with (go_at_call 42; ((with_reducible refine (c1).mono ?_); (rintro e w9 ⟨rfl, b9⟩)))
      go_ret2
      exact ⟨rfl, b9⟩
  · have c1 : Calls Try.prog 42 #[u] w fun e w1 => e = .returned (.int .i64 0) ∧ Calls Try.prog 42 #[v] w1 fun e w2 => e = .returned (.int .i64 0) ∧ Below w.heap.size w w2 :=
      (rcheck10_b u m n S w h 0 (.inl ⟨rfl, hf⟩)).mono fun e w1 ⟨he, b1⟩ => ⟨he, (rcheck10_b v m' n' S' w1 (Lb.below h' b1) 0 (.inl ⟨rfl, hf'⟩)).mono fun e w2 ⟨he, b2⟩ => ⟨he, bthen10 b1 b2⟩⟩
    obtain ⟨b, o, cap, rfl, hU⟩ := row0_10 h hf.1
    obtain ⟨b', o', cap', rfl, hV⟩ := row0_10 h' hf'.1
    have i0 : (0 : Int) < (m : Int) := Int.ofNat_lt.2 hf.1
    have i1 : (0 : Int) < (m' : Int) := Int.ofNat_lt.2 hf'.1
    have W0 : wrap64 ((n 0 : Int) + (n' 0 : Int)) = (n 0 : Int) + (n' 0 : Int) := by have := hf.2.2.2.1; have := hf'.2.2.2.1; unfold wrap64; omega
    have W9 : IntKind.i64.wrap ((n 0 : Int) + (n' 0 : Int)) = (n 0 : Int) + (n' 0 : Int) := by have := hf.2.2.2.1; have := hf'.2.2.2.1; rw [IntKind.wrap_i64]; omega
    have m0 : 0 < m := hf.1
    have m1 : 0 < m' := hf'.1
    by_cases e : m = m'
    · subst e
      have D1 : decide ((512 : Int) < (n 0 : Int) + (n' 0 : Int)) = true := by
        have : ¬ n 0 + n' 0 ≤ 512 := fun h9 => hs ⟨rfl, h9⟩
        simp; omega
      clear h h' hf hf' hs
      go_enter Try.func50, Try.ntmps50
      go_wp2_with (go_at_call 42; first | ((with_reducible refine c1.mono ?_); rintro e w1 ⟨rfl, c2⟩; clear c1) | ((with_reducible refine c2.mono ?_); rintro e w2 ⟨rfl, b2⟩; obtain ⟨x, cx, z0⟩ := hU w2 b2; obtain ⟨x', cx', z1⟩ := hV w2 b2; have HB : Hid (Below w.heap.size w w2) := b2; clear c2 b2))
      go_quiet (fail)
      go_wp2
      go_ret2
      exact ⟨rfl, below_drewM HB.out _⟩
    · have ie : ¬ ((m : Nat) : Int) = (m' : Int) := fun h9 => e (Int.ofNat.inj h9)
      have D1 : (((m : Nat) : Int) != (m' : Int)) = true := by simpa using ie
      clear h h' hf hf' hs e W0 W9
      go_enter Try.func50, Try.ntmps50
      go_wp2_with (go_at_call 42; first | ((with_reducible refine c1.mono ?_); rintro e w1 ⟨rfl, c2⟩; clear c1) | ((with_reducible refine c2.mono ?_); rintro e w2 ⟨rfl, b2⟩; obtain ⟨x, cx, z0⟩ := hU w2 b2; obtain ⟨x', cx', z1⟩ := hV w2 b2; have HB : Hid (Below w.heap.size w w2) := b2; clear c2 b2))
      go_quiet (fail)
      go_wp2
      go_ret2
      exact ⟨rfl, below_drewM HB.out _⟩
set_option maxHeartbeats 2000000 in
set_option maxRecDepth 100000 in
theorem raug10_yes (u v : Value) (m l k : Nat) (S T : Nat → Nat → Nat) (w : World) (h : Lb w u m (fun _ => l) S) (h' : Lb w v m (fun _ => k) T) (hm : 1 ≤ m) (hm2 : m ≤ 256) (hl : 1 ≤ l) (hk : 1 ≤ k) (hs : l + k ≤ 512) :
    Calls Try.prog 50 #[u, v] w fun e w' => ∃ x, e = .returned (.tuple #[x, .int .i64 0]) ∧ Ans w w' x m (l + k) (bes l S T) := by
  have c1 : Calls Try.prog 42 #[u] w fun e w1 => e = .returned (.int .i64 0) ∧ Calls Try.prog 42 #[v] w1 fun e w2 => e = .returned (.int .i64 0) ∧ Below w.heap.size w w2 ∧
      ∀ q, Calls Try.prog 71 #[u, v] (w2.drewN q) fun e w3 => ∃ x, e = .returned x ∧ Hid (Ans w w3 x m (l + k) (bes l S T)) :=
    (rcheck10_b u m _ S w h 0 (.inl ⟨rfl, fm_n hm hm2 hl (by omega)⟩)).mono fun e w1 ⟨he, b1⟩ => ⟨he, (rcheck10_b v m _ T w1 (Lb.below h' b1) 0 (.inl ⟨rfl, fm_n hm hm2 hk (by omega)⟩)).mono fun e w2 ⟨he, b2⟩ => ⟨he, bthen10 b1 b2, fun q =>
      (rbeside10 u v m l k S T (w2.drewN q) (Lb.below h (below_drewM (bthen10 b1 b2) q)) (Lb.below h' (below_drewM (bthen10 b1 b2) q)) hm hm2 hl (by omega) hk (by omega)).mono fun e w3 ⟨x, he, ha⟩ => ⟨x, he, ha.after (below_drewM (bthen10 b1 b2) q)⟩⟩⟩
  obtain ⟨b, o, cap, rfl, hU⟩ := row0_10 h hm
  obtain ⟨b', o', cap', rfl, hV⟩ := row0_10 h' hm
  have i0 : (0 : Int) < (m : Int) := Int.ofNat_lt.2 hm
  have W0 : wrap64 ((l : Int) + (k : Int)) = (l : Int) + (k : Int) := by unfold wrap64; omega
  have W9 : IntKind.i64.wrap ((l : Int) + (k : Int)) = (l : Int) + (k : Int) := by rw [IntKind.wrap_i64]; omega
  have D1 : decide ((512 : Int) < (l : Int) + (k : Int)) = false := by simp; omega
  have m0 : 0 < m := hm
  clear h h' hm hm2 hl hk hs
  go_enter Try.func50, Try.ntmps50
  go_wp2_with (go_at_call 42; first | ((with_reducible refine c1.mono ?_); rintro e w1 ⟨rfl, c2⟩; clear c1) | ((with_reducible refine c2.mono ?_); rintro e w2 ⟨rfl, b2, c3⟩; obtain ⟨x, cx, z0⟩ := hU w2 b2; obtain ⟨x', cx', z1⟩ := hV w2 b2; clear c2 b2))
  go_quiet (fail)
  have c5 := c3 nq
  clear c3
  go_wp2_with (go_at_call 71; (with_reducible refine c5.mono ?_); rintro e w3 ⟨xr, rfl, HA⟩)
  go_ret2
  exact ⟨_, rfl, HA.out⟩
end Go.Proofs.Ytdnhidachdjgaaa
