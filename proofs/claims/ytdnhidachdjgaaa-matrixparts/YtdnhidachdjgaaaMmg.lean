import Derived.Test.YtdnhidachdjgaaaMmf
namespace Go.Proofs.Ytdnhidachdjgaaa
open Go.RowKit Gf2
set_option linter.unusedVariables false

-- layer 10: Augment, Mul, Transpose of the program, refused; Augment where it answers; the document's Mul
set_option maxHeartbeats 2000000 in
set_option maxRecDepth 100000 in
theorem checkBoth10_no (u v : Value) (m m' : Nat) (n n' : Nat → Nat) (S S' : Nat → Nat → Nat) (w : World) (h : Lb w u m n S) (h' : Lb w v m' n' S') (hf : ¬ (Fm m n ∧ Fm m' n')) :
    Calls Try.prog 57 #[u, v] w fun e w' => e = .returned (.int .i64 100) ∧ w' = w := by
  by_cases h1 : Fm m n
  · have h2 : ¬ Fm m' n' := fun e => hf ⟨h1, e⟩
    have c1 := check10_yes u m n S w h h1
    have c2 := check10_no v m' n' S' w h' h2
    clear h h'
    go_enter Try.func57, Try.ntmps57
    go_wp2_with (go_at_call 34; first | ((with_reducible refine c1.mono ?_); rintro e w9 ⟨rfl, hw9⟩; have hw9 := hw9.symm; subst hw9; clear c1) | ((with_reducible refine c2.mono ?_); rintro e w9 ⟨rfl, hw9⟩; have hw9 := hw9.symm; subst hw9))
    go_ret
    exact ⟨rfl, rfl⟩
  · have c1 := check10_no u m n S w h h1
    clear h h'
    go_enter Try.func57, Try.ntmps57
    go_wp2_with (go_at_call 34; ((with_reducible refine (c1).mono ?_); rintro e w' ⟨rfl, rfl⟩))
    go_ret
    exact ⟨rfl, rfl⟩
set_option maxHeartbeats 2000000 in
set_option maxRecDepth 100000 in
theorem aug10_no (u v : Value) (m m' : Nat) (n n' : Nat → Nat) (S S' : Nat → Nat → Nat) (w : World) (h : Lb w u m n S) (h' : Lb w v m' n' S') (z : Int) (hno : (¬ (Fm m n ∧ Fm m' n') ∧ z = 100) ∨ (Fm m n ∧ Fm m' n' ∧ ¬ Au10 m m' n n' ∧ z = 101)) :
    Calls Try.prog 28 #[u, v] w fun e w' => e = .returned (.tuple #[.slice none 0 0, .int .i64 z]) ∧ Below w.heap.size w w' := by
  rcases hno with ⟨hf, rfl⟩ | ⟨hf, hf', hs, rfl⟩
  · have c1 := checkBoth10_no u v m m' n n' S S' w h h' hf
    obtain ⟨a, cap, rfl⟩ := lb_form10 h
    obtain ⟨a', cap', rfl⟩ := lb_form10 h'
    clear h h' hf
    go_enter Try.func28, Try.ntmps28
    go_wp2_with (go_at_call 57; ((with_reducible refine (c1).mono ?_); rintro e w' ⟨rfl, rfl⟩))
    go_ret2
    exact ⟨rfl, Below.refl _ _⟩
  · have c1 := checkBoth10_yes u v m m' n n' S S' w h h' hf hf'
    obtain ⟨b, o, cap, rfl, hU⟩ := row0_10 h hf.1
    obtain ⟨b', o', cap', rfl, hV⟩ := row0_10 h' hf'.1
    obtain ⟨x, cx, z0⟩ := hU w (Below.refl _ _)
    obtain ⟨x', cx', z1⟩ := hV w (Below.refl _ _)
    have i0 : (0 : Int) < (m : Int) := Int.ofNat_lt.2 hf.1
    have i1 : (0 : Int) < (m' : Int) := Int.ofNat_lt.2 hf'.1
    have W0 : wrap64 ((n 0 : Int) + (n' 0 : Int)) = (n 0 : Int) + (n' 0 : Int) := by have := hf.2.2.2.1; have := hf'.2.2.2.1; unfold wrap64; omega
    have W9 : IntKind.i64.wrap ((n 0 : Int) + (n' 0 : Int)) = (n 0 : Int) + (n' 0 : Int) := by have := hf.2.2.2.1; have := hf'.2.2.2.1; rw [IntKind.wrap_i64]; omega
    have m0 : 0 < m := hf.1
    have m1 : 0 < m' := hf'.1
    by_cases e : m = m'
    · subst e
      have D1 : decide ((512 : Int) < (n 0 : Int) + (n' 0 : Int)) = true := by
        have : ¬ n 0 + n' 0 ≤ 512 := fun h9 => hs ⟨rfl, h9⟩
        simp; omega
      clear h h' hf hf' hs hU hV
      go_enter Try.func28, Try.ntmps28
      go_wp2_with (go_at_call 57; (with_reducible refine c1.mono ?_); rintro e w9 ⟨rfl, hw9⟩; have hw9 := hw9.symm; subst hw9; clear c1)
      go_quiet (fail)
      go_wp2
      go_ret2
      exact ⟨rfl, below_drewM (Below.refl _ _) _⟩
    · have ie : ¬ ((m : Nat) : Int) = (m' : Int) := fun h9 => e (Int.ofNat.inj h9)
      have D1 : (((m : Nat) : Int) != (m' : Int)) = true := by simpa using ie
      clear h h' hf hf' hs e W0 W9 hU hV
      go_enter Try.func28, Try.ntmps28
      go_wp2_with (go_at_call 57; (with_reducible refine c1.mono ?_); rintro e w9 ⟨rfl, hw9⟩; have hw9 := hw9.symm; subst hw9; clear c1)
      go_quiet (fail)
      go_wp2
      go_ret2
      exact ⟨rfl, below_drewM (Below.refl _ _) _⟩
set_option maxHeartbeats 2000000 in
set_option maxRecDepth 100000 in
theorem aug10_yes (u v : Value) (m l k : Nat) (S T : Nat → Nat → Nat) (w : World) (h : Lb w u m (fun _ => l) S) (h' : Lb w v m (fun _ => k) T) (hm : 1 ≤ m) (hm2 : m ≤ 256) (hl : 1 ≤ l) (hk : 1 ≤ k) (hs : l + k ≤ 512) :
    Calls Try.prog 28 #[u, v] w fun e w' => ∃ x, e = .returned (.tuple #[x, .int .i64 0]) ∧ Ans w w' x m (l + k) (bes l S T) := by
  have c1 := checkBoth10_yes u v m m (fun _ => l) (fun _ => k) S T w h h' (fm_n hm hm2 hl (by omega)) (fm_n hm hm2 hk (by omega))
  have c3 : ∀ q, Calls Try.prog 60 #[u, v] (w.drewN q) fun e w3 => ∃ x, e = .returned x ∧ Hid (Ans w w3 x m (l + k) (bes l S T)) := fun q =>
    (beside10 u v m l k S T (w.drewN q) (Lb.below h (below_drewM (Below.refl _ _) q)) (Lb.below h' (below_drewM (Below.refl _ _) q)) hm hm2 hl (by omega) hk (by omega)).mono fun e w3 ⟨x, he, ha⟩ => ⟨x, he, ha.after (below_drewM (Below.refl _ _) q)⟩
  obtain ⟨b, o, cap, rfl, hU⟩ := row0_10 h hm
  obtain ⟨b', o', cap', rfl, hV⟩ := row0_10 h' hm
  obtain ⟨x, cx, z0⟩ := hU w (Below.refl _ _)
  obtain ⟨x', cx', z1⟩ := hV w (Below.refl _ _)
  have i0 : (0 : Int) < (m : Int) := Int.ofNat_lt.2 hm
  have W0 : wrap64 ((l : Int) + (k : Int)) = (l : Int) + (k : Int) := by unfold wrap64; omega
  have W9 : IntKind.i64.wrap ((l : Int) + (k : Int)) = (l : Int) + (k : Int) := by rw [IntKind.wrap_i64]; omega
  have D1 : decide ((512 : Int) < (l : Int) + (k : Int)) = false := by simp; omega
  have m0 : 0 < m := hm
  clear h h' hm hm2 hl hk hs hU hV
  go_enter Try.func28, Try.ntmps28
  go_wp2_with (go_at_call 57; (with_reducible refine c1.mono ?_); rintro e w9 ⟨rfl, hw9⟩; have hw9 := hw9.symm; subst hw9; clear c1)
  go_quiet (fail)
  have c5 := c3 nq
  clear c3
  go_wp2_with (go_at_call 60; (with_reducible refine c5.mono ?_); rintro e w3 ⟨xr, rfl, HA⟩)
  go_ret2
  exact ⟨_, rfl, HA.out⟩
set_option maxHeartbeats 2000000 in
set_option maxRecDepth 100000 in
theorem mul10_no (u v : Value) (m m' : Nat) (n n' : Nat → Nat) (S S' : Nat → Nat → Nat) (w : World) (h : Lb w u m n S) (h' : Lb w v m' n' S') (z : Int) (hno : (¬ (Fm m n ∧ Fm m' n') ∧ z = 100) ∨ (Fm m n ∧ Fm m' n' ∧ n 0 ≠ m' ∧ z = 101)) :
    Calls Try.prog 24 #[u, v] w fun e w' => e = .returned (.tuple #[.slice none 0 0, .int .i64 z]) ∧ w' = w := by
  rcases hno with ⟨hf, rfl⟩ | ⟨hf, hf', hs, rfl⟩
  · have c1 := checkBoth10_no u v m m' n n' S S' w h h' hf
    obtain ⟨a, cap, rfl⟩ := lb_form10 h
    obtain ⟨a', cap', rfl⟩ := lb_form10 h'
    clear h h' hf
    go_enter Try.func24, Try.ntmps24
    go_wp2_with (go_at_call 57; ((with_reducible refine (c1).mono ?_); rintro e w' ⟨rfl, rfl⟩))
    go_ret2
    exact ⟨rfl, rfl⟩
  · have c1 := checkBoth10_yes u v m m' n n' S S' w h h' hf hf'
    obtain ⟨b, o, cap, rfl, hU⟩ := row0_10 h hf.1
    obtain ⟨a', cap', rfl⟩ := lb_form10 h'
    obtain ⟨x, cx, z0⟩ := hU w (Below.refl _ _)
    have i0 : (0 : Int) < (m : Int) := Int.ofNat_lt.2 hf.1
    have ie : ¬ ((n 0 : Nat) : Int) = (m' : Int) := fun h9 => hs (Int.ofNat.inj h9)
    clear h h' hf hf' hs hU
    go_enter Try.func24, Try.ntmps24
    go_wp2_with (go_at_call 57; ((with_reducible refine (c1).mono ?_); rintro e w' ⟨rfl, rfl⟩))
    go_ret2
    exact ⟨rfl, rfl⟩
set_option maxHeartbeats 2000000 in
set_option maxRecDepth 100000 in
theorem trans10_no (u : Value) (m : Nat) (n : Nat → Nat) (S : Nat → Nat → Nat) (w : World) (h : Lb w u m n S) (hno : ¬ (Fm m n ∧ n 0 ≤ 256)) :
    Calls Try.prog 25 #[u] w fun e w' => e = .returned (.tuple #[.slice none 0 0, .int .i64 100]) ∧ w' = w := by
  by_cases hf : Fm m n
  · have c1 := check10_yes u m n S w h hf
    have hn : 256 < n 0 := by
      rcases Nat.lt_or_ge 256 (n 0) with h9 | h9
      · exact h9
      · exact absurd ⟨hf, h9⟩ hno
    obtain ⟨b, o, cap, rfl, hU⟩ := row0_10 h hf.1
    obtain ⟨x, cx, z0⟩ := hU w (Below.refl _ _)
    have i0 : (0 : Int) < (m : Int) := Int.ofNat_lt.2 hf.1
    have D1 : decide ((256 : Int) < (n 0 : Int)) = true := by simp; omega
    clear h hno hf hn hU
    go_enter Try.func25, Try.ntmps25
    go_wp2_with (go_at_call 34; ((with_reducible refine (c1).mono ?_); rintro e w' ⟨rfl, rfl⟩))
    go_ret2
    exact ⟨rfl, rfl⟩
  · have c1 := check10_no u m n S w h hf
    obtain ⟨a, cap, rfl⟩ := lb_form10 h
    clear h hno hf
    go_enter Try.func25, Try.ntmps25
    go_wp2_with (go_at_call 34; ((with_reducible refine (c1).mono ?_); rintro e w' ⟨rfl, rfl⟩))
    go_ret2
    exact ⟨rfl, rfl⟩
set_option maxHeartbeats 2000000 in
set_option maxRecDepth 100000 in
theorem rmul10_no (u v : Value) (m m' : Nat) (n n' : Nat → Nat) (S S' : Nat → Nat → Nat) (w : World) (h : Lb w u m n S) (h' : Lb w v m' n' S') (z : Int) (hno : (¬ (Fm m n ∧ Fm m' n') ∧ z = 100) ∨ (Fm m n ∧ Fm m' n' ∧ n 0 ≠ m' ∧ z = 101)) :
    Calls Try.prog 46 #[u, v] w fun e w' => e = .returned (.tuple #[.slice none 0 0, .int .i64 z]) ∧ Below w.heap.size w w' := by
  rcases hno with ⟨hf, rfl⟩ | ⟨hf, hf', hs, rfl⟩
  · by_cases h1 : Fm m n
    · have h2 : ¬ Fm m' n' := fun e => hf ⟨h1, e⟩
      have c1 : Calls Try.prog 42 #[u] w fun e w1 => e = .returned (.int .i64 0) ∧ Calls Try.prog 42 #[v] w1 fun e w2 => e = .returned (.int .i64 100) ∧ Hid (Below w.heap.size w w2) :=
        (rcheck10_b u m n S w h 0 (.inl ⟨rfl, h1⟩)).mono fun e w1 ⟨he, b1⟩ => ⟨he, (rcheck10_b v m' n' S' w1 (Lb.below h' b1) 100 (.inr ⟨rfl, h2⟩)).mono fun e w2 ⟨he, b2⟩ => ⟨he, bthen10 b1 b2⟩⟩
      obtain ⟨a, cap, rfl⟩ := lb_form10 h
      obtain ⟨a', cap', rfl⟩ := lb_form10 h'
      clear h h' hf h1 h2
      go_enter Try.func46, Try.ntmps46
      go_wp2_with (go_at_call 42; first | ((with_reducible refine c1.mono ?_); rintro e w1 ⟨rfl, c2⟩; clear c1) | ((with_reducible refine c2.mono ?_); rintro e w2 ⟨rfl, HB⟩; clear c2))
      go_ret2
      exact ⟨rfl, HB.out⟩
    · have c1 := rcheck10_b u m n S w h 100 (.inr ⟨rfl, h1⟩)
      obtain ⟨a, cap, rfl⟩ := lb_form10 h
      obtain ⟨a', cap', rfl⟩ := lb_form10 h'
      clear h h' hf h1
      go_enter Try.func46, Try.ntmps46
      go_wp2_with (go_at_call 42; ((with_reducible refine (c1).mono ?_); (rintro e w9 ⟨rfl, b9⟩)))
      go_ret2
      exact ⟨rfl, b9⟩
  · have c1 : Calls Try.prog 42 #[u] w fun e w1 => e = .returned (.int .i64 0) ∧ Calls Try.prog 42 #[v] w1 fun e w2 => e = .returned (.int .i64 0) ∧ Below w.heap.size w w2 :=
      (rcheck10_b u m n S w h 0 (.inl ⟨rfl, hf⟩)).mono fun e w1 ⟨he, b1⟩ => ⟨he, (rcheck10_b v m' n' S' w1 (Lb.below h' b1) 0 (.inl ⟨rfl, hf'⟩)).mono fun e w2 ⟨he, b2⟩ => ⟨he, bthen10 b1 b2⟩⟩
    obtain ⟨b, o, cap, rfl, hU⟩ := row0_10 h hf.1
    obtain ⟨a', cap', rfl⟩ := lb_form10 h'
    have i0 : (0 : Int) < (m : Int) := Int.ofNat_lt.2 hf.1
    have ie : ¬ ((n 0 : Nat) : Int) = (m' : Int) := fun h9 => hs (Int.ofNat.inj h9)
    clear h h' hf hf' hs
    go_enter Try.func46, Try.ntmps46
    go_wp2_with (go_at_call 42; first | ((with_reducible refine c1.mono ?_); rintro e w1 ⟨rfl, c2⟩; clear c1) | ((with_reducible refine c2.mono ?_); rintro e w2 ⟨rfl, b2⟩; obtain ⟨x, cx, z0⟩ := hU w2 b2; have HB : Hid (Below w.heap.size w w2) := b2; clear c2 b2))
    go_ret2
    exact ⟨rfl, HB.out⟩
end Go.Proofs.Ytdnhidachdjgaaa
