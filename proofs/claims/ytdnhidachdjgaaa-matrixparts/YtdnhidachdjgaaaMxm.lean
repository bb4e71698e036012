import Derived.Test.YtdnhidachdjgaaaMxl
namespace Go.Proofs.Ytdnhidachdjgaaa
open Go.RowKit Gf2
set_option linter.unusedVariables false

theorem idm_lt (i j : Nat) : idm i j < 256 := by unfold idm; split <;> decide
theorem solution10_yes (u v : Value) (n k : Nat) (S T : Nat → Nat → Nat) (w : World) (h : Lb w u n (fun _ => n) S) (h' : Lb w v n (fun _ => k) T) (h1 : 1 ≤ n) (h2 : n ≤ 256) (h3 : 1 ≤ k) (h4 : k ≤ 512) (hS : ∀ i j, S i j < 256) (hT : ∀ i j, T i j < 256) (ht : (elm n S n).t = n) :
    Calls Try.prog 64 #[u, v] w fun e w' => ∃ x, e = .returned (.tuple #[x, .int .i64 0]) ∧ Ans w w' x n k (sol n S T) :=
  (solution10 u v n k S T w h h' h1 h2 h3 h4 hS hT).mono fun e w' hh => by
    rcases hh with ⟨a1, a2, a3⟩ | ⟨a1, a2⟩
    · omega
    · exact a2
theorem solution10_no (u v : Value) (n k : Nat) (S T : Nat → Nat → Nat) (w : World) (h : Lb w u n (fun _ => n) S) (h' : Lb w v n (fun _ => k) T) (h1 : 1 ≤ n) (h2 : n ≤ 256) (h3 : 1 ≤ k) (h4 : k ≤ 512) (hS : ∀ i j, S i j < 256) (hT : ∀ i j, T i j < 256) (ht : (elm n S n).t < n) :
    Calls Try.prog 64 #[u, v] w fun e w' => e = .returned (.tuple #[.slice none 0 0, .int .i64 102]) ∧ Below w.heap.size w w' :=
  (solution10 u v n k S T w h h' h1 h2 h3 h4 hS hT).mono fun e w' hh => by
    rcases hh with ⟨a1, a2, a3⟩ | ⟨a1, a2⟩
    · exact ⟨a2, a3⟩
    · omega
set_option maxHeartbeats 2000000 in
set_option maxRecDepth 100000 in
theorem invert10_yes (u : Value) (n : Nat) (S : Nat → Nat → Nat) (w : World) (h : Lb w u n (fun _ => n) S) (h1 : 1 ≤ n) (h2 : n ≤ 256) (hS : ∀ i j, S i j < 256) (ht : (elm n S n).t = n) :
    Calls Try.prog 31 #[u] w fun e w' => ∃ x, e = .returned (.tuple #[x, .int .i64 0]) ∧ Ans w w' x n n (sol n S idm) := by
  have c1 := checkSquare10_yes u n (fun _ => n) S w h (fm_n h1 h2 h1 (by omega)) rfl
  have c2 := ident10_yes n w h1 h2
  have c3 : ∀ w1 v, Ans w w1 v n n idm → Calls Try.prog 64 #[u, v] w1 fun e w' => ∃ x, e = .returned (.tuple #[x, .int .i64 0]) ∧ Ans w w' x n n (sol n S idm) := fun w1 v hv => by
    refine (solution10_yes u v n n S idm w1 (h.below hv.2) hv.lb h1 h2 h1 (by omega) hS idm_lt ht).mono ?_
    rintro e w' ⟨x, a2, a3⟩
    exact ⟨x, a2, a3.after hv.2⟩
  obtain ⟨b, o, cap, rfl⟩ := h.head h1
  have H3 : Hid _ := c3
  clear h h1 h2 hS c3 ht
  generalize sol n S idm = X at H3 ⊢
  go_enter Try.func31, Try.ntmps31
  go_wp2_with (first
    | (go_at_call 63; (with_reducible refine c1.mono ?_); rintro e w9 ⟨rfl, hw9⟩; have hw9 := hw9.symm; subst hw9; clear c1)
    | (go_at_call 33; (with_reducible refine c2.mono ?_); rintro e w1 ⟨v, rfl, hA⟩; clear c2; have c3 := H3.out w1 v hA; clear hA H3)
    | (go_at_call 64; (with_reducible refine c3.mono ?_); rintro e w2 ⟨x, rfl, hx⟩; have HX : Hid _ := hx; clear hx c3))
  go_ret2
  exact ⟨_, rfl, HX.out⟩
set_option maxHeartbeats 2000000 in
set_option maxRecDepth 100000 in
theorem solve10_yes (u v : Value) (n k : Nat) (S T : Nat → Nat → Nat) (w : World) (h : Lb w u n (fun _ => n) S) (h' : Lb w v n (fun _ => k) T) (h1 : 1 ≤ n) (h2 : n ≤ 256) (h3 : 1 ≤ k) (h4 : k ≤ 512) (hS : ∀ i j, S i j < 256) (hT : ∀ i j, T i j < 256) (ht : (elm n S n).t = n) :
    Calls Try.prog 32 #[u, v] w fun e w' => ∃ x, e = .returned (.tuple #[x, .int .i64 0]) ∧ Ans w w' x n k (sol n S T) := by
  have c1 := checkBoth10_yes u v n n (fun _ => n) (fun _ => k) S T w h h' (fm_n h1 h2 h1 (by omega)) (fm_n h1 h2 h3 h4)
  have c3 := solution10_yes u v n k S T w h h' h1 h2 h3 h4 hS hT ht
  obtain ⟨b, o, cap, rfl⟩ := h.head h1
  obtain ⟨b', o', cap', rfl⟩ := h'.head h1
  obtain ⟨x0, y0, z0⟩ := h.first h1
  have i0 : (0 : Int) < (n : Int) := Int.ofNat_lt.2 h1
  clear h h' h1 h2 h3 h4 hS hT ht
  generalize sol n S T = X at c3 ⊢
  go_enter Try.func32, Try.ntmps32
  go_wp2_with (first
    | (go_at_call 57; (with_reducible refine c1.mono ?_); rintro e w9 ⟨rfl, hw9⟩; have hw9 := hw9.symm; subst hw9; clear c1)
    | (go_at_call 64; (with_reducible refine c3.mono ?_); rintro e w2 ⟨x, rfl, hx⟩; have HX : Hid _ := hx; clear hx c3))
  go_ret2
  exact ⟨_, rfl, HX.out⟩
set_option maxHeartbeats 2000000 in
set_option maxRecDepth 100000 in
theorem invert10_no (u : Value) (n : Nat) (S : Nat → Nat → Nat) (w : World) (h : Lb w u n (fun _ => n) S) (h1 : 1 ≤ n) (h2 : n ≤ 256) (hS : ∀ i j, S i j < 256) (ht : (elm n S n).t < n) :
    Calls Try.prog 31 #[u] w fun e w' => e = .returned (.tuple #[.slice none 0 0, .int .i64 102]) ∧ Below w.heap.size w w' := by
  have c1 := checkSquare10_yes u n (fun _ => n) S w h (fm_n h1 h2 h1 (by omega)) rfl
  have c2 := ident10_yes n w h1 h2
  have c3 : ∀ w1 v, Ans w w1 v n n idm → Calls Try.prog 64 #[u, v] w1 fun e w' => e = .returned (.tuple #[.slice none 0 0, .int .i64 102]) ∧ Below w.heap.size w w' := fun w1 v hv => by
    refine (solution10_no u v n n S idm w1 (h.below hv.2) hv.lb h1 h2 h1 (by omega) hS idm_lt ht).mono ?_
    rintro e w' ⟨a2, a3⟩
    exact ⟨a2, hv.2.trans (a3.mono hv.2.size)⟩
  obtain ⟨b, o, cap, rfl⟩ := h.head h1
  have H3 : Hid _ := c3
  clear h h1 h2 hS c3 ht
  go_enter Try.func31, Try.ntmps31
  go_wp2_with (first
    | (go_at_call 63; (with_reducible refine c1.mono ?_); rintro e w9 ⟨rfl, hw9⟩; have hw9 := hw9.symm; subst hw9; clear c1)
    | (go_at_call 33; (with_reducible refine c2.mono ?_); rintro e w1 ⟨v, rfl, hA⟩; clear c2; have c3 := H3.out w1 v hA; clear hA H3)
    | (go_at_call 64; (with_reducible refine c3.mono ?_); rintro e w2 ⟨rfl, hx⟩; have HX : Hid _ := hx; clear hx c3))
  go_ret2
  exact ⟨rfl, HX.out⟩
set_option maxHeartbeats 2000000 in
set_option maxRecDepth 100000 in
theorem solve10_no (u v : Value) (n k : Nat) (S T : Nat → Nat → Nat) (w : World) (h : Lb w u n (fun _ => n) S) (h' : Lb w v n (fun _ => k) T) (h1 : 1 ≤ n) (h2 : n ≤ 256) (h3 : 1 ≤ k) (h4 : k ≤ 512) (hS : ∀ i j, S i j < 256) (hT : ∀ i j, T i j < 256) (ht : (elm n S n).t < n) :
    Calls Try.prog 32 #[u, v] w fun e w' => e = .returned (.tuple #[.slice none 0 0, .int .i64 102]) ∧ Below w.heap.size w w' := by
  have c1 := checkBoth10_yes u v n n (fun _ => n) (fun _ => k) S T w h h' (fm_n h1 h2 h1 (by omega)) (fm_n h1 h2 h3 h4)
  have c3 := solution10_no u v n k S T w h h' h1 h2 h3 h4 hS hT ht
  obtain ⟨b, o, cap, rfl⟩ := h.head h1
  obtain ⟨b', o', cap', rfl⟩ := h'.head h1
  obtain ⟨x0, y0, z0⟩ := h.first h1
  have i0 : (0 : Int) < (n : Int) := Int.ofNat_lt.2 h1
  clear h h' h1 h2 h3 h4 hS hT ht
  go_enter Try.func32, Try.ntmps32
  go_wp2_with (first
    | (go_at_call 57; (with_reducible refine c1.mono ?_); rintro e w9 ⟨rfl, hw9⟩; have hw9 := hw9.symm; subst hw9; clear c1)
    | (go_at_call 64; (with_reducible refine c3.mono ?_); rintro e w2 ⟨rfl, hx⟩; have HX : Hid _ := hx; clear hx c3))
  go_ret2
  exact ⟨rfl, HX.out⟩
end Go.Proofs.Ytdnhidachdjgaaa
