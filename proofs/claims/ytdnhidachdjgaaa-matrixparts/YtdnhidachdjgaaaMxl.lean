import Derived.Test.YtdnhidachdjgaaaMxk
namespace Go.Proofs.Ytdnhidachdjgaaa
open Go.RowKit Gf2
set_option linter.unusedVariables false

theorem Ans.after {w w1 w2 : World} {v : Value} {m c : Nat} {S : Nat → Nat → Nat} (hb : Below w.heap.size w w1) (h : Ans w1 w2 v m c S) : Ans w w2 v m c S := by
  obtain ⟨⟨B, h1⟩, h2⟩ := h
  exact ⟨⟨B, h1.wide hb.size (Nat.le_refl _) (Nat.le_refl _)⟩, hb.trans (h2.mono hb.size)⟩
/-- a list of rows that can be read, its block. -/
theorem Lb.head {w : World} {u : Value} {m : Nat} {n : Nat → Nat} {S : Nat → Nat → Nat} (h : Lb w u m n S) (h0 : 0 < m) : ∃ b o cap, u = .slice (some ⟨b, o, none⟩) m cap := by
  obtain ⟨V, ⟨hnb, a, cap, rfl, -, -, h4⟩, hV⟩ := h
  obtain ⟨b, o, rfl, -⟩ := h4 h0
  exact ⟨b, o, cap, rfl⟩
theorem Lb.first {w : World} {b o m cap : Nat} {n : Nat → Nat} {S : Nat → Nat → Nat} (h : Lb w (.slice (some ⟨b, o, none⟩) m cap) m n S) (h0 : 0 < m) : ∃ x y, w.cell? ⟨b, o, none⟩ = some (.slice x (n 0) y) := by
  obtain ⟨V, ⟨hnb, a, cap', e, -, -, h4⟩, hV⟩ := h
  cases e
  obtain ⟨b', o', e, -, hc⟩ := h4 h0
  cases e
  obtain ⟨_, _, x, y, e, _⟩ := hV 0 h0
  have := hc 0 h0
  rw [Nat.add_zero] at this
  exact ⟨x, y, by rw [this, e]⟩
/-- the determinant as the elimination tells it. -/
def dt (n : Nat) (S : Nat → Nat → Nat) : Nat := if (elm n S n).t < n then 0 else (elm n S n).d
theorem fm_n {m n : Nat} (h1 : 1 ≤ m) (h2 : m ≤ 256) (h3 : 1 ≤ n) (h4 : n ≤ 512) : Fm m (fun _ => n) := ⟨h1, h2, h3, h4, fun _ _ => rfl⟩
set_option maxHeartbeats 2000000 in
set_option maxRecDepth 100000 in
theorem reduce10_yes (u : Value) (m n : Nat) (S : Nat → Nat → Nat) (w : World) (h : Lb w u m (fun _ => n) S) (h1 : 1 ≤ m) (h2 : m ≤ 256) (h3 : 1 ≤ n) (h4 : n ≤ 512) (hS : ∀ i j, S i j < 256) :
    Calls Try.prog 29 #[u] w fun e w' => ∃ v pv, e = .returned (.tuple #[v, pv, .int .i64 0]) ∧ Ans w w' v m n (elm m S n).M ∧ Gj (w.heap.size + 1) w' pv (elm m S n).t (fun i => ((elm m S n).P i : Int)) := by
  have c1 := check10_yes u m (fun _ => n) S w h (fm_n h1 h2 h3 h4)
  have c2 : Calls Try.prog 59 #[u, .int .i64 0, .int .i64 (n : Int)] w fun e w' => e = .returned (.slice (some ⟨w.heap.size, 0, none⟩) m m) ∧ AnsL w w' w.heap.size m n (fun i j => S i (0 + j)) := strip10s u m 0 n n (fun _ => n) S w h h1 h2 (Nat.zero_add n) h3 (by omega) (fun _ _ => Nat.le_refl _)
  have c3 : ∀ w1, AnsL w w1 w.heap.size m n (fun i j => S i (0 + j)) → Calls Try.prog 61 #[.slice (some ⟨w.heap.size, 0, none⟩) m m, .int .i64 (n : Int)] w1 fun e w2 => ∃ pv, e = .returned (.tuple #[pv, .int .u8 ((elm m S n).d : Nat)]) ∧ Ans w w2 (.slice (some ⟨w.heap.size, 0, none⟩) m m) m n (elm m S n).M ∧ Gj (w.heap.size + 1) w2 pv (elm m S n).t (fun i => ((elm m S n).P i : Int)) := fun w1 ⟨⟨B, a1, a2⟩, a3⟩ => by
    refine (elim10 w.heap.size w1.heap.size m n w.heap.size n B S w1 (a1.congr (fun i _ j _ => by rw [Nat.zero_add])) a2 h1 h2 (by omega) (Nat.le_refl _) hS).mono ?_
    rintro e w2 ⟨pv, rfl, ⟨B', b1, b2⟩, b3, b4, b5, b6⟩
    have hsz := a2.lt
    refine ⟨pv, rfl, ⟨⟨B', b1.wide (Nat.le_refl _) b5.size (Nat.le_refl _)⟩, a3.trans b5⟩, ?_⟩
    rcases b4 with b4 | ⟨g, C, F, d1, d2, d3, d4⟩
    · exact .inl b4
    · exact .inr ⟨g, C, F, d1, d2, by omega, d4⟩
  have c4 : ∀ w1, AnsL w w1 w.heap.size m n (fun i j => S i (0 + j)) → ∃ x y, w1.cell? ⟨w.heap.size, 0, none⟩ = some (.slice x n y) := fun w1 h9 => by
    obtain ⟨⟨B, a1, a2⟩, a3⟩ := h9
    exact ⟨_, _, a2.cell h1⟩
  obtain ⟨b, o, cap, rfl⟩ := h.head h1
  obtain ⟨x0, y0, z0⟩ := h.first h1
  have i0 : (0 : Int) < (m : Int) := Int.ofNat_lt.2 h1
  have H3 : Hid _ := c3
  have H4 : Hid _ := c4
  clear h h1 h2 h3 h4 hS c3 c4
  go_enter Try.func29, Try.ntmps29
  go_wp2_with (first
    | (go_at_call 34; (with_reducible refine c1.mono ?_); rintro e w9 ⟨rfl, hw9⟩; have hw9 := hw9.symm; subst hw9; clear c1)
    | (go_at_call 59; (with_reducible refine c2.mono ?_); rintro e w1 ⟨rfl, hA⟩; clear c2; have c3 := H3.out w1 hA; obtain ⟨x1, y1, z1⟩ := H4.out w1 hA; clear hA)
    | (go_at_call 61; (with_reducible refine c3.mono ?_); rintro e w2 ⟨pv, rfl, hA2, hP⟩; clear c3 z1; have HA : Hid _ := hA2; have HP : Hid _ := hP; clear hA2 hP))
  go_ret3
  exact ⟨_, _, rfl, HA.out, HP.out⟩
set_option maxHeartbeats 2000000 in
set_option maxRecDepth 100000 in
theorem rank10_yes (u : Value) (m n : Nat) (S : Nat → Nat → Nat) (w : World) (h : Lb w u m (fun _ => n) S) (h1 : 1 ≤ m) (h2 : m ≤ 256) (h3 : 1 ≤ n) (h4 : n ≤ 512) (hS : ∀ i j, S i j < 256) :
    Calls Try.prog 35 #[u] w fun e w' => e = .returned (.tuple #[.int .i64 ((elm m S n).t : Int), .int .i64 0]) ∧ Below w.heap.size w w' := by
  have c1 := reduce10_yes u m n S w h h1 h2 h3 h4 hS
  clear h h1 h2 h3 h4 hS
  go_enter Try.func35, Try.ntmps35
  go_wp2_with (go_at_call 29; (with_reducible refine c1.mono ?_); rintro e w1 ⟨v, pv, rfl, hA, hP⟩; clear c1; obtain ⟨a, cap, hpv⟩ := hP.form; subst hpv; have HA : Hid _ := hA; clear hA hP)
  go_ret2
  exact ⟨rfl, HA.out.2⟩
set_option maxHeartbeats 2000000 in
set_option maxRecDepth 100000 in
theorem det10_yes (u : Value) (n : Nat) (S : Nat → Nat → Nat) (w : World) (h : Lb w u n (fun _ => n) S) (h1 : 1 ≤ n) (h2 : n ≤ 256) (hS : ∀ i j, S i j < 256) :
    Calls Try.prog 36 #[u] w fun e w' => e = .returned (.tuple #[.int .u8 (dt n S : Nat), .int .i64 0]) ∧ Below w.heap.size w w' := by
  have c1 := checkSquare10_yes u n (fun _ => n) S w h (fm_n h1 h2 h1 (by omega)) rfl
  have c2 : Calls Try.prog 59 #[u, .int .i64 0, .int .i64 (n : Int)] w fun e w' => e = .returned (.slice (some ⟨w.heap.size, 0, none⟩) n n) ∧ AnsL w w' w.heap.size n n (fun i j => S i (0 + j)) := strip10s u n 0 n n (fun _ => n) S w h h1 h2 (Nat.zero_add n) h1 (by omega) (fun _ _ => Nat.le_refl _)
  have c3 : ∀ w1, AnsL w w1 w.heap.size n n (fun i j => S i (0 + j)) → Calls Try.prog 61 #[.slice (some ⟨w.heap.size, 0, none⟩) n n, .int .i64 (n : Int)] w1 fun e w2 => ∃ pv, e = .returned (.tuple #[pv, .int .u8 ((elm n S n).d : Nat)]) ∧ Below w.heap.size w w2 ∧ ∃ a cap, pv = .slice a (elm n S n).t cap := fun w1 ⟨⟨B, a1, a2⟩, a3⟩ => by
    refine (elim10 w.heap.size w1.heap.size n n w.heap.size n B S w1 (a1.congr (fun i _ j _ => by rw [Nat.zero_add])) a2 h1 h2 (by omega) (Nat.le_refl _) hS).mono ?_
    rintro e w2 ⟨pv, rfl, ⟨B', b1, b2⟩, b3, b4, b5, b6⟩
    exact ⟨pv, rfl, a3.trans b5, b4.form⟩
  obtain ⟨b, o, cap, rfl⟩ := h.head h1
  have hR := (red_elm (m := n) hS n).tm
  have hD : dt n S = if (elm n S n).t < n then 0 else (elm n S n).d := rfl
  have H3 : Hid _ := c3
  clear h h1 h2 hS c3
  generalize (elm n S n).t = T at H3 hR hD
  generalize (elm n S n).d = D at H3 hD
  generalize dt n S = X at hD ⊢
  by_cases hT : T < n
  · rw [if_pos hT] at hD
    subst hD
    have iT : ((T : Nat) : Int) < (n : Int) := Int.ofNat_lt.2 hT
    clear hR hT
    go_enter Try.func36, Try.ntmps36
    go_wp2_with (first
      | (go_at_call 63; (with_reducible refine c1.mono ?_); rintro e w9 ⟨rfl, hw9⟩; have hw9 := hw9.symm; subst hw9; clear c1)
      | (go_at_call 59; (with_reducible refine c2.mono ?_); rintro e w1 ⟨rfl, hA⟩; clear c2; have c3 := H3.out w1 hA; clear hA)
      | (go_at_call 61; (with_reducible refine c3.mono ?_); rintro e w2 ⟨pv, rfl, hA2, a, cap', hpv⟩; subst hpv; clear c3; have HA : Hid _ := hA2; clear hA2))
    go_ret2
    exact ⟨rfl, HA.out⟩
  · rw [if_neg hT] at hD
    subst hD
    have eT : T = n := Nat.le_antisymm hR (Nat.le_of_not_lt hT)
    subst eT
    clear hR hT
    go_enter Try.func36, Try.ntmps36
    go_wp2_with (first
      | (go_at_call 63; (with_reducible refine c1.mono ?_); rintro e w9 ⟨rfl, hw9⟩; have hw9 := hw9.symm; subst hw9; clear c1)
      | (go_at_call 59; (with_reducible refine c2.mono ?_); rintro e w1 ⟨rfl, hA⟩; clear c2; have c3 := H3.out w1 hA; clear hA)
      | (go_at_call 61; (with_reducible refine c3.mono ?_); rintro e w2 ⟨pv, rfl, hA2, a, cap', hpv⟩; subst hpv; clear c3; have HA : Hid _ := hA2; clear hA2))
    go_ret2
    exact ⟨rfl, HA.out⟩
theorem bes_lt {l : Nat} {S T : Nat → Nat → Nat} (hS : ∀ i j, S i j < 256) (hT : ∀ i j, T i j < 256) (i j : Nat) : bes l S T i j < 256 := by
  unfold bes
  split
  · exact hS _ _
  · exact hT _ _
theorem bes_t {n : Nat} {S T : Nat → Nat → Nat} : (elm n (bes n S T) n).t = (elm n S n).t := (elm_local (m := n) (C := n) (fun i j _ hj => by unfold bes; rw [if_pos hj]) n (Nat.le_refl _)).1
/-- what a solution is. -/
def sol (n : Nat) (S T : Nat → Nat → Nat) : Nat → Nat → Nat := fun i j => (elm n (bes n S T) n).M i (n + j)
set_option maxHeartbeats 2000000 in
set_option maxRecDepth 100000 in
theorem solution10 (u v : Value) (n k : Nat) (S T : Nat → Nat → Nat) (w : World) (h : Lb w u n (fun _ => n) S) (h' : Lb w v n (fun _ => k) T) (h1 : 1 ≤ n) (h2 : n ≤ 256) (h3 : 1 ≤ k) (h4 : k ≤ 512) (hS : ∀ i j, S i j < 256) (hT : ∀ i j, T i j < 256) :
    Calls Try.prog 64 #[u, v] w fun e w' => ((elm n S n).t < n ∧ e = .returned (.tuple #[.slice none 0 0, .int .i64 102]) ∧ Below w.heap.size w w') ∨ ((elm n S n).t = n ∧ ∃ x, e = .returned (.tuple #[x, .int .i64 0]) ∧ Ans w w' x n k (sol n S T)) := by
  have c2 := beside10s u v n n k S T w h h' h1 h2 h1 (by omega) h3 h4
  have c3 : ∀ w1, AnsL w w1 w.heap.size n (n + k) (bes n S T) → Calls Try.prog 61 #[.slice (some ⟨w.heap.size, 0, none⟩) n n, .int .i64 (n : Int)] w1 fun e w2 => ∃ pv d, e = .returned (.tuple #[pv, .int .u8 (d : Nat)]) ∧ (∃ a cap, pv = .slice a (elm n S n).t cap) ∧ Below w.heap.size w w2 ∧ (∃ x y, w2.cell? ⟨w.heap.size, 0, none⟩ = some (.slice x (n + k) y)) ∧
      Calls Try.prog 59 #[.slice (some ⟨w.heap.size, 0, none⟩) n n, .int .i64 (n : Int), .int .i64 ((n + k : Nat) : Int)] w2 fun e w3 => ∃ x, e = .returned x ∧ Ans w w3 x n k (sol n S T) := fun w1 ⟨⟨B, a1, a2⟩, a3⟩ => by
    refine (elim10 w.heap.size w1.heap.size n (n + k) w.heap.size n B (bes n S T) w1 a1 a2 h1 h2 (by omega) (by omega) (bes_lt hS hT)).mono ?_
    rintro e w2 ⟨pv, rfl, ⟨B', b1, b2⟩, b3, b4, b5, b6⟩
    rw [bes_t] at b4
    refine ⟨pv, _, rfl, b4.form, a3.trans b5, ⟨_, _, b2.cell h1⟩, ?_⟩
    refine (strip10 _ n n (n + k) k (fun _ => n + k) _ w2 b1.lb h1 h2 rfl h3 (by omega) (fun _ _ => Nat.le_refl _)).mono ?_
    rintro e w3 ⟨x, rfl, hx⟩
    exact ⟨x, rfl, hx.after (a3.trans b5)⟩
  obtain ⟨b, o, cap, rfl⟩ := h.head h1
  have hR := (red_elm (m := n) hS n).tm
  have i0 : (0 : Int) < (n : Int) := Int.ofNat_lt.2 h1
  have H3 : Hid _ := c3
  clear h h' h1 h2 h3 h4 hS hT c3
  generalize (elm n S n).t = T0 at H3 hR ⊢
  generalize sol n S T = X at H3 ⊢
  generalize n + k = L at c2 H3
  by_cases hT : T0 < n
  · have iT : ((T0 : Nat) : Int) < (n : Int) := Int.ofNat_lt.2 hT
    have HT : Hid (T0 < n) := hT
    clear hR hT
    go_enter Try.func64, Try.ntmps64
    go_wp2_with (first
      | (go_at_call 60; (with_reducible refine c2.mono ?_); rintro e w1 ⟨rfl, hA⟩; clear c2; have c3 := H3.out w1 hA; clear hA)
      | (go_at_call 61; (with_reducible refine c3.mono ?_); rintro e w2 ⟨pv, d, rfl, ⟨a, cap', hpv⟩, hA2, z2, c4⟩; subst hpv; clear c3 z2 c4; have HA : Hid _ := hA2; clear hA2))
    go_ret2
    exact .inl ⟨HT.out, rfl, HA.out⟩
  · have eT : T0 = n := Nat.le_antisymm hR (Nat.le_of_not_lt hT)
    subst eT
    clear hR hT
    go_enter Try.func64, Try.ntmps64
    go_wp2_with (first
      | (go_at_call 60; (with_reducible refine c2.mono ?_); rintro e w1 ⟨rfl, hA⟩; clear c2; have c3 := H3.out w1 hA; clear hA)
      | (go_at_call 61; (with_reducible refine c3.mono ?_); rintro e w2 ⟨pv, d, rfl, ⟨a, cap', hpv⟩, hA2, ⟨x2, y2, z2⟩, c4⟩; subst hpv; clear c3 hA2)
      | (go_at_call 59; (with_reducible refine c4.mono ?_); rintro e w3 ⟨x, rfl, hx⟩; clear c4; have HA : Hid _ := hx; clear hx))
    go_ret2
    exact .inr ⟨by trivial, _, rfl, HA.out⟩
end Go.Proofs.Ytdnhidachdjgaaa
