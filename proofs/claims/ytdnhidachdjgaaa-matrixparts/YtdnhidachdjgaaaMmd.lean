import Derived.Test.YtdnhidachdjgaaaMmc
namespace Go.Proofs.Ytdnhidachdjgaaa
open Go.RowKit Gf2
set_option linter.unusedVariables false

-- layer 10: Pick, in all cases (laid by wip/genmmd.py)
def Gd10 (m : Nat) (R : Nat → Int) (i : Nat) : Prop := 0 ≤ R i ∧ R i < (m : Int)
/-- what Pick answers where the matrix has form and the list's length is good. -/
def PkP (w : World) (m n k : Nat) (S : Nat → Nat → Nat) (R : Nat → Int) (e : Ending) (w' : World) : Prop :=
  (∃ x, e = .returned (.tuple #[x, .int .i64 0]) ∧ Ans w w' x k n (fun i j => S (R i).toNat j) ∧ ∀ i, i < k → Gd10 m R i) ∨ (e = .returned (.tuple #[.slice none 0 0, .int .i64 7]) ∧ Below w.heap.size w w' ∧ ∃ i, i < k ∧ ¬ Gd10 m R i)
theorem qi_form {w : World} {v : Value} {k : Nat} {R : Nat → Int} (h : Qi w v k R) : ∃ a c, v = .slice a k c := by
  obtain ⟨-, -, a, c, e, -⟩ := h
  exact ⟨a, c, e⟩
set_option maxHeartbeats 2000000 in
set_option maxRecDepth 100000 in
theorem rpick10_no (u v : Value) (m k : Nat) (n : Nat → Nat) (S : Nat → Nat → Nat) (R : Nat → Int) (w : World) (h : Lb w u m n S) (hv : Qi w v k R) (z : Int) (hno : (¬ Fm m n ∧ z = 100) ∨ (Fm m n ∧ ¬ (1 ≤ k ∧ k ≤ 256) ∧ z = 7)) :
    Calls Try.prog 49 #[u, v] w fun e w' => e = .returned (.tuple #[.slice none 0 0, .int .i64 z]) ∧ Below w.heap.size w w' := by
  obtain ⟨av, cv, rfl⟩ := qi_form hv
  rcases hno with ⟨hf, rfl⟩ | ⟨hf, hk, rfl⟩
  · have c1 := rcheck10_b u m n S w h 100 (.inr ⟨rfl, hf⟩)
    obtain ⟨a, cap, rfl⟩ := lb_form10 h
    clear h hf hv
    go_enter Try.func49, Try.ntmps49
    go_wp2_with (go_at_call 42; (with_reducible refine c1.mono ?_); rintro e w9 ⟨rfl, b9⟩; have HB9 : Hid (Below w.heap.size w w9) := b9; clear b9)
    go_ret2
    exact ⟨rfl, HB9.out⟩
  · have c1 := rcheck10_b u m n S w h 0 (.inl ⟨rfl, hf⟩)
    obtain ⟨a, cap, rfl⟩ := lb_form10 h
    clear h hf hv
    by_cases h1 : 1 ≤ k
    · have i1 : ¬ ((k : Nat) : Int) < 1 := by omega
      have i2 : (256 : Int) < (k : Int) := by omega
      clear hk h1
      go_enter Try.func49, Try.ntmps49
      go_wp2_with (first | (go_at_call 42; (with_reducible refine c1.mono ?_); rintro e w9 ⟨rfl, b9⟩; have HB9 : Hid (Below w.heap.size w w9) := b9; clear b9))
      go_ret2
      exact ⟨rfl, HB9.out⟩
    · have i1 : ((k : Nat) : Int) < 1 := by omega
      clear hk h1
      go_enter Try.func49, Try.ntmps49
      go_wp2_with (first | (go_at_call 42; (with_reducible refine c1.mono ?_); rintro e w9 ⟨rfl, b9⟩; have HB9 : Hid (Below w.heap.size w w9) := b9; clear b9))
      go_ret2
      exact ⟨rfl, HB9.out⟩
set_option maxHeartbeats 2000000 in
set_option maxRecDepth 100000 in
theorem pick10_no (u v : Value) (m k : Nat) (n : Nat → Nat) (S : Nat → Nat → Nat) (R : Nat → Int) (w : World) (h : Lb w u m n S) (hv : Qi w v k R) (z : Int) (hno : (¬ Fm m n ∧ z = 100) ∨ (Fm m n ∧ ¬ (1 ≤ k ∧ k ≤ 256) ∧ z = 7)) :
    Calls Try.prog 27 #[u, v] w fun e w' => e = .returned (.tuple #[.slice none 0 0, .int .i64 z]) ∧ Below w.heap.size w w' := by
  obtain ⟨av, cv, rfl⟩ := qi_form hv
  rcases hno with ⟨hf, rfl⟩ | ⟨hf, hk, rfl⟩
  · have c1 := check10_no u m n S w h hf
    obtain ⟨a, cap, rfl⟩ := lb_form10 h
    clear h hf hv
    go_enter Try.func27, Try.ntmps27
    go_wp2_with (go_at_call 34; (with_reducible refine c1.mono ?_); rintro e w9 ⟨rfl, hw9⟩; have hw9 := hw9.symm; subst hw9)
    go_ret2
    exact ⟨rfl, Below.refl _ _⟩
  · have c1 := check10_yes u m n S w h hf
    obtain ⟨a, cap, rfl⟩ := lb_form10 h
    clear h hf hv
    by_cases h1 : 1 ≤ k
    · have i1 : ¬ ((k : Nat) : Int) < 1 := by omega
      have i2 : (256 : Int) < (k : Int) := by omega
      have c2 := fun x => within10_no (k : Int) 256 x (.inr i2)
      clear hk h1
      go_enter Try.func27, Try.ntmps27
      go_wp2_with (first | (go_at_call 34; (with_reducible refine c1.mono ?_); rintro e w9 ⟨rfl, hw9⟩; have hw9 := hw9.symm; subst hw9) | (go_at_call 37; (with_reducible refine (c2 _).mono ?_); rintro e w8 ⟨rfl, hw8⟩; have hw8 := hw8.symm; subst hw8))
      go_ret2
      exact ⟨rfl, Below.refl _ _⟩
    · have i1 : ((k : Nat) : Int) < 1 := by omega
      have c2 := fun x => within10_no (k : Int) 256 x (.inl i1)
      clear hk h1
      go_enter Try.func27, Try.ntmps27
      go_wp2_with (first | (go_at_call 34; (with_reducible refine c1.mono ?_); rintro e w9 ⟨rfl, hw9⟩; have hw9 := hw9.symm; subst hw9) | (go_at_call 37; (with_reducible refine (c2 _).mono ?_); rintro e w8 ⟨rfl, hw8⟩; have hw8 := hw8.symm; subst hw8))
      go_ret2
      exact ⟨rfl, Below.refl _ _⟩
set_option maxHeartbeats 4000000 in
set_option maxRecDepth 100000 in
theorem rpick10_any (u v : Value) (m n k : Nat) (S : Nat → Nat → Nat) (R : Nat → Int) (w : World) (h : Lb w u m (fun _ => n) S) (hv : Qi w v k R) (h1 : 1 ≤ m) (h2 : m ≤ 256) (h3 : 1 ≤ n) (h4 : n ≤ 512) (h5 : 1 ≤ k) (h6 : k ≤ 256) :
    Calls Try.prog 49 #[u, v] w (PkP w m n k S R) := by
  have c1 := rcheck10_b u m (fun _ => n) S w h 0 (.inl ⟨rfl, fm_n h1 h2 h3 h4⟩)
  have c4 := fun x => rzeros10 k n x (by omega) (by omega)
  obtain ⟨b, o, cap, rfl, hU⟩ := rows10 h h1
  obtain ⟨g1, -, a', cap', rfl, -, -, g4⟩ := hv
  obtain ⟨b', o', rfl, hl', hc'⟩ := g4 (by omega)
  have i0 : (0 : Int) < (m : Int) := Int.ofNat_lt.2 h1
  have i1 : ¬ ((k : Nat) : Int) < 1 := by omega
  have i2 : ¬ (256 : Int) < (k : Int) := by omega
  have HK : Hid (k ≤ 1000 ∧ k ≤ big ∧ n ≤ big ∧ 1 ≤ m) := ⟨by omega, by unfold big; omega, by unfold big; omega, h1⟩
  have HU : Hid _ := hU
  have HC : Hid (∀ y, Below w.heap.size w y → ∀ i, i < k → y.cell? ⟨b', o' + i, none⟩ = some (.int .i64 (R i))) := fun y hy i hi => (hy.cell (p := ⟨b', o' + i, none⟩) hl').trans (hc' i hi)
  clear h h1 h2 h3 h4 h5 h6 hU hc' g4 g1
  go_enter Try.func49, Try.ntmps49
  go_wp2_with (first | (go_at_call 42; (with_reducible refine c1.mono ?_); rintro e w9 ⟨rfl, b9⟩; have H9 : Hid (Below w.heap.size w w9) := b9; clear b9; obtain ⟨x0, y0, z0, -⟩ := HU.out w9 H9.out 0 HK.out.2.2.2; rw [Nat.add_zero] at z0; clear c1) | (go_at_call 68; (with_reducible refine (c4 _).mono ?_); rintro e w1 ⟨rfl, hz⟩))
  clear c4 z0 i0 i1 i2
  have hC := hz.cs HK.out.2.1 HK.out.2.2.1
  have hb1 := hz.bel
  clear hz
  generalize hB : (fun i => w9.heap.size + 1 + i) = B at hC
  clear hB
  go_loopw [7] (fun i wr => ∃ r : Nat, Hid (r ≤ k ∧ ∀ i, i < r → Gd10 m R i) ∧ i = .int .i64 r ∧ Cs w9.heap.size w1.heap.size wr (.slice (some ⟨w9.heap.size, 0, none⟩) k k) k (fun _ => n) (fun _ => n) B (fil (fun i j => S (R i).toNat j) (fun _ _ => 0) r 0) ∧ Below w9.heap.size w9 wr) (fun i _ => k - (intOf i).toNat)
  case atStart => exact ⟨0, ⟨Nat.zero_le _, fun i hi => absurd hi (Nat.not_lt_zero _)⟩, rfl, hC.fil_start _, hb1⟩
  case round =>
    obtain ⟨r, hr, rfl, hC', hb'⟩ := hrel
    clear hC hb1
    by_cases hlt : r < k
    · have hbw := bthen10 H9.out hb'
      have q0 := HC.out wr hbw r hlt
      have ib : ((r : Nat) : Int) < (k : Int) := Int.ofNat_lt.2 hlt
      have W1 := wrap_lt8 hlt HK.out.1
      by_cases hg : Gd10 m R r
      · obtain ⟨rr, hrr⟩ : ∃ rr : Nat, rr = (R r).toNat := ⟨_, rfl⟩
        have eR : R r = (rr : Int) := by have := hg.1; omega
        have hRm : rr < m := by have := hg.2; omega
        rw [eR] at q0
        obtain ⟨x, cx, q1, hrb⟩ := HU.out wr.drew hbw.drew rr hRm
        have q2 : wr.drew.cell? ⟨w9.heap.size, r, none⟩ = some (.slice (some ⟨B r, 0, none⟩) n n) := hC'.at_ hlt
        have q0d : wr.drew.cell? ⟨b', o' + r, none⟩ = some (.int .i64 (rr : Int)) := q0
        have iR0 : ¬ ((rr : Nat) : Int) < 0 := by omega
        have iR : ((rr : Nat) : Int) < (m : Int) := Int.ofNat_lt.2 hRm
        have iR2 : ¬ (m : Int) ≤ ((rr : Nat) : Int) := by omega
        have HX : Hid (r < k ∧ ∀ i, i < r + 1 → Gd10 m R i) := ⟨hlt, fun i hi => by
          by_cases e : i = r
          · rw [e]; exact hg
          · exact hr.out.2 i (by omega)⟩
        have hC2 : Cs w9.heap.size w1.heap.size wr.drew (.slice (some ⟨w9.heap.size, 0, none⟩) k k) k (fun _ => n) (fun _ => n) B (fil (fun i j => S (R i).toNat j) (fun _ _ => 0) r 0) := hC'.drewN 1
        obtain ⟨w5, hrun, hr5, ho5⟩ := copy10 (o := 0) (dl := n) (cap := n) (hC2.row r hlt).2.2.2 hrb (Nat.le_of_eq (Nat.zero_add n)) (Nat.le_refl n)
        have HE : Hid (Cs w9.heap.size w1.heap.size w5 (.slice (some ⟨w9.heap.size, 0, none⟩) k k) k (fun _ => n) (fun _ => n) B (fil (fun i j => S (R i).toNat j) (fun _ _ => 0) (r + 1) 0) ∧ Below w9.heap.size w9 w5) := ⟨(hC2.turn1 hlt ho5.kp hr5).congr (fun i _ j hj => by
          have hj : j < n := hj
          unfold fil
          by_cases e : i = r
          · subst e
            rw [upn_same, if_pos (by omega)]
            unfold pl
            rw [if_pos (by omega), Nat.sub_zero, hrr]
          · rw [upn_other _ _ e]
            by_cases e2 : i < r
            · rw [if_pos (by omega), if_pos (by omega)]
            · rw [if_neg (by omega), if_neg (by omega)]), (below_drewM hb' 1).trans (ho5.kp.below (hC2.row r hlt).1 (below_drewM hb' 1).size)⟩
        clear hC' hb' hrb hlt hr hC2 hr5 ho5 HU HC hRm hbw hg hrr eR
        go_wp2
        refine region_planT (fun w' => w'.cell? ⟨w9.heap.size, r, none⟩ = some (.slice (some ⟨B r, 0, none⟩) n n) ∧ w'.cell? ⟨b, o + rr, none⟩ = some (.slice x n cx) ∧ w'.cell? ⟨b', o' + r, none⟩ = some (.int .i64 (rr : Int))) 11 [11] 59 ⟨q2, q1, q0d⟩ (by kernel_rfl) (by kernel_rfl) (fun _ a d v _ h => by cases d <;> exact h) ?_
        refine planT_last ?A2x0 rfl (fun w' hS => ?s2x0) rfl ?n2x0
        case s2x0 =>
          obtain ⟨g1, g2, g3⟩ := hS
          simp only [List.take_succ_cons, List.take_zero]
          repeat still_step
          exact rfl
        case n2x0 =>
        simp only [List.drop_succ_cons, List.drop_zero]
        go_wp2
        go_roundw
        case rel => first | exact ⟨r + 1, ⟨HX.out.1, HX.out.2⟩, by first | rfl | (rw [W1]; rfl), HE.out.1, HE.out.2⟩ | (rw [W1]; (repeat apply Exists.intro); exact ⟨⟨r + 1, ⟨HX.out.1, HX.out.2⟩, rfl, HE.out.1, HE.out.2⟩, rfl⟩)
        case measure => first | exact meas_lt8 HX.out.1 | (rw [W1]; exact meas_lt8 HX.out.1)
      · have HX : Hid (∃ i, i < k ∧ ¬ Gd10 m R i) := ⟨r, hlt, hg⟩
        have HB : Hid (Below w.heap.size w wr) := hbw
        by_cases hn0 : R r < 0
        · clear hC' hb' hlt hr hbw hg HU HC
          go_wp2
          go_ret2
          exact .inr ⟨rfl, HB.out, HX.out⟩
        · have hm0 : (m : Int) ≤ R r := by unfold Gd10 at hg; omega
          clear hC' hb' hlt hr hbw hg HU HC
          go_wp2
          go_ret2
          exact .inr ⟨rfl, HB.out, HX.out⟩
    · have hrm : r = k := Nat.le_antisymm hr.out.1 (Nat.le_of_not_lt hlt)
      subst hrm
      have ib : ¬ ((r : Nat) : Int) < (r : Int) := Int.lt_irrefl _
      have HG : Hid (∀ i, i < r → Gd10 m R i) := hr.out.2
      clear hr hlt
      go_wp2
      go_ret2
      exact .inl ⟨_, rfl, (hC'.fil_end.ans (Nat.le_refl _) hb').after H9.out, HG.out⟩
set_option maxHeartbeats 4000000 in
set_option maxRecDepth 100000 in
theorem pick10_any (u v : Value) (m n k : Nat) (S : Nat → Nat → Nat) (R : Nat → Int) (w : World) (h : Lb w u m (fun _ => n) S) (hv : Qi w v k R) (h1 : 1 ≤ m) (h2 : m ≤ 256) (h3 : 1 ≤ n) (h4 : n ≤ 512) (h5 : 1 ≤ k) (h6 : k ≤ 256) :
    Calls Try.prog 27 #[u, v] w (PkP w m n k S R) := by
  have c1 := check10_yes u m (fun _ => n) S w h (fm_n h1 h2 h3 h4)
  have c2 := fun x => within10_yes (k : Int) 256 x (by omega) (by omega)
  have c4 := fun x => zeros10_any k n x (by omega) (by omega)
  obtain ⟨b, o, cap, rfl, hU⟩ := rows10 h h1
  obtain ⟨g1, -, a', cap', rfl, -, -, g4⟩ := hv
  obtain ⟨b', o', rfl, hl', hc'⟩ := g4 (by omega)
  have i0 : (0 : Int) < (m : Int) := Int.ofNat_lt.2 h1
  have i1 : ¬ ((k : Nat) : Int) < 1 := by omega
  have i2 : ¬ (256 : Int) < (k : Int) := by omega
  have HK : Hid (k ≤ 1000 ∧ k ≤ big ∧ n ≤ big ∧ 1 ≤ m) := ⟨by omega, by unfold big; omega, by unfold big; omega, h1⟩
  have HU : Hid _ := hU
  have HC : Hid (∀ y, Below w.heap.size w y → ∀ i, i < k → y.cell? ⟨b', o' + i, none⟩ = some (.int .i64 (R i))) := fun y hy i hi => (hy.cell (p := ⟨b', o' + i, none⟩) hl').trans (hc' i hi)
  clear h h1 h2 h3 h4 h5 h6 hU hc' g4 g1
  go_enter Try.func27, Try.ntmps27
  go_wp2_with (first | (go_at_call 34; (with_reducible refine c1.mono ?_); rintro e w9 ⟨rfl, hw9⟩; have H9 : Hid (Below w.heap.size w w9) := (by rw [hw9]; exact Below.refl _ _ : Below w.heap.size w w9); clear hw9; obtain ⟨x0, y0, z0, -⟩ := HU.out w9 H9.out 0 HK.out.2.2.2; rw [Nat.add_zero] at z0; clear c1) | (go_at_call 37; (with_reducible refine (c2 _).mono ?_); rintro e w8 ⟨rfl, hw8⟩; have hw8 := hw8.symm; subst hw8; clear c2) | (go_at_call 39; (with_reducible refine (c4 _).mono ?_); rintro e w1 ⟨rfl, hz⟩))
  clear c4 z0 i0 i1 i2
  have hC := hz.cs HK.out.2.1 HK.out.2.2.1
  have hb1 := hz.bel
  clear hz
  generalize hB : (fun i => w9.heap.size + 1 + i) = B at hC
  clear hB
  go_loopw [28] (fun i wr => ∃ r : Nat, Hid (r ≤ k ∧ ∀ i, i < r → Gd10 m R i) ∧ i = .int .i64 r ∧ Cs w9.heap.size w1.heap.size wr (.slice (some ⟨w9.heap.size, 0, none⟩) k k) k (fun _ => n) (fun _ => n) B (fil (fun i j => S (R i).toNat j) (fun _ _ => 0) r 0) ∧ Below w9.heap.size w9 wr) (fun i _ => k - (intOf i).toNat)
  case atStart => exact ⟨0, ⟨Nat.zero_le _, fun i hi => absurd hi (Nat.not_lt_zero _)⟩, rfl, hC.fil_start _, hb1⟩
  case round =>
    obtain ⟨r, hr, rfl, hC', hb'⟩ := hrel
    clear hC hb1
    by_cases hlt : r < k
    · have hbw := bthen10 H9.out hb'
      have q0 := HC.out wr hbw r hlt
      have ib : ((r : Nat) : Int) < (k : Int) := Int.ofNat_lt.2 hlt
      have W1 := wrap_lt8 hlt HK.out.1
      by_cases hg : Gd10 m R r
      · obtain ⟨rr, hrr⟩ : ∃ rr : Nat, rr = (R r).toNat := ⟨_, rfl⟩
        have eR : R r = (rr : Int) := by have := hg.1; omega
        have hRm : rr < m := by have := hg.2; omega
        rw [eR] at q0
        obtain ⟨x, cx, q1, hrb⟩ := HU.out wr.drew hbw.drew rr hRm
        have q2 : wr.drew.cell? ⟨w9.heap.size, r, none⟩ = some (.slice (some ⟨B r, 0, none⟩) n n) := hC'.at_ hlt
        have q0d : wr.drew.cell? ⟨b', o' + r, none⟩ = some (.int .i64 (rr : Int)) := q0
        have iR0 : ¬ ((rr : Nat) : Int) < 0 := by omega
        have iR : ((rr : Nat) : Int) < (m : Int) := Int.ofNat_lt.2 hRm
        have iR2 : ¬ (m : Int) ≤ ((rr : Nat) : Int) := by omega
        have HX : Hid (r < k ∧ ∀ i, i < r + 1 → Gd10 m R i) := ⟨hlt, fun i hi => by
          by_cases e : i = r
          · rw [e]; exact hg
          · exact hr.out.2 i (by omega)⟩
        have hC2 : Cs w9.heap.size w1.heap.size wr.drew (.slice (some ⟨w9.heap.size, 0, none⟩) k k) k (fun _ => n) (fun _ => n) B (fil (fun i j => S (R i).toNat j) (fun _ _ => 0) r 0) := hC'.drewN 1
        obtain ⟨w5, hrun, hr5, ho5⟩ := copy10 (o := 0) (dl := n) (cap := n) (hC2.row r hlt).2.2.2 hrb (Nat.le_of_eq (Nat.zero_add n)) (Nat.le_refl n)
        have HE : Hid (Cs w9.heap.size w1.heap.size w5 (.slice (some ⟨w9.heap.size, 0, none⟩) k k) k (fun _ => n) (fun _ => n) B (fil (fun i j => S (R i).toNat j) (fun _ _ => 0) (r + 1) 0) ∧ Below w9.heap.size w9 w5) := ⟨(hC2.turn1 hlt ho5.kp hr5).congr (fun i _ j hj => by
          have hj : j < n := hj
          unfold fil
          by_cases e : i = r
          · subst e
            rw [upn_same, if_pos (by omega)]
            unfold pl
            rw [if_pos (by omega), Nat.sub_zero, hrr]
          · rw [upn_other _ _ e]
            by_cases e2 : i < r
            · rw [if_pos (by omega), if_pos (by omega)]
            · rw [if_neg (by omega), if_neg (by omega)]), (below_drewM hb' 1).trans (ho5.kp.below (hC2.row r hlt).1 (below_drewM hb' 1).size)⟩
        clear hC' hb' hrb hlt hr hC2 hr5 ho5 HU HC hRm hbw hg hrr eR
        go_wp2
        refine region_planT (fun w' => w'.cell? ⟨w9.heap.size, r, none⟩ = some (.slice (some ⟨B r, 0, none⟩) n n) ∧ w'.cell? ⟨b, o + rr, none⟩ = some (.slice x n cx) ∧ w'.cell? ⟨b', o' + r, none⟩ = some (.int .i64 (rr : Int))) 8 [8] 52 ⟨q2, q1, q0d⟩ (by kernel_rfl) (by kernel_rfl) (fun _ a d v _ h => by cases d <;> exact h) ?_
        refine planT_last ?A2x0 rfl (fun w' hS => ?s2x0) rfl ?n2x0
        case s2x0 =>
          obtain ⟨g1, g2, g3⟩ := hS
          simp only [List.take_succ_cons, List.take_zero]
          repeat still_step
          exact rfl
        case n2x0 =>
        simp only [List.drop_succ_cons, List.drop_zero]
        go_wp2
        go_roundw
        case rel => first | exact ⟨r + 1, ⟨HX.out.1, HX.out.2⟩, by first | rfl | (rw [W1]; rfl), HE.out.1, HE.out.2⟩ | (rw [W1]; (repeat apply Exists.intro); exact ⟨⟨r + 1, ⟨HX.out.1, HX.out.2⟩, rfl, HE.out.1, HE.out.2⟩, rfl⟩)
        case measure => first | exact meas_lt8 HX.out.1 | (rw [W1]; exact meas_lt8 HX.out.1)
      · have HX : Hid (∃ i, i < k ∧ ¬ Gd10 m R i) := ⟨r, hlt, hg⟩
        have HB : Hid (Below w.heap.size w wr) := hbw
        by_cases hn0 : R r < 0
        · clear hC' hb' hlt hr hbw hg HU HC
          go_wp2
          go_ret2
          exact .inr ⟨rfl, HB.out, HX.out⟩
        · have hm0 : (m : Int) ≤ R r := by unfold Gd10 at hg; omega
          clear hC' hb' hlt hr hbw hg HU HC
          go_wp2
          go_ret2
          exact .inr ⟨rfl, HB.out, HX.out⟩
    · have hrm : r = k := Nat.le_antisymm hr.out.1 (Nat.le_of_not_lt hlt)
      subst hrm
      have ib : ¬ ((r : Nat) : Int) < (r : Int) := Int.lt_irrefl _
      have HG : Hid (∀ i, i < r → Gd10 m R i) := hr.out.2
      clear hr hlt
      go_wp2
      go_ret2
      exact .inl ⟨_, rfl, (hC'.fil_end.ans (Nat.le_refl _) hb').after H9.out, HG.out⟩
end Go.Proofs.Ytdnhidachdjgaaa
