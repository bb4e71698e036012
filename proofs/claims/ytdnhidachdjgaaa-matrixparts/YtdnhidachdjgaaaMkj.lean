import Derived.Test.YtdnhidachdjgaaaMmh
import Derived.Deep.RegionHeld
namespace Go.Proofs.Ytdnhidachdjgaaa
open Go.RowKit Gf2
set_option linter.unusedVariables false

-- layer 10: a call of parts and the document's, by cases
/-- append([]int{}, rows...). -/
theorem app_ints10 (w : World) {g k : Nat} {x : Option Addr} {c : Nat} {R : Nat → Int} (h : Qi w (.slice x k c) k R) (hk : 8 * k ≤ 140737488351232) :
    ∃ w' g' C', (Builtin.append_ #[27, 27] 27 #[.slice (some ⟨g, 0, none⟩) 0 0, .slice x k c]).run Try.prog w = .ok (.slice (some ⟨g', 0, none⟩) k C') w' ∧ Qi w' (.slice (some ⟨g', 0, none⟩) k C') k R ∧ Below w.heap.size w w' := by
  obtain ⟨ti, hi, hz, hs1, hb1⟩ := info_inta
  by_cases h0 : k = 0
  · subst h0
    have hs' : Src Try.prog ti.size 27 (.slice x 0 c) 0 [] w := by
      cases x with
      | none => exact Src.ofNil w Try.underlying27 c
      | some b => exact Src.ofSlice w Try.underlying27 b 0 c [] (by simp) (fun j u h => by simp at h) (fun u h => by cases h)
    exact ⟨w, g, 0, run_append_nothing w 27 27 27 3 ti Try.underlying27 hi _ 0 0 (Nat.le_refl _) _ hs', ⟨by decide, trivial, _, _, rfl, Nat.le_refl _, by decide, fun h => absurd h (Nat.lt_irrefl _)⟩, Below.refl _ _⟩
  · obtain ⟨-, -, a, cap, e, h5, h6, h4⟩ := h
    cases e
    obtain ⟨b, o, rfl, hbl, hc⟩ := h4 (by omega)
    have ea : ∀ j, (⟨b, o, none⟩ : Addr).add j = ⟨b, o + j, none⟩ := fun j => by unfold Addr.add; split <;> simp_all
    have hs : Src Try.prog ti.size 27 (.slice (some ⟨b, o, none⟩) k c) k (bi k R) w := Src.ofSlice w Try.underlying27 ⟨b, o, none⟩ k c (bi k R) (by rw [bi_len, hs1, Nat.mul_one]) (fun j u h => by
      have hj : j < k := by
        rcases Nat.lt_or_ge j k with h9 | h9
        · exact h9
        · rw [List.getElem?_eq_none (by rw [bi_len]; exact h9)] at h; cases h
      rw [bi_get k _ j hj] at h
      cases h
      rw [ea]
      exact hc j hj) bi_one
    have hold : (Builtin.firstCells ti.size 0 (.slice (some ⟨g, 0, none⟩) 0 0)).run Try.prog w.drew = .ok (([] : List Value)).toArray w.drew :=
      run_firstCells_some w.drew ti.size 0 ⟨g, 0, none⟩ 0 0 [] (by simp) (fun j u hu => by simp at hu)
    have hrun := run_append_grow_src w 27 27 27 3 ti (Value.int .i64 0) Try.underlying27 hi hz (some ⟨g, 0, none⟩) 0 0 [] hold _ k (bi k R) hs (by omega) (by omega) (growslice_fits (by omega) (by rw [hb1]; omega))
    have hge := grownCap_ge w (0 + k) 0 3
    have hcm := grownCap_le_maxLen w (0 + k) 0 3 (by unfold maxLen; omega)
    obtain ⟨C', hC'⟩ : ∃ C', C' = grownCap w (0 + k) 0 3 := ⟨_, rfl⟩
    rw [← hC'] at hrun hge hcm
    rw [Nat.zero_add] at hrun hge
    refine ⟨_, w.heap.size, C', hrun, ⟨by unfold big; omega, trivial, _, _, rfl, hge, by unfold big; unfold maxLen at hcm; exact hcm, fun _ => ⟨w.heap.size, 0, rfl, by simp, fun i hi => ?_⟩⟩, (((Below.refl w.heap.size w).drew).alloc (by simp) _)⟩
    refine (cell_of_row _ w.drew.heap.size (0 + i) _ _ _ (heap_alloc_new _ _)).trans ?_
    rw [Nat.zero_add, List.nil_append, Array.getElem?_append_left (by simp [bi_len]; omega), List.getElem?_toArray, bi_get _ _ _ hi]
/-- the two answers hold the same. -/
def Tp10 (W w1 w2 : World) (x y : Value) : Prop := Below W.heap.size W w2 ∧ Hid (Eq10 w2 x y)
theorem two_no10 {W w2 : World} (hb : Below W.heap.size W w2) : Below W.heap.size W w2 ∧ Hid (Eq10 w2 (.slice none 0 0) (.slice none 0 0)) := ⟨hb, 0, _, _, lb_nil10 _, lb_nil10 _⟩
/-- Mul, Augment: in all cases, over twins t, s of u, v. -/
theorem tw10_mul (u v t s : Value) (m m' : Nat) (n n' : Nat → Nat) (S S' : Nat → Nat → Nat) (W : World) (h : Lb W u m n S) (h' : Lb W v m' n' S') (ht : Lb W t m n S) (hs : Lb W s m' n' S') :
    Calls Try.prog 24 #[t, s] W fun e w1 => ∃ x z, e = .returned (.tuple #[x, .int .i64 z]) ∧ Below W.heap.size W w1 ∧
      Calls Try.prog 46 #[u, v] w1 fun e w2 => ∃ y, e = .returned (.tuple #[y, .int .i64 z]) ∧ Below W.heap.size W w2 ∧ Hid (Eq10 w2 x y) := by
  have no : ∀ z : Int, (¬ (Fm m n ∧ Fm m' n') ∧ z = 100) ∨ (Fm m n ∧ Fm m' n' ∧ n 0 ≠ m' ∧ z = 101) → Calls Try.prog 24 #[t, s] W fun e w1 => ∃ x z, e = .returned (.tuple #[x, .int .i64 z]) ∧ Below W.heap.size W w1 ∧
      Calls Try.prog 46 #[u, v] w1 fun e w2 => ∃ y, e = .returned (.tuple #[y, .int .i64 z]) ∧ Below W.heap.size W w2 ∧ Hid (Eq10 w2 x y) := fun z hz => by
    refine (mul10_no t s m m' n n' S S' W ht hs z hz).mono fun e w1 ⟨he, hw⟩ => ⟨_, z, he, by rw [hw]; exact Below.refl _ _, ?_⟩
    rw [hw]
    exact (rmul10_no u v m m' n n' S S' W h h' z hz).mono fun e w2 ⟨he, b2⟩ => ⟨_, he, two_no10 b2⟩
  by_cases hf : Fm m n ∧ Fm m' n'
  · by_cases hd : n 0 = m'
    · subst hd
      obtain ⟨f1, f2⟩ := hf
      refine (mul10_yes t s m (n 0) (n' 0) S S' W (fm_lb ht f1) (fm_lb hs f2) f1.1 f1.2.1 f2.1 f2.2.1 f2.2.2.1 f2.2.2.2.1).mono fun e w1 ⟨x, he, h1⟩ => ⟨x, 0, he, h1.2, ?_⟩
      exact (rmul10_yes u v m (n 0) (n' 0) S S' w1 (fm_lb (Lb.below h h1.2) f1) (fm_lb (Lb.below h' h1.2) f2) f1.1 f1.2.1 f2.1 f2.2.1 f2.2.2.1 f2.2.2.2.1).mono fun e w2 ⟨y, he, h2⟩ => ⟨y, he, ans_two h1 h2⟩
    · exact no 101 (.inr ⟨hf.1, hf.2, hd, rfl⟩)
  · exact no 100 (.inl ⟨hf, rfl⟩)
theorem tw10_aug (u v t s : Value) (m m' : Nat) (n n' : Nat → Nat) (S S' : Nat → Nat → Nat) (W : World) (h : Lb W u m n S) (h' : Lb W v m' n' S') (ht : Lb W t m n S) (hs : Lb W s m' n' S') :
    Calls Try.prog 28 #[t, s] W fun e w1 => ∃ x z, e = .returned (.tuple #[x, .int .i64 z]) ∧ Below W.heap.size W w1 ∧
      Calls Try.prog 50 #[u, v] w1 fun e w2 => ∃ y, e = .returned (.tuple #[y, .int .i64 z]) ∧ Below W.heap.size W w2 ∧ Hid (Eq10 w2 x y) := by
  have no : ∀ z : Int, (¬ (Fm m n ∧ Fm m' n') ∧ z = 100) ∨ (Fm m n ∧ Fm m' n' ∧ ¬ Au10 m m' n n' ∧ z = 101) → Calls Try.prog 28 #[t, s] W fun e w1 => ∃ x z, e = .returned (.tuple #[x, .int .i64 z]) ∧ Below W.heap.size W w1 ∧
      Calls Try.prog 50 #[u, v] w1 fun e w2 => ∃ y, e = .returned (.tuple #[y, .int .i64 z]) ∧ Below W.heap.size W w2 ∧ Hid (Eq10 w2 x y) := fun z hz => by
    refine (aug10_no t s m m' n n' S S' W ht hs z hz).mono fun e w1 ⟨he, b1⟩ => ⟨_, z, he, b1, ?_⟩
    exact (raug10_no u v m m' n n' S S' w1 (Lb.below h b1) (Lb.below h' b1) z hz).mono fun e w2 ⟨he, b2⟩ => ⟨_, he, two_no10 (bthen10 b1 b2)⟩
  by_cases hf : Fm m n ∧ Fm m' n'
  · by_cases hd : Au10 m m' n n'
    · obtain ⟨f1, f2⟩ := hf
      obtain ⟨rfl, hd⟩ := hd
      refine (aug10_yes t s m (n 0) (n' 0) S S' W (fm_lb ht f1) (fm_lb hs f2) f1.1 f1.2.1 f1.2.2.1 f2.2.2.1 hd).mono fun e w1 ⟨x, he, h1⟩ => ⟨x, 0, he, h1.2, ?_⟩
      exact (raug10_yes u v m (n 0) (n' 0) S S' w1 (fm_lb (Lb.below h h1.2) f1) (fm_lb (Lb.below h' h1.2) f2) f1.1 f1.2.1 f1.2.2.1 f2.2.2.1 hd).mono fun e w2 ⟨y, he, h2⟩ => ⟨y, he, ans_two h1 h2⟩
    · exact no 101 (.inr ⟨hf.1, hf.2, hd, rfl⟩)
  · exact no 100 (.inl ⟨hf, rfl⟩)
theorem tw10_trans (u t : Value) (m : Nat) (n : Nat → Nat) (S : Nat → Nat → Nat) (W : World) (h : Lb W u m n S) (ht : Lb W t m n S) :
    Calls Try.prog 25 #[t] W fun e w1 => ∃ x z, e = .returned (.tuple #[x, .int .i64 z]) ∧ Below W.heap.size W w1 ∧
      Calls Try.prog 47 #[u] w1 fun e w2 => ∃ y, e = .returned (.tuple #[y, .int .i64 z]) ∧ Below W.heap.size W w2 ∧ Hid (Eq10 w2 x y) := by
  by_cases hf : Fm m n ∧ n 0 ≤ 256
  · obtain ⟨f1, f2⟩ := hf
    refine (transpose10_yes t m (n 0) S W (fm_lb ht f1) f1.1 f1.2.1 f1.2.2.1 f2).mono fun e w1 ⟨x, he, h1⟩ => ⟨x, 0, he, h1.2, ?_⟩
    exact (rtrans10_yes u m (n 0) S w1 (fm_lb (Lb.below h h1.2) f1) f1.1 f1.2.1 f1.2.2.1 f2).mono fun e w2 ⟨y, he, h2⟩ => ⟨y, he, ans_two h1 h2⟩
  · refine (trans10_no t m n S W ht hf).mono fun e w1 ⟨he, hw⟩ => ⟨_, 100, he, by rw [hw]; exact Below.refl _ _, ?_⟩
    rw [hw]
    exact (rtrans10_no u m n S W h hf).mono fun e w2 ⟨he, b2⟩ => ⟨_, he, two_no10 b2⟩
theorem tw10_sub (u t : Value) (m : Nat) (n : Nat → Nat) (S : Nat → Nat → Nat) (r0 r1 c0 c1 : Int) (W : World) (h : Lb W u m n S) (ht : Lb W t m n S) :
    Calls Try.prog 26 #[t, .int .i64 r0, .int .i64 r1, .int .i64 c0, .int .i64 c1] W fun e w1 => ∃ x z, e = .returned (.tuple #[x, .int .i64 z]) ∧ Below W.heap.size W w1 ∧
      Calls Try.prog 48 #[u, .int .i64 r0, .int .i64 r1, .int .i64 c0, .int .i64 c1] w1 fun e w2 => ∃ y, e = .returned (.tuple #[y, .int .i64 z]) ∧ Below W.heap.size W w2 ∧ Hid (Eq10 w2 x y) := by
  have no : ∀ z : Int, (¬ Fm m n ∧ z = 100) ∨ (Fm m n ∧ ¬ Sr10 m (n 0) r0 r1 c0 c1 ∧ z = 7) → Calls Try.prog 26 #[t, .int .i64 r0, .int .i64 r1, .int .i64 c0, .int .i64 c1] W fun e w1 => ∃ x z, e = .returned (.tuple #[x, .int .i64 z]) ∧ Below W.heap.size W w1 ∧
      Calls Try.prog 48 #[u, .int .i64 r0, .int .i64 r1, .int .i64 c0, .int .i64 c1] w1 fun e w2 => ∃ y, e = .returned (.tuple #[y, .int .i64 z]) ∧ Below W.heap.size W w2 ∧ Hid (Eq10 w2 x y) := fun z hz => by
    refine (sub10_no t m n S r0 r1 c0 c1 W ht z hz).mono fun e w1 ⟨he, hw⟩ => ⟨_, z, he, by rw [hw]; exact Below.refl _ _, ?_⟩
    rw [hw]
    exact (rsub10_no u m n S r0 r1 c0 c1 W h z hz).mono fun e w2 ⟨he, b2⟩ => ⟨_, he, two_no10 b2⟩
  by_cases hf : Fm m n
  · by_cases hd : Sr10 m (n 0) r0 r1 c0 c1
    · obtain ⟨d1, d2, d3, d4, d5, d6⟩ := hd
      obtain ⟨a, rfl⟩ := Int.eq_ofNat_of_zero_le d1
      obtain ⟨b, rfl⟩ := Int.eq_ofNat_of_zero_le (show 0 ≤ r1 by omega)
      obtain ⟨c, rfl⟩ := Int.eq_ofNat_of_zero_le d4
      obtain ⟨d, rfl⟩ := Int.eq_ofNat_of_zero_le (show 0 ≤ c1 by omega)
      refine (sub10_yes t m (n 0) a b c d (b - a) (d - c) S W (fm_lb ht hf) hf.1 hf.2.1 hf.2.2.1 hf.2.2.2.1 (by omega) (by omega) (by omega) (by omega) (by omega) (by omega)).mono fun e w1 ⟨x, he, h1⟩ => ⟨x, 0, he, h1.2, ?_⟩
      exact (rsub10_yes u m (n 0) a b c d (b - a) (d - c) S w1 (fm_lb (Lb.below h h1.2) hf) hf.1 hf.2.1 hf.2.2.1 hf.2.2.2.1 (by omega) (by omega) (by omega) (by omega) (by omega) (by omega)).mono fun e w2 ⟨y, he, h2⟩ => ⟨y, he, ans_two h1 h2⟩
    · exact no 7 (.inr ⟨hf, hd, rfl⟩)
  · exact no 100 (.inl ⟨hf, rfl⟩)
theorem tw10_pick (u t v s : Value) (m k : Nat) (n : Nat → Nat) (S : Nat → Nat → Nat) (R : Nat → Int) (W : World) (h : Lb W u m n S) (ht : Lb W t m n S) (hv : Qi W v k R) (hs : Qi W s k R) :
    Calls Try.prog 27 #[t, s] W fun e w1 => ∃ x z, e = .returned (.tuple #[x, .int .i64 z]) ∧ Below W.heap.size W w1 ∧
      Calls Try.prog 49 #[u, v] w1 fun e w2 => ∃ y, e = .returned (.tuple #[y, .int .i64 z]) ∧ Below W.heap.size W w2 ∧ Hid (Eq10 w2 x y) := by
  have no : ∀ z : Int, (¬ Fm m n ∧ z = 100) ∨ (Fm m n ∧ ¬ (1 ≤ k ∧ k ≤ 256) ∧ z = 7) → Calls Try.prog 27 #[t, s] W fun e w1 => ∃ x z, e = .returned (.tuple #[x, .int .i64 z]) ∧ Below W.heap.size W w1 ∧
      Calls Try.prog 49 #[u, v] w1 fun e w2 => ∃ y, e = .returned (.tuple #[y, .int .i64 z]) ∧ Below W.heap.size W w2 ∧ Hid (Eq10 w2 x y) := fun z hz => by
    refine (pick10_no t s m k n S R W ht hs z hz).mono fun e w1 ⟨he, b1⟩ => ⟨_, z, he, b1, ?_⟩
    exact (rpick10_no u v m k n S R w1 (Lb.below h b1) (hv.below b1) z hz).mono fun e w2 ⟨he, b2⟩ => ⟨_, he, two_no10 (bthen10 b1 b2)⟩
  by_cases hf : Fm m n
  · by_cases hd : 1 ≤ k ∧ k ≤ 256
    · refine (pick10_any t s m (n 0) k S R W (fm_lb ht hf) hs hf.1 hf.2.1 hf.2.2.1 hf.2.2.2.1 hd.1 hd.2).mono fun e w1 hP => ?_
      rcases hP with ⟨x, he, h1, hg⟩ | ⟨he, b1, i, hi, hg⟩
      · refine ⟨x, 0, he, h1.2, ?_⟩
        refine (rpick10_any u v m (n 0) k S R w1 (fm_lb (Lb.below h h1.2) hf) (hv.below h1.2) hf.1 hf.2.1 hf.2.2.1 hf.2.2.2.1 hd.1 hd.2).mono fun e w2 hQ => ?_
        rcases hQ with ⟨y, he, h2, -⟩ | ⟨he, b2, i, hi, hn⟩
        · exact ⟨y, he, ans_two h1 h2⟩
        · exact absurd (hg i hi) hn
      · refine ⟨_, 7, he, b1, ?_⟩
        refine (rpick10_any u v m (n 0) k S R w1 (fm_lb (Lb.below h b1) hf) (hv.below b1) hf.1 hf.2.1 hf.2.2.1 hf.2.2.2.1 hd.1 hd.2).mono fun e w2 hQ => ?_
        rcases hQ with ⟨y, he, h2, hg2⟩ | ⟨he, b2, -⟩
        · exact absurd (hg2 i hi) hg
        · exact ⟨_, he, two_no10 (bthen10 b1 b2)⟩
    · exact no 7 (.inr ⟨hf, hd, rfl⟩)
  · exact no 100 (.inl ⟨hf, rfl⟩)
end Go.Proofs.Ytdnhidachdjgaaa
