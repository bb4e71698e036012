import Derived.Test.YtljfpgebekpjgaaWsae
namespace Go.Proofs.Ytljfpgebekpjgaa
namespace Gf2
set_option linter.unusedVariables false

/-! determinants over the field of 256. -/
/-- the numbers but j. -/
def sk (j c : Nat) : Nat := if c < j then c else c + 1
/-- without row i and column j. -/
def mn (i j : Nat) (A : Nat → Nat → Nat) : Nat → Nat → Nat := fun r c => A (sk i r) (sk j c)
def D : Nat → (Nat → Nat → Nat) → Nat
  | 0, _ => 1
  | n + 1, A => sx (n + 1) (fun j => fm 285 (A 0 j) (D n (mn 0 j A)))
theorem sk_lt {n j c : Nat} (h : c < n) : sk j c < n + 1 := by unfold sk; split <;> omega
theorem sk_zero (c : Nat) : sk 0 c = c + 1 := by unfold sk; rw [if_neg (by omega)]
theorem mn0 (j : Nat) (A : Nat → Nat → Nat) (r c : Nat) : mn 0 j A r c = A (r + 1) (sk j c) := by unfold mn; rw [sk_zero]
theorem D_lt : ∀ n A, D n A < 256
  | 0, _ => by unfold D; decide
  | n + 1, A => sx_lt (d := 8) (fun _ _ => fld8.fm_lt _ _)
theorem D_congr : ∀ n {A B : Nat → Nat → Nat}, (∀ i j, i < n → j < n → A i j = B i j) → D n A = D n B
  | 0, _, _, _ => rfl
  | n + 1, A, B, h => by
    unfold D
    refine sx_congr (fun j hj => ?_)
    rw [h 0 j (by omega) hj, D_congr n (fun r c hr hc => ?_)]
    rw [mn0, mn0]
    exact h _ _ (by omega) (sk_lt hc)
/-- linear in each row. -/
theorem D_lin (f : Nat) : ∀ n r {A B C : Nat → Nat → Nat}, r < n → (∀ i, i ≠ r → ∀ j, A i j = C i j) → (∀ i, i ≠ r → ∀ j, B i j = C i j) → (∀ j, C r j = A r j ^^^ fm 285 f (B r j)) → D n C = D n A ^^^ fm 285 f (D n B)
  | 0, r, _, _, _, h, _, _, _ => absurd h (Nat.not_lt_zero _)
  | n + 1, 0, A, B, C, _, hA, hB, hC => by
    unfold D
    rw [fld8.fm_sx, ← sx_xor]
    refine sx_congr (fun j hj => ?_)
    have e1 : mn 0 j A = mn 0 j C := by funext r c; rw [mn0, mn0]; exact hA _ (by omega) _
    have e2 : mn 0 j B = mn 0 j C := by funext r c; rw [mn0, mn0]; exact hB _ (by omega) _
    rw [e1, e2, hC j, fld8.xor_fm, fld8.fm_assoc]
  | n + 1, r + 1, A, B, C, h, hA, hB, hC => by
    unfold D
    rw [fld8.fm_sx, ← sx_xor]
    refine sx_congr (fun j hj => ?_)
    have ih := D_lin f n r (A := mn 0 j A) (B := mn 0 j B) (C := mn 0 j C) (by omega) (fun i hi c => by rw [mn0, mn0]; exact hA _ (by omega) _) (fun i hi c => by rw [mn0, mn0]; exact hB _ (by omega) _) (fun c => by rw [mn0, mn0, mn0]; exact hC _)
    rw [ih, hA 0 (by omega), hB 0 (by omega), fld8.fm_xor, ← fld8.fm_assoc, ← fld8.fm_assoc, fm_comm 285 (C 0 j) f]
/-- a sum over all but j. -/
theorem sx_skip (g : Nat → Nat) : ∀ n j, j ≤ n → sx n (fun l => g (sk j l)) = sx (n + 1) (fun b => if b = j then 0 else g b)
  | 0, j, h => by
    obtain rfl : j = 0 := by omega
    simp [sx]
  | n + 1, j, h => by
    show sx n (fun l => g (sk j l)) ^^^ g (sk j n) = sx (n + 1) (fun b => if b = j then 0 else g b) ^^^ (if n + 1 = j then 0 else g (n + 1))
    by_cases e : j = n + 1
    · subst e
      rw [if_pos rfl, Nat.xor_zero]
      have : sk (n + 1) n = n := by unfold sk; rw [if_pos (by omega)]
      rw [this]
      show sx n (fun l => g (sk (n + 1) l)) ^^^ g n = sx n (fun b => if b = n + 1 then 0 else g b) ^^^ (if n = n + 1 then 0 else g n)
      rw [if_neg (by omega)]
      congr 1
      exact sx_congr (fun l hl => by unfold sk; rw [if_pos (by omega), if_neg (by omega)])
    · rw [sx_skip g n j (by omega), if_neg (fun h => e h.symm)]
      have : sk j n = n + 1 := by unfold sk; rw [if_neg (by omega)]
      rw [this]
/-- a sum over pairs, each met twice. -/
theorem sx_pairs (h : Nat → Nat → Nat) (hs : ∀ a b, h a b = h b a) (h0 : ∀ a, h a a = 0) : ∀ n, sx n (fun a => sx n (fun b => h a b)) = 0
  | 0 => rfl
  | n + 1 => by
    show sx n (fun a => sx n (fun b => h a b) ^^^ h a n) ^^^ (sx n (fun b => h n b) ^^^ h n n) = 0
    rw [sx_xor, sx_pairs h hs h0 n, h0, Nat.zero_xor, Nat.xor_zero, sx_congr (fun a _ => hs a n), Nat.xor_self]
/-- the numbers but a and b. -/
def sk2 (a b c : Nat) : Nat := if c < min a b then c else if c + 1 < max a b then c + 1 else c + 2
theorem sk_sk (j l c : Nat) : sk j (sk l c) = sk2 j (sk j l) c := by
  simp only [sk2, sk, Nat.min_def, Nat.max_def]
  repeat' split
  all_goals omega
/-- rows 0 and 1 alike. -/
theorem D_two01 (n : Nat) (A : Nat → Nat → Nat) (h : ∀ j, A 0 j = A 1 j) : D (n + 2) A = 0 := by
  have e1 : ∀ j, j < n + 2 → fm 285 (A 0 j) (D (n + 1) (mn 0 j A)) = sx (n + 2) (fun b => if b = j then 0 else fm 285 (fm 285 (A 0 j) (A 0 b)) (D n (fun r c => A (r + 2) (sk2 j b c)))) := fun j hj => by
    rw [← sx_skip (fun b => fm 285 (fm 285 (A 0 j) (A 0 b)) (D n (fun r c => A (r + 2) (sk2 j b c)))) (n + 1) j (by omega)]
    show fm 285 (A 0 j) (sx (n + 1) (fun l => fm 285 (mn 0 j A 0 l) (D n (mn 0 l (mn 0 j A))))) = _
    rw [fld8.fm_sx]
    refine sx_congr (fun l hl => ?_)
    have e2 : mn 0 l (mn 0 j A) = fun r c => A (r + 2) (sk2 j (sk j l) c) := by
      funext r c
      rw [mn0, mn0, sk_sk]
    rw [e2, mn0, ← h, fld8.fm_assoc]
  show sx (n + 2) (fun j => fm 285 (A 0 j) (D (n + 1) (mn 0 j A))) = 0
  rw [sx_congr e1]
  refine sx_pairs (fun j b => if b = j then 0 else fm 285 (fm 285 (A 0 j) (A 0 b)) (D n (fun r c => A (r + 2) (sk2 j b c)))) (fun a b => ?_) (fun a => if_pos rfl) (n + 2)
  by_cases e : b = a
  · rw [if_pos e, if_pos e.symm]
  · rw [if_neg e, if_neg (fun h => e h.symm), fm_comm 285 (A 0 a)]
    congr 2
    funext r c
    unfold sk2
    rw [Nat.min_comm, Nat.max_comm]
/-- two rows alike; two rows change places. -/
theorem D_alt : ∀ n, (∀ p q A, p < q → q < n → (∀ j, A p j = A q j) → D n A = 0) ∧ ∀ t r A, t < n → r < n → D n (swp A t r) = D n A
  | 0 => ⟨fun _ _ _ _ h => absurd h (Nat.not_lt_zero _), fun _ _ _ h => absurd h (Nat.not_lt_zero _)⟩
  | n + 1 => by
    obtain ⟨ih1, ih2⟩ := D_alt n
    have two : ∀ p q A, p < q → q < n + 1 → (∀ j, A p j = A q j) → D (n + 1) A = 0 := by
      intro p q A hpq hq he
      obtain ⟨q, rfl⟩ : ∃ q', q = q' + 1 := ⟨q - 1, by omega⟩
      cases p with
      | succ p =>
        unfold D
        exact sx_zero (fun j _ => by rw [ih1 p q (mn 0 j A) (by omega) (by omega) (fun c => by rw [mn0, mn0]; exact he _), fld8.fm_zero])
      | zero =>
        obtain ⟨n, rfl⟩ : ∃ m, n = m + 1 := ⟨n - 1, by omega⟩
        have e : D (n + 2) A = D (n + 2) (swp A 1 (q + 1)) := by
          show sx (n + 2) _ = sx (n + 2) _
          refine sx_congr (fun j _ => ?_)
          have e1 : mn 0 j (swp A 1 (q + 1)) = swp (mn 0 j A) 0 q := by
            funext r c
            rw [mn0]
            unfold swp
            by_cases h1 : r = 0
            · rw [if_pos (by omega), if_pos h1, mn0]
            · by_cases h2 : r = q
              · rw [if_neg (by omega), if_pos (by omega), if_neg h1, if_pos h2, mn0]
              · rw [if_neg (by omega), if_neg (by omega), if_neg h1, if_neg h2, mn0]
          rw [e1, ih2 0 q (mn 0 j A) (by omega) (by omega)]
          have e0 : swp A 1 (q + 1) 0 = A 0 := by unfold swp; rw [if_neg (by omega), if_neg (by omega)]
          rw [e0]
        rw [e]
        refine D_two01 n _ (fun j => ?_)
        unfold swp
        rw [if_neg (by omega), if_neg (by omega), if_pos rfl]
        exact he j
    refine ⟨two, fun t r A ht hr => ?_⟩
    by_cases etr : t = r
    · subst etr
      congr 1
      funext i
      unfold swp
      by_cases h1 : i = t
      · rw [if_pos h1, h1]
      · rw [if_neg h1, if_neg h1]
    · -- rows t and r: as given (a), (b) at both, the sum at both
      have mk : ∀ (u v : Nat → Nat), ∃ X : Nat → Nat → Nat, X = fun i => if i = t then u else if i = r then v else A i := fun u v => ⟨_, rfl⟩
      have lin1 : ∀ u u' v, D (n + 1) (fun i => if i = t then (fun j => u j ^^^ fm 285 1 (u' j)) else if i = r then v else A i) = D (n + 1) (fun i => if i = t then u else if i = r then v else A i) ^^^ fm 285 1 (D (n + 1) (fun i => if i = t then u' else if i = r then v else A i)) := fun u u' v =>
        D_lin 1 (n + 1) t ht (fun i hi j => by simp only [if_neg hi]) (fun i hi j => by simp only [if_neg hi]) (fun j => by simp only [if_true])
      have lin2 : ∀ u v v', D (n + 1) (fun i => if i = t then u else if i = r then (fun j => v j ^^^ fm 285 1 (v' j)) else A i) = D (n + 1) (fun i => if i = t then u else if i = r then v else A i) ^^^ fm 285 1 (D (n + 1) (fun i => if i = t then u else if i = r then v' else A i)) := fun u v v' =>
        D_lin 1 (n + 1) r hr (fun i hi j => by simp only [if_neg hi]) (fun i hi j => by simp only [if_neg hi]) (fun j => by simp only [if_neg (fun h => etr h.symm : ¬ r = t), if_true])
      have same : ∀ u, D (n + 1) (fun i => if i = t then u else if i = r then u else A i) = 0 := fun u => by
        rcases Nat.lt_or_gt_of_ne etr with h | h
        · exact two t r _ h hr (fun j => by simp only [if_true, if_neg (fun h => etr h.symm : ¬ r = t)])
        · exact two r t _ h ht (fun j => by simp only [if_true, if_neg (fun h => etr h.symm : ¬ r = t)])
      have z := same (fun j => A t j ^^^ fm 285 1 (A r j))
      rw [lin1, lin2, lin2, same, same, Nat.zero_xor, fld8.fm_zero, Nat.xor_zero, fld8.one_fm (D_lt _ _), fld8.one_fm (D_lt _ _)] at z
      have e1 : (fun i => if i = t then A t else if i = r then A r else A i) = A := by
        funext i
        by_cases h1 : i = t
        · rw [if_pos h1, h1]
        · rw [if_neg h1]
          by_cases h2 : i = r
          · rw [if_pos h2, h2]
          · rw [if_neg h2]
      rw [e1] at z
      have z2 : D (n + 1) (fun i => if i = t then A r else if i = r then A t else A i) = D (n + 1) A := by
        have := congrArg (fun x => x ^^^ D (n + 1) (fun i => if i = t then A r else if i = r then A t else A i)) z
        simp only [Nat.xor_assoc, Nat.xor_self, Nat.xor_zero, Nat.zero_xor] at this
        exact this.symm
      exact z2
theorem D_swp {n t r : Nat} (A : Nat → Nat → Nat) (ht : t < n) (hr : r < n) : D n (swp A t r) = D n A := (D_alt n).2 t r A ht hr
theorem D_two {n p q : Nat} {A : Nat → Nat → Nat} (hp : p < n) (hq : q < n) (hne : p ≠ q) (he : ∀ j, A p j = A q j) : D n A = 0 := by
  rcases Nat.lt_or_gt_of_ne hne with h | h
  · exact (D_alt n).1 p q A h hq he
  · exact (D_alt n).1 q p A h hp (fun j => (he j).symm)
theorem D_zero {n r : Nat} {A : Nat → Nat → Nat} (hr : r < n) (h : ∀ j, A r j = 0) : D n A = 0 := by
  have := D_lin 1 n r (A := A) (B := A) (C := A) hr (fun _ _ _ => rfl) (fun _ _ _ => rfl) (fun j => by rw [h j, fld8.fm_zero]; rfl)
  rw [fld8.one_fm (D_lt n A), Nat.xor_self] at this
  exact this
theorem D_zero' {n r : Nat} {A : Nat → Nat → Nat} (hr : r < n) (h : ∀ j, j < n → A r j = 0) : D n A = 0 := by
  rw [D_congr n (B := fun i j => if j < n then A i j else 0) (fun i j _ hj => (if_pos hj).symm)]
  refine D_zero hr (fun j => ?_)
  split
  · exact h j (by assumption)
  · rfl
theorem D_rsc {n t : Nat} (u : Nat) (A : Nat → Nat → Nat) (ht : t < n) : D n (rsc u t A) = fm 285 u (D n A) := by
  have := D_lin u n t (A := fun i j => if i = t then 0 else A i j) (B := A) (C := rsc u t A) ht (fun i hi j => by unfold rsc; simp only [if_neg hi]) (fun i hi j => by unfold rsc; simp only [if_neg hi]) (fun j => by unfold rsc; simp only [if_true, Nat.zero_xor])
  rw [this, D_zero ht (fun j => if_pos rfl), Nat.zero_xor]
/-- row t is added to row i, times f. -/
theorem D_add {n t i : Nat} (f : Nat) {A C : Nat → Nat → Nat} (ht : t < n) (hi : i < n) (hne : i ≠ t) (h1 : ∀ k, k ≠ i → ∀ j, C k j = A k j) (h2 : ∀ j, C i j = A i j ^^^ fm 285 f (A t j)) : D n C = D n A := by
  have := D_lin f n i (A := A) (B := fun k j => if k = i then A t j else A k j) (C := C) hi (fun k hk j => (h1 k hk j).symm) (fun k hk j => by simp only [if_neg hk]; exact (h1 k hk j).symm) (fun j => by simp only [if_true]; exact h2 j)
  rw [this, D_two (A := fun k j => if k = i then A t j else A k j) hi ht hne (fun j => by simp only [if_true, if_neg (fun h => hne h.symm : ¬ t = i)]), fld8.fm_zero, Nat.xor_zero]
theorem D_rad {n t : Nat} (f : Nat → Nat) (A : Nat → Nat → Nat) (ht : t < n) : D n (rad f t A) = D n A := by
  have step : ∀ k, k ≤ n → D n (fun i j => if i < k then rad f t A i j else A i j) = D n A := by
    intro k
    induction k with
    | zero => intro _; exact D_congr n (fun i j _ _ => if_neg (Nat.not_lt_zero _))
    | succ k ih =>
      intro hk
      rw [← ih (by omega)]
      by_cases e : k = t
      · refine D_congr n (fun i j _ _ => ?_)
        by_cases h1 : i < k
        · rw [if_pos h1, if_pos (by omega)]
        · rw [if_neg h1]
          by_cases h2 : i = k
          · rw [if_pos (by omega)]; unfold rad; rw [if_pos (by omega)]; rw [h2, e]
          · rw [if_neg (by omega)]
      · refine D_add (f k) ht (by omega : k < n) e (fun i hi j => ?_) (fun j => ?_)
        · by_cases h1 : i < k
          · rw [if_pos h1, if_pos (by omega)]
          · rw [if_neg h1, if_neg (by omega)]
        · have et : (if t < k then rad f t A t j else A t j) = A t j := by
            unfold rad
            split
            · rw [if_pos rfl]
            · rfl
          rw [et, if_pos (by omega), if_neg (Nat.lt_irrefl _)]
          unfold rad
          rw [if_neg e]
  rw [← step n (Nat.le_refl _)]
  exact D_congr n (fun i j hi _ => (if_pos hi).symm)
theorem D_one : ∀ n, D n idm = 1
  | 0 => rfl
  | n + 1 => by
    unfold D
    rw [sx_one (k := 0) (by omega) (fun j _ hj => by unfold idm; rw [if_neg (fun h => hj h.symm), fld8.zero_fm])]
    have e : mn 0 0 idm = idm := by
      funext r c
      rw [mn0, sk_zero]
      unfold idm
      by_cases h : r = c
      · rw [if_pos h, if_pos (by omega)]
      · rw [if_neg h, if_neg (by omega)]
    rw [e, D_one n]
    decide

/-- one pivot, by the three operations. -/
theorem piv_eq {m c r : Nat} {M0 : Nat → Nat → Nat} {s : St} (h : Red m c M0 s) (htr : s.t ≤ r) (hr : r < m) (h0 : s.M r c ≠ 0) :
    clr (scl (swp s.M s.t r) s.t c) s.t c = rad (fun i => rsc (fv (s.M r c)) s.t (swp s.M s.t r) i c) s.t (rsc (fv (s.M r c)) s.t (swp s.M s.t r)) := by
  obtain ⟨M, t, P, d⟩ := s
  simp only at *
  have z1 : ∀ j, j < c → swp M t r t j = 0 := fun j hj => by
    unfold swp; rw [if_pos rfl]; exact h.rest r j htr hr hj
  have e1 : swp M t r t c = M r c := by unfold swp; rw [if_pos rfl]
  generalize swp M t r = M1 at *
  have e2 : scl M1 t c = rsc (fv (M r c)) t M1 := by
    funext i j
    unfold scl rsc
    by_cases h1 : i = t
    · subst h1
      by_cases h2 : c ≤ j
      · rw [if_pos ⟨rfl, h2⟩, if_pos rfl, e1]
      · rw [if_neg (fun e => h2 e.2), if_pos rfl, z1 j (by omega), fld8.fm_zero]
    · rw [if_neg (fun e => h1 e.1), if_neg h1]
  rw [e2]
  have z2 : ∀ j, j < c → rsc (fv (M r c)) t M1 t j = 0 := fun j hj => by
    unfold rsc; rw [if_pos rfl, z1 j hj, fld8.fm_zero]
  generalize rsc (fv (M r c)) t M1 = M2 at *
  funext i j
  unfold clr rad
  by_cases h1 : i = t
  · subst h1
    rw [if_neg (fun e => e.1 rfl), if_pos rfl]
  · rw [if_neg h1]
    by_cases h2 : c ≤ j
    · rw [if_pos ⟨h1, h2⟩]
    · rw [if_neg (fun e => h2 e.2), z2 j (by omega), fld8.fm_zero, Nat.xor_zero]
/-- what the elimination keeps: the determinant of M * B, times the pivots. -/
theorem elm_det {n : Nat} {A : Nat → Nat → Nat} (B : Nat → Nat → Nat) (hA : ∀ i j, A i j < 256) : ∀ c, fm 285 (elm n A c).d (D n (mm n (elm n A c).M B)) = D n (mm n A B)
  | 0 => fld8.one_fm (D_lt _ _)
  | c + 1 => by
    have ih := elm_det (n := n) B hA c
    have R := red_elm (m := n) hA c
    unfold elm stp
    by_cases h1 : (elm n A c).t = n
    · rw [if_pos h1]; exact ih
    · rw [if_neg h1]
      have htm : (elm n A c).t < n := by have := R.tm; omega
      obtain ⟨b1, b2, b3, b4⟩ := fr_spec (elm n A c).M c (n - (elm n A c).t) (elm n A c).t
      by_cases h2 : fr (elm n A c).M c (n - (elm n A c).t) (elm n A c).t = n
      · rw [if_pos h2]; exact ih
      · rw [if_neg h2]
        have hr : fr (elm n A c).M c (n - (elm n A c).t) (elm n A c).t < n := by omega
        have h0 := b4 (by omega)
        rw [piv_eq R b1 hr h0]
        generalize fr (elm n A c).M c (n - (elm n A c).t) (elm n A c).t = r at *
        show fm 285 (fm 285 (elm n A c).d ((elm n A c).M r c)) (D n (mm n (rad _ _ (rsc _ _ (swp _ _ _))) B)) = _
        rw [mm_rad, D_rad _ _ htm, mm_rsc, D_rsc _ _ htm, mm_swp, D_swp _ htm hr, fld8.fm_assoc, ← fld8.fm_assoc ((elm n A c).M r c), fm_comm 285 ((elm n A c).M r c), fv_mul (R.lt r c) h0, fld8.one_fm (D_lt _ _)]
        exact ih
/-- the determinant as the elimination tells it. -/
def dt0 (n : Nat) (S : Nat → Nat → Nat) : Nat := if (elm n S n).t < n then 0 else (elm n S n).d
/-- the determinant of a product. -/
theorem D_mul {n : Nat} {A B : Nat → Nat → Nat} (hA : ∀ i j, A i j < 256) (hB : ∀ i j, B i j < 256) : D n (mm n A B) = fm 285 (dt0 n A) (D n B) := by
  have R := red_elm (m := n) hA n
  have e := elm_det B hA n (n := n)
  unfold dt0
  by_cases h : (elm n A n).t < n
  · rw [if_pos h, fld8.zero_fm, ← e, D_zero' (r := n - 1) (by omega) (fun j hj => ?_), fld8.fm_zero]
    unfold mm
    exact sx_zero (fun t ht => by rw [R.rest (n - 1) t (by omega) (by omega) ht, fld8.zero_fm])
  · rw [if_neg h, ← e]
    congr 1
    have full := R.full (by have := R.tm; omega)
    refine D_congr n (fun i j hi hj => ?_)
    rw [mm_congr (A' := idm) (B' := B) (fun t ht => full i t hi ht) (fun _ _ => rfl)]
    exact idm_mm hi (hB i j)
end Gf2
end Go.Proofs.Ytljfpgebekpjgaa
namespace Go.Proofs.Ytljfpgebekpjgaa
namespace Gf2
set_option linter.unusedVariables false

theorem D_dt {n : Nat} {A : Nat → Nat → Nat} (hA : ∀ i j, A i j < 256) : D n A = dt0 n A := by
  have h := D_mul (n := n) hA (B := idm) (fun i j => by unfold idm; split <;> decide)
  have hd : dt0 n A < 256 := by
    unfold dt0
    split
    · decide
    · exact (red_elm (m := n) hA n).d1
  rw [D_one, fld8.fm_one hd] at h
  rw [← h]
  exact D_congr n (fun i j _ hj => (mm_idm hj (hA i j)).symm)
theorem D_mm {n : Nat} {A B : Nat → Nat → Nat} (hA : ∀ i j, A i j < 256) (hB : ∀ i j, B i j < 256) : D n (mm n A B) = fm 285 (D n A) (D n B) := by rw [D_mul hA hB, D_dt hA]
/-- products. -/
def pr : Nat → (Nat → Nat) → Nat
  | 0, _ => 1
  | n + 1, f => fm 285 (pr n f) (f n)
theorem pr_lt : ∀ n f, pr n f < 256
  | 0, _ => by unfold pr; decide
  | n + 1, f => fld8.fm_lt _ _
theorem pr_congr : ∀ n {f g : Nat → Nat}, (∀ i, i < n → f i = g i) → pr n f = pr n g
  | 0, _, _, _ => rfl
  | n + 1, f, g, h => by unfold pr; rw [pr_congr n (fun i hi => h i (by omega)), h n (by omega)]
theorem pr_first : ∀ n (f : Nat → Nat), pr (n + 1) f = fm 285 (f 0) (pr n (fun i => f (i + 1)))
  | 0, f => by show fm 285 1 (f 0) = fm 285 (f 0) 1; exact fm_comm _ _ _
  | n + 1, f => by
    show fm 285 (pr (n + 1) f) (f (n + 1)) = fm 285 (f 0) (fm 285 (pr n (fun i => f (i + 1))) (f (n + 1)))
    rw [pr_first n f, fld8.fm_assoc]
theorem pr_mul : ∀ n (f g : Nat → Nat), pr n (fun i => fm 285 (f i) (g i)) = fm 285 (pr n f) (pr n g)
  | 0, _, _ => by unfold pr; decide
  | n + 1, f, g => by
    show fm 285 (pr n (fun i => fm 285 (f i) (g i))) (fm 285 (f n) (g n)) = fm 285 (fm 285 (pr n f) (f n)) (fm 285 (pr n g) (g n))
    rw [pr_mul n f g]
    have i1 : Std.Associative (fm 285) := ⟨fld8.fm_assoc⟩
    have i2 : Std.Commutative (fm 285) := ⟨fm_comm 285⟩
    ac_rfl
/-- over all pairs j < i. -/
def pp (n : Nat) (g : Nat → Nat → Nat) : Nat := pr n (fun i => pr i (fun j => g i j))
theorem pp_first (n : Nat) (g : Nat → Nat → Nat) : pp (n + 1) g = fm 285 (pr n (fun i => g (i + 1) 0)) (pp n (fun i j => g (i + 1) (j + 1))) := by
  unfold pp
  rw [pr_first]
  show fm 285 1 _ = _
  rw [fld8.one_fm (pr_lt _ _), ← pr_mul]
  exact pr_congr n (fun i _ => pr_first i _)
/-- each row times a factor. -/
theorem D_rows : ∀ n (u : Nat → Nat) (A : Nat → Nat → Nat), D n (fun r c => fm 285 (u r) (A r c)) = fm 285 (pr n u) (D n A)
  | 0, _, _ => by unfold D pr; decide
  | n + 1, u, A => by
    unfold D
    rw [fld8.fm_sx]
    refine sx_congr (fun j _ => ?_)
    have e : mn 0 j (fun r c => fm 285 (u r) (A r c)) = fun r c => fm 285 (u (r + 1)) (mn 0 j A r c) := by funext r c; rw [mn0, mn0]
    show fm 285 (fm 285 (u 0) (A 0 j)) (D n (mn 0 j (fun r c => fm 285 (u r) (A r c)))) = _
    rw [e, D_rows n (fun r => u (r + 1)) (mn 0 j A), pr_first]
    have i1 : Std.Associative (fm 285) := ⟨fld8.fm_assoc⟩
    have i2 : Std.Commutative (fm 285) := ⟨fm_comm 285⟩
    ac_rfl
/-- along the first column. -/
theorem D_col : ∀ n (A : Nat → Nat → Nat), D (n + 1) A = sx (n + 1) (fun i => fm 285 (A i 0) (D n (mn i 0 A)))
  | 0, A => rfl
  | n + 1, A => by
    show sx (n + 2) (fun j => fm 285 (A 0 j) (D (n + 1) (mn 0 j A))) = sx (n + 2) (fun i => fm 285 (A i 0) (D (n + 1) (mn i 0 A)))
    rw [sx_first (n + 1) (fun j => fm 285 (A 0 j) (D (n + 1) (mn 0 j A))), sx_first (n + 1) (fun i => fm 285 (A i 0) (D (n + 1) (mn i 0 A)))]
    congr 1
    have l : ∀ j, fm 285 (A 0 (j + 1)) (D (n + 1) (mn 0 (j + 1) A)) = sx (n + 1) (fun i => fm 285 (fm 285 (A 0 (j + 1)) (A (i + 1) 0)) (D n (mn i 0 (mn 0 (j + 1) A)))) := fun j => by
      rw [D_col n, fld8.fm_sx]
      refine sx_congr (fun i _ => ?_)
      rw [mn0, show sk (j + 1) 0 = 0 by unfold sk; rw [if_pos (by omega)], fld8.fm_assoc]
    have r : ∀ i, fm 285 (A (i + 1) 0) (D (n + 1) (mn (i + 1) 0 A)) = sx (n + 1) (fun j => fm 285 (fm 285 (A 0 (j + 1)) (A (i + 1) 0)) (D n (mn 0 j (mn (i + 1) 0 A)))) := fun i => by
      show fm 285 (A (i + 1) 0) (sx (n + 1) (fun j => fm 285 (mn (i + 1) 0 A 0 j) (D n (mn 0 j (mn (i + 1) 0 A))))) = _
      rw [fld8.fm_sx]
      refine sx_congr (fun j _ => ?_)
      have : mn (i + 1) 0 A 0 j = A 0 (j + 1) := by unfold mn; rw [sk_zero, show sk (i + 1) 0 = 0 by unfold sk; rw [if_pos (by omega)]]
      rw [this, ← fld8.fm_assoc, fm_comm 285 (A (i + 1) 0)]
    rw [sx_congr (fun j _ => l j), sx_congr (fun i _ => r i), sx_swap]
    refine sx_congr (fun i _ => sx_congr (fun j _ => ?_))
    congr 2
    funext a b
    rw [mn0]
    unfold mn
    rw [sk_zero]
    have e1 : sk i a + 1 = sk (i + 1) (a + 1) := by unfold sk; split <;> split <;> omega
    have e2 : sk (j + 1) (sk 0 b) = sk 0 (sk j b) := by rw [sk_zero, sk_zero]; unfold sk; split <;> split <;> omega
    rw [e1, e2]
def trn (A : Nat → Nat → Nat) : Nat → Nat → Nat := fun i j => A j i
theorem D_trn : ∀ n (A : Nat → Nat → Nat), D n (trn A) = D n A
  | 0, _ => rfl
  | n + 1, A => by
    rw [D_col n A]
    show sx (n + 1) (fun j => fm 285 (trn A 0 j) (D n (mn 0 j (trn A)))) = _
    refine sx_congr (fun j _ => ?_)
    have e : mn 0 j (trn A) = trn (mn j 0 A) := by funext r c; rfl
    rw [e, D_trn n]
    rfl
/-- a first row of 1 and noughts. -/
theorem D_corner {n : Nat} {A : Nat → Nat → Nat} (h0 : A 0 0 = 1) (h : ∀ j, j < n → A 0 (j + 1) = 0) : D (n + 1) A = D n (mn 0 0 A) := by
  show sx (n + 1) (fun j => fm 285 (A 0 j) (D n (mn 0 j A))) = _
  rw [sx_one (k := 0) (by omega) (fun j hj hj0 => by obtain ⟨k, rfl⟩ : ∃ k, j = k + 1 := ⟨j - 1, by omega⟩
                                                     rw [h k (by omega), fld8.zero_fm]), h0, fld8.one_fm (D_lt _ _)]

/-! Vandermonde. -/
def upm (x : Nat) : Nat → Nat → Nat := fun t c => (if t = c then 1 else 0) ^^^ (if t + 1 = c then x else 0)
theorem D_upm (x : Nat) : ∀ n, D n (upm x) = 1
  | 0 => rfl
  | n + 1 => by
    rw [← D_trn, D_corner (by unfold trn upm; rw [if_pos rfl, if_neg (by omega)]; rfl) (fun j _ => by unfold trn upm; rw [if_neg (by omega), if_neg (by omega)]; rfl)]
    have e : mn 0 0 (trn (upm x)) = trn (upm x) := by
      funext r c
      rw [mn0, sk_zero]
      unfold trn upm
      by_cases h : c = r
      · rw [if_pos (by omega), if_pos h, if_neg (by omega), if_neg (by omega)]
      · rw [if_neg (by omega), if_neg h]
        by_cases h2 : c + 1 = r
        · rw [if_pos (by omega), if_pos h2]
        · rw [if_neg (by omega), if_neg h2]
    rw [e, D_trn, D_upm x n]
theorem upm_lt {x : Nat} (hx : x < 256) (i j : Nat) : upm x i j < 256 := by
  unfold upm
  refine xor_lt8 ?_ ?_
  · split <;> decide
  · split
    · exact hx
    · decide
def van (x : Nat → Nat) : Nat → Nat → Nat := fun r c => fp 285 (x r) c
theorem van_lt (x : Nat → Nat) (r c : Nat) : van x r c < 256 := by
  unfold van
  exact fld8.fp_lt _ _
theorem D_van : ∀ n (x : Nat → Nat), (∀ i, x i < 256) → D n (van x) = pp n (fun i j => x i ^^^ x j)
  | 0, _, _ => rfl
  | n + 1, x, hx => by
    have e0 := D_mm (n := n + 1) (van_lt x) (upm_lt (hx 0))
    rw [D_upm, fld8.fm_one (D_lt _ _)] at e0
    have w0 : ∀ r c, c < n + 1 → mm (n + 1) (van x) (upm (x 0)) r c = van x r c ^^^ (if c = 0 then 0 else fm 285 (van x r (c - 1)) (x 0)) := fun r c hc => by
      unfold mm upm
      rw [sx_congr (fun t _ => fld8.fm_xor _ _ _), sx_xor]
      congr 1
      · rw [sx_one hc (fun t _ ht => by rw [if_neg ht, fld8.fm_zero]), if_pos rfl, fld8.fm_one (van_lt x r c)]
      · by_cases h : c = 0
        · rw [if_pos h]
          exact sx_zero (fun t _ => by rw [if_neg (by omega), fld8.fm_zero])
        · rw [if_neg h, sx_one (k := c - 1) (by omega) (fun t _ ht => by rw [if_neg (by omega), fld8.fm_zero]), if_pos (by omega)]
    have step : ∀ r c, c < n → mm (n + 1) (van x) (upm (x 0)) r (c + 1) = fm 285 (x r ^^^ x 0) (van x r c) := fun r c hc => by
      rw [w0 r (c + 1) (by omega), if_neg (by omega), Nat.add_sub_cancel]
      unfold van
      rw [fld8.fp_succ (hx r) c, ← fld8.fm_xor, fm_comm]
    rw [← e0, D_corner (by rw [w0 0 0 (by omega), if_pos rfl, Nat.xor_zero]; unfold van; exact fld8.fp_zero _) (fun j hj => by rw [step 0 j hj, Nat.xor_self, fld8.zero_fm])]
    rw [D_congr n (B := fun r c => fm 285 (x (r + 1) ^^^ x 0) (van (fun i => x (i + 1)) r c)) (fun i j _ hj => by rw [mn0, sk_zero, step (i + 1) j hj]; rfl), D_rows, D_van n (fun i => x (i + 1)) (fun i => hx _), pp_first]

/-! Cauchy. -/
end Gf2
end Go.Proofs.Ytljfpgebekpjgaa
namespace Go.Proofs.Ytljfpgebekpjgaa
namespace Gf2
set_option linter.unusedVariables false

theorem pr_ne : ∀ n (f : Nat → Nat), (∀ i, i < n → f i < 256 ∧ f i ≠ 0) → pr n f ≠ 0
  | 0, _, _ => by unfold pr; decide
  | n + 1, f, h => fld8.fm_ne (pr_lt _ _) (h n (Nat.lt_succ_self n)).1 (pr_ne n f (fun i hi => h i (by omega))) (h n (Nat.lt_succ_self n)).2
theorem pr_zero : ∀ n (f : Nat → Nat) t, t < n → f t = 0 → pr n f = 0
  | 0, _, _, h, _ => absurd h (Nat.not_lt_zero _)
  | n + 1, f, t, h, h0 => by
    show fm 285 (pr n f) (f n) = 0
    by_cases e : t = n
    · subst e; rw [h0, fld8.fm_zero]
    · rw [pr_zero n f t (by omega) h0, fld8.zero_fm]
theorem pr_pull : ∀ n (f : Nat → Nat) i, i < n → pr n f = fm 285 (pr n (fun t => if t = i then 1 else f t)) (f i)
  | 0, _, _, h => absurd h (Nat.not_lt_zero _)
  | n + 1, f, i, h => by
    show fm 285 (pr n f) (f n) = fm 285 (fm 285 (pr n _) (if n = i then 1 else f n)) (f i)
    by_cases e : n = i
    · subst e
      rw [if_pos rfl, fld8.fm_one (pr_lt _ _), pr_congr n (g := fun t => if t = n then 1 else f t) (fun t ht => (if_neg (by omega)).symm)]
    · rw [if_neg e, pr_pull n f i (by omega), fld8.fm_assoc, fm_comm 285 (f i), ← fld8.fm_assoc]
theorem xor_ne {a b : Nat} (h : a ≠ b) : a ^^^ b ≠ 0 := fun e => h (by
  have : a ^^^ b ^^^ b = 0 ^^^ b := by rw [e]
  rwa [Nat.xor_assoc, Nat.xor_self, Nat.xor_zero, Nat.zero_xor] at this)
theorem van_full {n : Nat} {x : Nat → Nat} (hx : ∀ i, x i < 256) (inj : ∀ i j, j < i → i < n → x i ≠ x j) : (elm n (van x) n).t = n := by
  have r := red_elm (m := n) (van_lt x) n
  apply Nat.le_antisymm r.tm
  apply Nat.le_of_not_lt
  intro hlt
  have e := D_van n x hx
  rw [D_dt (van_lt x)] at e
  have z : pp n (fun i j => x i ^^^ x j) ≠ 0 := pr_ne n _ (fun i hi => ⟨pr_lt _ _, pr_ne i _ (fun j hj => ⟨xor_lt8 (hx i) (hx j), xor_ne (inj i j hj hi)⟩)⟩)
  apply z
  rw [← e]
  exact if_pos hlt
/-- the product of s + t over t below n but i. -/
def qq (i n s : Nat) : Nat := pr n (fun t => if t = i then 1 else s ^^^ t)
def dg (i n : Nat) : Nat := if i < n then n else n + 1
theorem poly (i : Nat) : ∀ n, ∃ a : Nat → Nat, (∀ c, a c < 256) ∧ (∀ c, dg i n ≤ c → a c = 0) ∧ ∀ s, s < 256 → qq i n s = sx (dg i n) (fun c => fm 285 (a c) (fp 285 s c))
  | 0 => ⟨fun c => if c = 0 then 1 else 0, fun c => by dsimp only; split <;> decide, fun c hc => by
      have hc : 1 ≤ c := hc
      exact if_neg (by omega), fun s hs => by
      show 1 = sx 1 (fun c => fm 285 (if c = 0 then 1 else 0) (fp 285 s c))
      rw [sx_one (k := 0) (by decide) (fun c h1 h2 => absurd h1 (by omega)), if_pos rfl, fld8.fp_zero]
      decide⟩
  | n + 1 => by
    obtain ⟨a, h1, h2, h3⟩ := poly i n
    by_cases e : n = i
    · subst e
      have d1 : dg n n = n + 1 := if_neg (Nat.lt_irrefl _)
      have d2 : dg n (n + 1) = n + 1 := if_pos (Nat.lt_succ_self _)
      refine ⟨a, h1, fun c hc => h2 c (by rw [d1]; rw [d2] at hc; exact hc), fun s hs => ?_⟩
      have e3 := h3 s hs
      rw [d1] at e3
      rw [d2, ← e3]
      show fm 285 (qq n n s) (if n = n then 1 else s ^^^ n) = qq n n s
      rw [if_pos rfl]
      exact fld8.fm_one (pr_lt _ _)
    · have d2 : dg i (n + 1) = dg i n + 1 := by
        unfold dg
        by_cases h : i < n
        · rw [if_pos h, if_pos (by omega)]
        · rw [if_neg h, if_neg (by omega)]
      refine ⟨fun c => (if c = 0 then 0 else a (c - 1)) ^^^ fm 285 (a c) n, fun c => xor_lt8 (by split; decide; exact h1 _) (fld8.fm_lt _ _), fun c hc => ?_, fun s hs => ?_⟩
      · rw [d2] at hc
        dsimp only
        rw [if_neg (by omega), h2 (c - 1) (by omega), h2 c (by omega), fld8.zero_fm]
        rfl
      · rw [d2]
        show fm 285 (qq i n s) (if n = i then 1 else s ^^^ n) = _
        rw [if_neg e, h3 s hs]
        have e1 : ∀ c, fm 285 ((if c = 0 then 0 else a (c - 1)) ^^^ fm 285 (a c) n) (fp 285 s c) = fm 285 (if c = 0 then 0 else a (c - 1)) (fp 285 s c) ^^^ fm 285 (fm 285 (a c) n) (fp 285 s c) := fun c => by rw [fm_comm 285 _ (fp 285 s c), fld8.fm_xor, fm_comm 285 (fp 285 s c), fm_comm 285 (fp 285 s c)]
        rw [sx_congr (fun c _ => e1 c), sx_xor, sx_first, if_pos rfl, fld8.zero_fm, Nat.zero_xor]
        have e2 : ∀ c, fm 285 (if c + 1 = 0 then 0 else a (c + 1 - 1)) (fp 285 s (c + 1)) = fm 285 (fm 285 (a c) (fp 285 s c)) s := fun c => by
          rw [if_neg (by omega), Nat.add_sub_cancel, fld8.fp_succ hs, fld8.fm_assoc]
        rw [sx_congr (fun c _ => e2 c), ← sx_fm]
        have e3 : sx (dg i n + 1) (fun c => fm 285 (fm 285 (a c) n) (fp 285 s c)) = fm 285 (sx (dg i n) (fun c => fm 285 (a c) (fp 285 s c))) n := by
          rw [sx_cut (m := dg i n) (Nat.le_succ _) (fun c hc _ => by rw [h2 c hc, fld8.zero_fm, fld8.zero_fm]), sx_fm]
          exact sx_congr (fun c _ => by rw [fld8.fm_assoc, fm_comm 285 n, ← fld8.fm_assoc])
        rw [e3, ← fld8.fm_xor]
end Gf2
end Go.Proofs.Ytljfpgebekpjgaa
namespace Go.Proofs.Ytljfpgebekpjgaa
namespace Gf2
set_option linter.unusedVariables false
variable {p d : Nat}

theorem Fld.pe_any (h : Fld p d) {f : Nat → Nat} {m n : Nat} (x : Nat) (hm : Dg f m) (hn : Dg f n) : pe p x m f = pe p x n f := by
  rw [← h.pe_cut x hm (Nat.le_add_right m n), ← h.pe_cut x hn (Nat.le_add_left n m)]
/-- the product of the X + pts i, i below n. -/
def pv (p : Nat) (pts : Nat → Nat) : Nat → Nat → Nat
  | 0 => po
  | n + 1 => pm p (pv p pts n) (px (pts n))
theorem Fld.pv_dg (h : Fld p d) (pts : Nat → Nat) : ∀ n, Dg (pv p pts n) (n + 1)
  | 0 => po_tp.1
  | n + 1 => (h.dg_pm (h.pv_dg pts n) (px_dg (pts n))).mono (by omega)
theorem Fld.pv_top (h : Fld p d) (pts : Nat → Nat) : ∀ n, pv p pts n n = 1
  | 0 => rfl
  | n + 1 => by
    show pm p (pv p pts n) (px (pts n)) (n + 1) = 1
    rw [h.top_pm (h.pv_dg pts n) (px_dg (pts n)), h.pv_top pts n]
    exact h.fm_one h.one_lt
theorem Fld.pe_pv_succ (h : Fld p d) {pts : Nat → Nat} {n x : Nat} (hl : pts n < 2 ^ d) (hx : x < 2 ^ d) : pe p x (n + 2) (pv p pts (n + 1)) = fm p (pe p x (n + 1) (pv p pts n)) (pts n ^^^ x) := by
  have e := h.pe_pm x (h.pv_dg pts n) (px_dg (pts n))
  rw [h.pe_px hl hx] at e
  rw [← e]
  exact h.pe_any x (h.pv_dg pts (n + 1)) ((h.pv_dg pts (n + 1)).mono (by omega))
/-- how often y stands among the first n points. -/
def cnt (pts : Nat → Nat) (y : Nat) : Nat → Nat
  | 0 => 0
  | n + 1 => cnt pts y n + (if pts n = y then 1 else 0)
theorem Fld.pv_root (h : Fld p d) {pts : Nat → Nat} {x : Nat} (hx : x < 2 ^ d) : ∀ n, (∀ i, i < n → pts i < 2 ^ d) → (pe p x (n + 1) (pv p pts n) = 0 ↔ 0 < cnt pts x n)
  | 0, _ => by
    have e : pe p x 1 (pv p pts 0) = 1 := by
      show 0 ^^^ fm p 1 (fp p x 0) = 1
      rw [h.fp_zero, h.one_fm h.one_lt]; rfl
    rw [e]; simp [cnt]
  | n + 1, hl => by
    rw [h.pe_pv_succ (hl n (by omega)) hx, h.fm_eq_zero (h.pe_lt _ _ _) (Nat.xor_lt_two_pow (hl n (by omega)) hx), h.pv_root hx n (fun i hi => hl i (by omega))]
    simp only [cnt]
    by_cases e : pts n = x
    · rw [if_pos e, e]; simp
    · rw [if_neg e]
      constructor
      · intro hh
        rcases hh with h1 | h1
        · omega
        · exact absurd (xor_eq_zero h1) e
      · intro hh; exact .inl (by omega)
end Gf2
end Go.Proofs.Ytljfpgebekpjgaa
namespace Go.Proofs.Ytljfpgebekpjgaa
namespace Gf2
set_option linter.unusedVariables false
variable {p d : Nat}

/-! Euclid's way to the greatest common divisor. -/
theorem Fld.pc_mo (h : Fld p d) (c : Nat) (f : Nat → Nat) : pc p c f = pm p (mo c 0) f := by
  rw [h.mo_pm]
  funext i
  unfold ps
  rw [if_neg (by omega)]; rfl
/-! lists of coefficients. -/
theorem getD_in {l : List Nat} {i : Nat} (h : i < l.length) : l.getD i 0 = l[i] := by rw [List.getD_eq_getElem?_getD, List.getElem?_eq_getElem h]; rfl
end Gf2
end Go.Proofs.Ytljfpgebekpjgaa
namespace Go.Proofs.Ytljfpgebekpjgaa
namespace Gf2
set_option linter.unusedVariables false
variable {p d : Nat}

-- Newton's way through points
/-- a product with X + x, place by place. -/
theorem Fld.pm_px8 (h : Fld p d) {f : Nat → Nat} (ef : El d f) {x : Nat} (n : Nat) : pm p f (px x) n = (if 1 ≤ n then f (n - 1) else 0) ^^^ fm p (f n) x := by
  have e : px x = pa (mo x 0) (mo 1 1) := by
    funext i
    unfold px pa mo
    by_cases h0 : i = 0
    · simp [h0]
    · by_cases h1 : i = 1
      · simp [h1]
      · simp [h0, h1]
  rw [e, h.pm_pa, h.pm_comm f (mo x 0), h.pm_comm f (mo 1 1), h.mo_pm, h.mo_pm]
  unfold pa ps pc
  rw [if_neg (by omega), Nat.sub_zero, fm_comm p x, Nat.xor_comm]
  congr 1
  by_cases h1 : 1 ≤ n
  · rw [if_neg (by omega), if_pos h1, h.one_fm (ef _)]
  · rw [if_pos (by omega), if_neg h1]
/-- the value of a product with X + x. -/
theorem Fld.pe_pm_px (h : Fld p d) {f : Nat → Nat} {n x y : Nat} (hf : Dg f n) (hx : x < 2 ^ d) (hy : y < 2 ^ d) : pe p y (n + 1) (pm p f (px x)) = fm p (pe p y n f) (x ^^^ y) := by
  have e := h.pe_pm y hf (px_dg x)
  rw [h.pe_px hx hy] at e
  rw [← e]
  exact h.pe_any y ((h.dg_pm hf (px_dg x)).mono (by omega)) ((h.dg_pm hf (px_dg x)).mono (by omega))

/-- divided differences: of g + 1 values up to the i-th. -/
def ddf (p : Nat) (pts vals : Nat → Nat) : Nat → Nat → Nat
  | 0, i => vals i
  | g + 1, i => fm p (ddf p pts vals g i ^^^ ddf p pts vals g (i - 1)) (fi p (pts i ^^^ pts (i - (g + 1))))
/-- the polynomial through the g + 1 points up to the i-th. -/
def nwP (p : Nat) (pts vals : Nat → Nat) : Nat → Nat → Nat → Nat
  | 0, i => mo (vals i) 0
  | g + 1, i => pc p (fi p (pts i ^^^ pts (i - (g + 1)))) (pa (pm p (nwP p pts vals g i) (px (pts (i - (g + 1))))) (pm p (nwP p pts vals g (i - 1)) (px (pts i))))
structure Nw (p d : Nat) (pts vals : Nat → Nat) (g i : Nat) : Prop where
  el : El d (nwP p pts vals g i)
  dg : Dg (nwP p pts vals g i) (g + 1)
  top : nwP p pts vals g i g = ddf p pts vals g i
  at_ : ∀ t, i - g ≤ t → t ≤ i → pe p (pts t) (g + 1) (nwP p pts vals g i) = vals t
theorem xor_nep {a b : Nat} (h : a ≠ b) : a ^^^ b ≠ 0 := fun e => h (by
  have := congrArg (· ^^^ b) e
  simpa [Nat.xor_assoc] using this)
theorem Fld.nw (h : Fld p d) {pts vals : Nat → Nat} {n : Nat} (hl : ∀ i, i < n → pts i < 2 ^ d) (hv : ∀ i, i < n → vals i < 2 ^ d) (hinj : ∀ i j, i < n → j < n → pts i = pts j → i = j) :
    ∀ g i, g ≤ i → i < n → Nw p d pts vals g i := by
  intro g
  induction g with
  | zero =>
    intro i _ hi
    refine ⟨el_mo (hv i hi) 0, mo_dg _ _, by show mo (vals i) 0 0 = vals i; unfold mo; rw [if_pos rfl], fun t h1 h2 => ?_⟩
    obtain rfl : t = i := by omega
    show pe p (pts t) 1 (mo (vals t) 0) = vals t
    rw [h.pe_mo (by omega), h.fp_zero, h.fm_one (hv t hi)]
  | succ g ih =>
    intro i hg hi
    have k1 := ih i (by omega) hi
    have k2 := ih (i - 1) (by omega) (by omega)
    have ha := hl (i - (g + 1)) (by omega)
    have hb := hl i hi
    have hne : pts i ^^^ pts (i - (g + 1)) ≠ 0 := xor_nep fun e => absurd (hinj _ _ hi (by omega) e) (by omega)
    have hlt : pts i ^^^ pts (i - (g + 1)) < 2 ^ d := Nat.xor_lt_two_pow hb ha
    have d1 : Dg (pm p (nwP p pts vals g i) (px (pts (i - (g + 1))))) (g + 2) := (h.dg_pm k1.dg (px_dg _)).mono (by omega)
    have d2 : Dg (pm p (nwP p pts vals g (i - 1)) (px (pts i))) (g + 2) := (h.dg_pm k2.dg (px_dg _)).mono (by omega)
    refine ⟨h.el_pc _ _, fun t ht => ?_, ?_, fun t h1 h2 => ?_⟩
    · show fm p _ (pa _ _ t) = 0
      rw [(d1.pa d2) t ht, h.fm_zero]
    · show fm p _ (pm p _ _ (g + 1) ^^^ pm p _ _ (g + 1)) = fm p _ _
      rw [h.pm_px8 k1.el, h.pm_px8 k2.el, if_pos (by omega), if_pos (by omega), Nat.add_sub_cancel, k1.top, k2.top, k1.dg (g + 1) (by omega), k2.dg (g + 1) (by omega), h.zero_fm, h.zero_fm, Nat.xor_zero, Nat.xor_zero, fm_comm]
    · show pe p (pts t) (g + 1 + 1) (pc p _ (pa _ _)) = vals t
      have ht : t < n := by omega
      have hx := hl t ht
      rw [h.pe_pc, h.pe_pa, h.pe_pm_px k1.dg ha hx, h.pe_pm_px k2.dg hb hx]
      by_cases e1 : t = i
      · subst e1
        rw [k1.at_ t (by omega) (Nat.le_refl _), Nat.xor_self, h.fm_zero, Nat.xor_zero, Nat.xor_comm (pts (t - (g + 1))), fm_comm, h.mul_div (hv t ht) hlt hne]
      · by_cases e2 : t = i - (g + 1)
        · subst e2
          rw [k2.at_ _ (by omega) (by omega), Nat.xor_self, h.fm_zero, Nat.zero_xor, fm_comm, h.mul_div (hv _ ht) hlt hne]
        · rw [k1.at_ t (by omega) h2, k2.at_ t (by omega) (by omega), ← h.fm_xor]
          have : (pts (i - (g + 1)) ^^^ pts t) ^^^ (pts i ^^^ pts t) = pts i ^^^ pts (i - (g + 1)) := by
            apply Nat.eq_of_testBit_eq; intro b; simp only [Nat.testBit_xor]
            cases (pts (i - (g + 1))).testBit b <;> cases (pts t).testBit b <;> cases (pts i).testBit b <;> rfl
          rw [this, fm_comm, h.mul_div (hv t ht) hlt hne]
/-- Newton's sum. -/
def nws (p : Nat) (pts vals : Nat → Nat) : Nat → Nat → Nat
  | 0 => pz
  | n + 1 => pa (nws p pts vals n) (pc p (ddf p pts vals n n) (pv p pts n))
theorem Fld.nws_eq (h : Fld p d) {pts vals : Nat → Nat} {n : Nat} (hl : ∀ i, i < n → pts i < 2 ^ d) (hv : ∀ i, i < n → vals i < 2 ^ d) (hinj : ∀ i j, i < n → j < n → pts i = pts j → i = j) :
    ∀ i, i < n → nws p pts vals (i + 1) = nwP p pts vals i i := by
  intro i
  induction i with
  | zero =>
    intro hi
    show pa pz (pc p (vals 0) po) = mo (vals 0) 0
    rw [pz_pa]
    funext t
    unfold pc po mo
    by_cases h0 : t = 0
    · rw [if_pos h0, if_pos h0, h.fm_one (hv 0 hi)]
    · rw [if_neg h0, if_neg h0, h.fm_zero]
  | succ i ih =>
    intro hi
    have k1 := h.nw hl hv hinj i i (Nat.le_refl _) (by omega)
    have k2 := h.nw hl hv hinj (i + 1) (i + 1) (Nat.le_refl _) hi
    show pa (nws p pts vals (i + 1)) (pc p (ddf p pts vals (i + 1) (i + 1)) (pv p pts (i + 1))) = nwP p pts vals (i + 1) (i + 1)
    rw [ih (by omega)]
    apply pa_eq_pz
    have dpv : Dg (pc p (ddf p pts vals (i + 1) (i + 1)) (pv p pts (i + 1))) (i + 2) := fun t ht => by
      show fm p _ _ = 0
      rw [h.pv_dg pts (i + 1) t ht, h.fm_zero]
    have dl : ddf p pts vals (i + 1) (i + 1) < 2 ^ d := by rw [← k2.top]; exact k2.el _
    have dgD : Dg (pa (pa (nwP p pts vals i i) (pc p (ddf p pts vals (i + 1) (i + 1)) (pv p pts (i + 1)))) (nwP p pts vals (i + 1) (i + 1))) (i + 1) := by
      intro t ht
      by_cases e : t = i + 1
      · subst e
        show (nwP p pts vals i i (i + 1) ^^^ fm p _ (pv p pts (i + 1) (i + 1))) ^^^ nwP p pts vals (i + 1) (i + 1) (i + 1) = 0
        rw [k1.dg (i + 1) (Nat.le_refl _), Nat.zero_xor, h.pv_top, h.fm_one dl, k2.top, Nat.xor_self]
      · exact (((k1.dg.mono (by omega)).pa dpv).pa k2.dg) t (by omega)
    refine h.roots_pz (n := i + 1) (pts := pts) ((k1.el.pa (h.el_pc _ _)).pa k2.el) dgD (fun t ht => hl t (by omega)) (fun a b ha hb => hinj a b (by omega) (by omega)) (fun t ht => ?_)
    have hx := hl t (by omega)
    rw [← h.pe_cut (pts t) dgD (Nat.le_succ (i + 1)), h.pe_pa, h.pe_pa, h.pe_pc, h.pe_cut (pts t) k1.dg (Nat.le_succ _), k1.at_ t (by omega) (by omega), k2.at_ t (by omega) (by omega)]
    have hz : pe p (pts t) (i + 2) (pv p pts (i + 1)) = 0 := (h.pv_root hx (i + 1) (fun a ha => hl a (by omega))).2 (by
      have : ∀ m, t < m → 0 < cnt pts (pts t) m := by
        intro m
        induction m with
        | zero => intro h; omega
        | succ m ihm =>
          intro hm
          show 0 < cnt pts (pts t) m + _
          by_cases e : t = m
          · subst e; rw [if_pos rfl]; omega
          · have := ihm (by omega); omega
      exact this _ ht)
    rw [hz, h.fm_zero, Nat.xor_zero, Nat.xor_self]
/-- the same sum from the inside out, k of its n steps done. -/
def nwf (p : Nat) (pts dd : Nat → Nat) (n : Nat) : Nat → Nat → Nat
  | 0 => pz
  | k + 1 => pa (pm p (nwf p pts dd n k) (px (pts (n - 1 - k)))) (mo (dd (n - 1 - k)) 0)
theorem Fld.nwf_dg (h : Fld p d) (pts dd : Nat → Nat) (n : Nat) : ∀ k, Dg (nwf p pts dd n k) k
  | 0 => Dg.pz 0
  | k + 1 => by
    cases k with
    | zero =>
      show Dg (pa (pm p pz _) (mo _ 0)) 1
      rw [h.pz_pm, pz_pa]
      exact mo_dg _ _
    | succ k => exact ((h.dg_pm (h.nwf_dg pts dd n (k + 1)) (px_dg _)).mono (by omega)).pa ((mo_dg _ _).mono (by omega))
theorem Fld.nwf_el (h : Fld p d) {pts dd : Nat → Nat} {n : Nat} (hd : ∀ i, i < n → dd i < 2 ^ d) : ∀ k, k ≤ n → El d (nwf p pts dd n k)
  | 0, _ => El.pz d
  | k + 1, hk => (h.el_pm _ _).pa (el_mo (hd _ (by omega)) 0)
theorem Fld.nwf_sum (h : Fld p d) {pts vals : Nat → Nat} {n : Nat} (hd : ∀ i, i < n → ddf p pts vals i i < 2 ^ d) : ∀ k, k ≤ n →
    pa (nws p pts vals (n - k)) (pm p (pv p pts (n - k)) (nwf p pts (fun i => ddf p pts vals i i) n k)) = nws p pts vals n
  | 0, _ => by
    show pa (nws p pts vals n) (pm p _ pz) = _
    rw [h.pm_pz, pa_pz]
  | k + 1, hk => by
    have ih := h.nwf_sum hd k (by omega)
    obtain ⟨i, hi⟩ : ∃ i, n - k = i + 1 := ⟨n - k - 1, by omega⟩
    have e1 : n - (k + 1) = i := by omega
    have e2 : n - 1 - k = i := by omega
    rw [hi] at ih
    rw [← ih, e1]
    show pa _ (pm p (pv p pts i) (pa (pm p (nwf p pts _ n k) (px (pts (n - 1 - k)))) (mo (ddf p pts vals (n - 1 - k) (n - 1 - k)) 0))) = pa (pa (nws p pts vals i) (pc p (ddf p pts vals i i) (pv p pts i))) (pm p (pm p (pv p pts i) (px (pts i))) _)
    rw [e2, h.pm_pa, h.pm_comm (pv p pts i) (mo _ 0), ← h.pc_mo, h.pm_assoc (pv p pts i) (px (pts i)) _ (h.pv_dg pts i), h.pm_comm (px (pts i)), pa_assoc]
    congr 1
    rw [pa_comm]
/-- what Newton's way makes goes through the points. -/
theorem Fld.newton (h : Fld p d) {pts vals : Nat → Nat} {n : Nat} (hl : ∀ i, i < n → pts i < 2 ^ d) (hv : ∀ i, i < n → vals i < 2 ^ d) (hinj : ∀ i j, i < n → j < n → pts i = pts j → i = j) :
    El d (nwf p pts (fun i => ddf p pts vals i i) n n) ∧ Dg (nwf p pts (fun i => ddf p pts vals i i) n n) n ∧ ∀ t, t < n → pe p (pts t) n (nwf p pts (fun i => ddf p pts vals i i) n n) = vals t := by
  have hd : ∀ i, i < n → ddf p pts vals i i < 2 ^ d := fun i hi => by
    have k := h.nw hl hv hinj i i (Nat.le_refl _) hi
    rw [← k.top]; exact k.el _
  have el := h.nwf_el (pts := pts) (dd := fun i => ddf p pts vals i i) hd n (Nat.le_refl _)
  refine ⟨el, h.nwf_dg _ _ _ _, fun t ht => ?_⟩
  have e := h.nwf_sum hd n (Nat.le_refl _)
  rw [Nat.sub_self] at e
  have e0 : nwf p pts (fun i => ddf p pts vals i i) n n = nws p pts vals n := by
    rw [← e]
    show _ = pa pz (pm p po _)
    rw [pz_pa, h.po_pm el]
  rw [e0]
  obtain ⟨m, rfl⟩ : ∃ m, n = m + 1 := ⟨n - 1, by omega⟩
  rw [h.nws_eq hl hv hinj m (by omega)]
  exact (h.nw hl hv hinj m m (Nat.le_refl _) (by omega)).at_ t (by omega) (by omega)
end Gf2
end Go.Proofs.Ytljfpgebekpjgaa
