import Derived.Test.YtikepkckfnpngaaGpa
namespace Go.Proofs.Ytikepkckfnpngaa
namespace Gf2
set_option linter.unusedVariables false

theorem sx_swap (n m : Nat) (f : Nat → Nat → Nat) : sx n (fun i => sx m (fun j => f i j)) = sx m (fun j => sx n (fun i => f i j)) := by
  induction n with
  | zero => exact (sx_zero (fun _ _ => rfl)).symm
  | succ n ih => simp only [sx]; rw [ih, ← sx_xor]
theorem sx_fm (a n : Nat) (f : Nat → Nat) : fm 285 (sx n f) a = sx n (fun i => fm 285 (f i) a) := by
  rw [fm_comm, fld8.fm_sx]
  exact sx_congr (fun i _ => fm_comm _ _ _)

/-- the product of two matrices, n the middle. -/
def mm (n : Nat) (A B : Nat → Nat → Nat) : Nat → Nat → Nat := fun i j => sx n (fun t => fm 285 (A i t) (B t j))
def idm : Nat → Nat → Nat := fun i j => if i = j then 1 else 0
theorem mm_lt (n : Nat) (A B : Nat → Nat → Nat) (i j : Nat) : mm n A B i j < 256 := sx_lt (d := 8) (fun _ _ => fld8.fm_lt _ _)
theorem mm_congr {n : Nat} {A A' B B' : Nat → Nat → Nat} {i j : Nat} (h : ∀ t, t < n → A i t = A' i t) (k : ∀ t, t < n → B t j = B' t j) : mm n A B i j = mm n A' B' i j :=
  sx_congr (fun t ht => by rw [h t ht, k t ht])
theorem mm_assoc (n k : Nat) (A B C : Nat → Nat → Nat) : mm n A (mm k B C) = mm k (mm n A B) C := by
  funext i j
  unfold mm
  have e : ∀ t, fm 285 (A i t) (sx k (fun s => fm 285 (B t s) (C s j))) = sx k (fun s => fm 285 (fm 285 (A i t) (B t s)) (C s j)) := fun t => by
    rw [fld8.fm_sx]
    exact sx_congr (fun s _ => (fld8.fm_assoc _ _ _).symm)
  rw [sx_congr (fun t _ => e t), sx_swap]
  exact sx_congr (fun s _ => (sx_fm _ _ _).symm)
theorem idm_mm {n : Nat} {B : Nat → Nat → Nat} {i j : Nat} (hi : i < n) (h : B i j < 256) : mm n idm B i j = B i j := by
  unfold mm
  rw [sx_one hi (fun t _ ht => by unfold idm; rw [if_neg (fun e => ht e.symm), fld8.zero_fm])]
  unfold idm
  rw [if_pos rfl, fld8.one_fm h]
theorem mm_idm {n : Nat} {A : Nat → Nat → Nat} {i j : Nat} (hj : j < n) (h : A i j < 256) : mm n A idm i j = A i j := by
  unfold mm
  rw [sx_one hj (fun t _ ht => by unfold idm; rw [if_neg ht, fld8.fm_zero])]
  unfold idm
  rw [if_pos rfl, fld8.fm_one h]

/-- rows t and r change places. -/
def swp {α : Type} (M : Nat → α) (t r : Nat) : Nat → α := fun i => if i = t then M r else if i = r then M t else M i
/-- row t times u. -/
def rsc (u t : Nat) (M : Nat → Nat → Nat) : Nat → Nat → Nat := fun i j => if i = t then fm 285 u (M t j) else M i j
/-- row t, times f i, is added to each other row i. -/
def rad (f : Nat → Nat) (t : Nat) (M : Nat → Nat → Nat) : Nat → Nat → Nat := fun i j => if i = t then M t j else M i j ^^^ fm 285 (f i) (M t j)
theorem mm_swp (n : Nat) (P M : Nat → Nat → Nat) (t r : Nat) : mm n (swp P t r) M = swp (mm n P M) t r := by
  funext i j
  unfold swp mm
  by_cases h1 : i = t
  · simp only [if_pos h1]
  · by_cases h2 : i = r
    · simp only [if_neg h1, if_pos h2]
    · simp only [if_neg h1, if_neg h2]
theorem mm_rsc (n u t : Nat) (P M : Nat → Nat → Nat) : mm n (rsc u t P) M = rsc u t (mm n P M) := by
  funext i j
  unfold rsc mm
  by_cases h1 : i = t
  · simp only [if_pos h1]
    rw [fld8.fm_sx]
    exact sx_congr (fun s _ => fld8.fm_assoc _ _ _)
  · simp only [if_neg h1]
theorem mm_rad (n : Nat) (f : Nat → Nat) (t : Nat) (P M : Nat → Nat → Nat) : mm n (rad f t P) M = rad f t (mm n P M) := by
  funext i j
  unfold rad mm
  by_cases h1 : i = t
  · simp only [if_pos h1]
  · simp only [if_neg h1]
    rw [fld8.fm_sx, ← sx_xor]
    exact sx_congr (fun s _ => by rw [fld8.xor_fm, fld8.fm_assoc])
theorem swp_swp {α : Type} (M : Nat → α) (t r : Nat) : swp (swp M t r) t r = M := by
  funext i
  unfold swp
  by_cases h1 : i = t
  · subst h1
    by_cases h3 : r = i
    · simp [h3]
    · simp [h3]
  · by_cases h2 : i = r
    · subst h2; simp [h1]
    · simp [h1, h2]
theorem rad_rad (f : Nat → Nat) (t : Nat) (M : Nat → Nat → Nat) : rad f t (rad f t M) = M := by
  funext i j
  unfold rad
  by_cases h1 : i = t
  · subst h1; simp
  · simp [h1, Nat.xor_assoc]
theorem rsc_rsc {u v t : Nat} (M : Nat → Nat → Nat) (hu : fm 285 u v = 1) (h : ∀ i j, M i j < 256) : rsc u t (rsc v t M) = M := by
  funext i j
  unfold rsc
  by_cases h1 : i = t
  · subst h1; simp [← fld8.fm_assoc, hu, fld8.one_fm (h i j)]
  · simp [h1]

/-- M is made of M0 by rows, and M0 of M. -/
def Like (n : Nat) (M0 M : Nat → Nat → Nat) : Prop := ∃ P Q : Nat → Nat → Nat, (∀ i, i < n → ∀ j, M i j = mm n P M0 i j) ∧ ∀ i, i < n → ∀ j, M0 i j = mm n Q M i j
theorem Like.refl {n : Nat} {M : Nat → Nat → Nat} (h : ∀ i j, M i j < 256) : Like n M M := ⟨idm, idm, fun i hi j => (idm_mm hi (h i j)).symm, fun i hi j => (idm_mm hi (h i j)).symm⟩
theorem Like.step {n : Nat} {M0 M M' : Nat → Nat → Nat} (h : Like n M0 M) {op op' : (Nat → Nat → Nat) → Nat → Nat → Nat}
    (a1 : ∀ P X, mm n (op P) X = op (mm n P X)) (a2 : ∀ P X, mm n (op' P) X = op' (mm n P X))
    (c1 : ∀ X Y : Nat → Nat → Nat, (∀ i, i < n → ∀ j, X i j = Y i j) → ∀ i, i < n → ∀ j, op X i j = op Y i j)
    (c2 : ∀ X Y : Nat → Nat → Nat, (∀ i, i < n → ∀ j, X i j = Y i j) → ∀ i, i < n → ∀ j, op' X i j = op' Y i j)
    (b : ∀ i j, M' i j < 256)
    (e1 : ∀ i, i < n → ∀ j, M' i j = op M i j) (e2 : ∀ i, i < n → ∀ j, M i j = op' M' i j) : Like n M0 M' := by
  obtain ⟨P, Q, h1, h2⟩ := h
  refine ⟨op P, mm n Q (op' idm), fun i hi j => ?_, fun i hi j => ?_⟩
  · rw [e1 i hi j, a1, c1 M (mm n P M0) h1 i hi j]
  · rw [h2 i hi j, ← mm_assoc]
    refine mm_congr (fun _ _ => rfl) (fun t ht => ?_)
    rw [e2 t ht j, a2]
    exact c2 _ _ (fun i hi j => (idm_mm hi (b i j)).symm) t ht j
/-- what makes the identity of a makes the inverse of the identity. -/
theorem Like.inverse {n : Nat} {M0 M A X : Nat → Nat → Nat} (h : Like n M0 M) (h1 : ∀ i j, i < n → j < n → M0 i j = A i j) (h2 : ∀ i j, i < n → j < n → M0 i (n + j) = idm i j)
    (h3 : ∀ i j, i < n → j < n → M i j = idm i j) (h4 : ∀ i j, i < n → j < n → M i (n + j) = X i j) (bA : ∀ i j, A i j < 256) (bX : ∀ i j, X i j < 256) :
    (∀ i j, i < n → j < n → mm n X A i j = idm i j) ∧ ∀ i j, i < n → j < n → mm n A X i j = idm i j := by
  obtain ⟨P, Q, e1, e2⟩ := h
  have aq : ∀ i j, i < n → j < n → A i j = mm n Q idm i j := fun i j hi hj => by
    rw [← h1 i j hi hj, e2 i hi]
    exact mm_congr (fun _ _ => rfl) (fun t ht => h3 t j ht hj)
  have xq : ∀ i j, i < n → j < n → X i j = mm n P idm i j := fun i j hi hj => by
    rw [← h4 i j hi hj, e1 i hi]
    exact sx_congr (fun t ht => by rw [h2 t j ht hj])
  constructor
  · intro i j hi hj
    rw [← h3 i j hi hj, e1 i hi]
    rw [mm_congr (A' := mm n P idm) (B' := M0) (fun t ht => xq i t hi ht) (fun t ht => (h1 t j ht hj).symm), ← mm_assoc]
    exact mm_congr (fun _ _ => rfl) (fun t ht => idm_mm ht (by rw [h1 t j ht hj]; exact bA _ _))
  · intro i j hi hj
    rw [← h2 i j hi hj, e2 i hi]
    rw [mm_congr (A' := mm n Q idm) (B' := fun t j => M t (n + j)) (fun t ht => aq i t hi ht) (fun t ht => (h4 t j ht hj).symm), ← mm_assoc]
    exact mm_congr (fun _ _ => rfl) (fun t ht => idm_mm ht (by show M t (n + j) < 256; rw [h4 t j ht hj]; exact bX _ _))
/-- of a and a * x: x. -/
theorem Like.solve {n : Nat} {M0 M A X : Nat → Nat → Nat} {k : Nat} (h : Like n M0 M) (h1 : ∀ i j, i < n → j < n → M0 i j = A i j) (h2 : ∀ i j, i < n → j < k → M0 i (n + j) = mm n A X i j)
    (h3 : ∀ i j, i < n → j < n → M i j = idm i j) (bX : ∀ i j, X i j < 256) : ∀ i j, i < n → j < k → M i (n + j) = X i j := by
  obtain ⟨P, Q, e1, e2⟩ := h
  intro i j hi hj
  rw [e1 i hi]
  rw [show mm n P M0 i (n + j) = mm n P (mm n A X) i j from sx_congr (fun t ht => by rw [h2 t j ht hj]), mm_assoc]
  rw [← idm_mm (B := X) hi (bX i j)]
  refine mm_congr (fun t ht => ?_) (fun _ _ => rfl)
  rw [← h3 i t hi ht, e1 i hi]
  exact mm_congr (fun _ _ => rfl) (fun s hs => (h1 s t hs ht).symm)

/-! elimination. -/
/-- the first row from t on, of k rows, that is not 0 in column c. -/
def fr (M : Nat → Nat → Nat) (c : Nat) : Nat → Nat → Nat
  | 0, t => t
  | k + 1, t => if M t c = 0 then fr M c k (t + 1) else t
theorem fr_spec (M : Nat → Nat → Nat) (c : Nat) : ∀ k t, t ≤ fr M c k t ∧ fr M c k t ≤ t + k ∧ (∀ i, t ≤ i → i < fr M c k t → M i c = 0) ∧ (fr M c k t < t + k → M (fr M c k t) c ≠ 0)
  | 0, t => ⟨Nat.le_refl _, Nat.le_refl _, fun i h1 h2 => absurd h2 (by unfold fr; omega), fun h => absurd h (by unfold fr; omega)⟩
  | k + 1, t => by
    unfold fr
    by_cases h : M t c = 0
    · rw [if_pos h]
      obtain ⟨a1, a2, a3, a4⟩ := fr_spec M c k (t + 1)
      refine ⟨by omega, by omega, fun i h1 h2 => ?_, fun h' => a4 (by omega)⟩
      by_cases e : i = t
      · rw [e]; exact h
      · exact a3 i (by omega) h2
    · rw [if_neg h]
      exact ⟨Nat.le_refl _, by omega, fun i h1 h2 => absurd h2 (by omega), fun _ => h⟩
theorem fr_eq {M : Nat → Nat → Nat} {c k t r : Nat} (h1 : t ≤ r) (h2 : r ≤ t + k) (h3 : ∀ i, t ≤ i → i < r → M i c = 0) (h4 : r < t + k → M r c ≠ 0) : fr M c k t = r := by
  obtain ⟨a1, a2, a3, a4⟩ := fr_spec M c k t
  rcases Nat.lt_trichotomy (fr M c k t) r with h | h | h
  · exact absurd (h3 _ a1 h) (a4 (by omega))
  · exact h
  · exact absurd (a3 r h1 h) (h4 (by omega))
theorem fr_congr {M M' : Nat → Nat → Nat} {c k t : Nat} (h : ∀ i, t ≤ i → i < t + k → M i c = M' i c) : fr M c k t = fr M' c k t := by
  obtain ⟨a1, a2, a3, a4⟩ := fr_spec M' c k t
  exact fr_eq a1 a2 (fun i h1 h2 => by rw [h i h1 (by omega)]; exact a3 i h1 h2) (fun h' => by rw [h _ a1 h']; exact a4 h')
/-- what Inv answers. -/
def fv (a : Nat) : Nat := if a = 0 then 0 else fi 285 a
/-- row t scaled from column c on. -/
def scl (M : Nat → Nat → Nat) (t c : Nat) : Nat → Nat → Nat := fun i j => if i = t ∧ c ≤ j then fm 285 (fv (M t c)) (M t j) else M i j
/-- the other rows cleared from column c on. -/
def clr (M : Nat → Nat → Nat) (t c : Nat) : Nat → Nat → Nat := fun i j => if i ≠ t ∧ c ≤ j then M i j ^^^ fm 285 (M i c) (M t j) else M i j
structure St where
  M : Nat → Nat → Nat
  t : Nat
  P : Nat → Nat
  d : Nat
/-- one column. -/
def stp (m c : Nat) (s : St) : St :=
  if s.t = m then s else if fr s.M c (m - s.t) s.t = m then s else
    ⟨clr (scl (swp s.M s.t (fr s.M c (m - s.t) s.t)) s.t c) s.t c, s.t + 1, fun i => if i = s.t then c else s.P i, fm 285 s.d (s.M (fr s.M c (m - s.t) s.t) c)⟩
/-- the first c columns. -/
def elm (m : Nat) (M : Nat → Nat → Nat) : Nat → St
  | 0 => ⟨M, 0, fun _ => 0, 1⟩
  | c + 1 => stp m c (elm m M c)

/-- what holds behind c columns. -/
structure Red (m c : Nat) (M0 : Nat → Nat → Nat) (s : St) : Prop where
  tm : s.t ≤ m
  tc : s.t ≤ c
  lt : ∀ i j, s.M i j < 256
  pc : ∀ i, i < s.t → s.P i < c
  up : ∀ i k, i < k → k < s.t → s.P i < s.P k
  unit : ∀ i k, i < m → k < s.t → s.M i (s.P k) = idm i k
  ahead : ∀ k j, k < s.t → j < s.P k → s.M k j = 0
  rest : ∀ i j, s.t ≤ i → i < m → j < c → s.M i j = 0
  d0 : s.d ≠ 0
  d1 : s.d < 256
  like : Like m M0 s.M
theorem fv_lt {a : Nat} (h : a < 256) : fv a < 256 := by
  unfold fv
  split
  · decide
  · next h0 => exact fld8.fi_lt h h0
theorem fv_mul {a : Nat} (h : a < 256) (h0 : a ≠ 0) : fm 285 (fv a) a = 1 := by
  unfold fv
  rw [if_neg h0, fm_comm, fld8.fi_mul h h0]
theorem xor_lt8 {a b : Nat} (h : a < 256) (k : b < 256) : a ^^^ b < 256 := Nat.xor_lt_two_pow (n := 8) h k
theorem red_start {m : Nat} {M : Nat → Nat → Nat} (h : ∀ i j, M i j < 256) : Red m 0 M (elm m M 0) := by
  refine ⟨Nat.zero_le _, Nat.le_refl _, h, ?_, ?_, ?_, ?_, ?_, ?_, ?_, Like.refl h⟩
  · intro i hi; exact absurd hi (Nat.not_lt_zero _)
  · intro i k _ hk; exact absurd hk (Nat.not_lt_zero _)
  · intro i k _ hk; exact absurd hk (Nat.not_lt_zero _)
  · intro k j hk; exact absurd hk (Nat.not_lt_zero _)
  · intro i j _ _ hj; exact absurd hj (Nat.not_lt_zero _)
  · show (1 : Nat) ≠ 0; decide
  · show (1 : Nat) < 256; decide
theorem Red.skip {m c : Nat} {M0 : Nat → Nat → Nat} {s : St} (h : Red m c M0 s) (hz : ∀ i, s.t ≤ i → i < m → s.M i c = 0) : Red m (c + 1) M0 s := by
  obtain ⟨a1, a2, a3, a4, a5, a6, a7, a8, a9, a10, a11⟩ := h
  refine ⟨a1, by omega, a3, fun i hi => by have := a4 i hi; omega, a5, a6, a7, fun i j h1 h2 h3 => ?_, a9, a10, a11⟩
  by_cases e : j = c
  · rw [e]; exact hz i h1 h2
  · exact a8 i j h1 h2 (by omega)
theorem swp_lt {M : Nat → Nat → Nat} (h : ∀ i j, M i j < 256) (t r i j : Nat) : swp M t r i j < 256 := by
  unfold swp
  split
  · exact h _ _
  · split
    · exact h _ _
    · exact h _ _
theorem rsc_lt {M : Nat → Nat → Nat} (h : ∀ i j, M i j < 256) (u t i j : Nat) : rsc u t M i j < 256 := by
  unfold rsc
  split
  · exact fld8.fm_lt _ _
  · exact h _ _
theorem rad_lt {M : Nat → Nat → Nat} (h : ∀ i j, M i j < 256) (f : Nat → Nat) (t i j : Nat) : rad f t M i j < 256 := by
  unfold rad
  split
  · exact h _ _
  · exact xor_lt8 (h _ _) (fld8.fm_lt _ _)
theorem Red.pivot {m c r : Nat} {M0 : Nat → Nat → Nat} {s : St} (h : Red m c M0 s) (htm : s.t < m) (htr : s.t ≤ r) (hr : r < m) (hz : ∀ i, s.t ≤ i → i < r → s.M i c = 0) (h0 : s.M r c ≠ 0) :
    Red m (c + 1) M0 ⟨clr (scl (swp s.M s.t r) s.t c) s.t c, s.t + 1, fun i => if i = s.t then c else s.P i, fm 285 s.d (s.M r c)⟩ := by
  obtain ⟨a1, a2, a3, a4, a5, a6, a7, a8, a9, a10, a11⟩ := h
  obtain ⟨M, t, P, d⟩ := s
  simp only at *
  -- the rows as they are swapped
  have z1 : ∀ j, j < c → swp M t r t j = 0 := fun j hj => by
    unfold swp; rw [if_pos rfl]; exact a8 r j htr hr hj
  have l1 := swp_lt a3 t r
  have e1 : swp M t r t c = M r c := by unfold swp; rw [if_pos rfl]
  generalize hM1 : swp M t r = M1 at *
  have e2 : scl M1 t c = rsc (fv (M r c)) t M1 := by
    funext i j
    unfold scl rsc
    by_cases h1 : i = t
    · subst h1
      by_cases h2 : c ≤ j
      · rw [if_pos ⟨rfl, h2⟩, if_pos rfl, e1]
      · rw [if_neg (fun e => h2 e.2), if_pos rfl, z1 j (by omega), fld8.fm_zero]
    · rw [if_neg (fun e => h1 e.1), if_neg h1]
  have l2 := rsc_lt l1 (fv (M r c)) t
  have z2 : ∀ j, j < c → rsc (fv (M r c)) t M1 t j = 0 := fun j hj => by
    unfold rsc; rw [if_pos rfl, z1 j hj, fld8.fm_zero]
  have o2 : rsc (fv (M r c)) t M1 t c = 1 := by
    unfold rsc; rw [if_pos rfl, e1, fv_mul (a3 r c) h0]
  have hi2 : ∀ i j, i ≠ t → rsc (fv (M r c)) t M1 i j = M1 i j := fun i j hi => by unfold rsc; rw [if_neg hi]
  rw [e2]
  generalize hM2 : rsc (fv (M r c)) t M1 = M2 at *
  have e3 : clr M2 t c = rad (fun i => M2 i c) t M2 := by
    funext i j
    unfold clr rad
    by_cases h1 : i = t
    · subst h1
      rw [if_neg (fun e => e.1 rfl), if_pos rfl]
    · rw [if_neg h1]
      by_cases h2 : c ≤ j
      · rw [if_pos ⟨h1, h2⟩]
      · rw [if_neg (fun e => h2 e.2), z2 j (by omega), fld8.fm_zero, Nat.xor_zero]
  rw [e3]
  have l3 := rad_lt l2 (fun i => M2 i c) t
  have t3 : ∀ j, rad (fun i => M2 i c) t M2 t j = M2 t j := fun j => by unfold rad; rw [if_pos rfl]
  have n3 : ∀ i j, i ≠ t → rad (fun i => M2 i c) t M2 i j = M2 i j ^^^ fm 285 (M2 i c) (M2 t j) := fun i j hi => by unfold rad; rw [if_neg hi]
  have like3 : Like m M0 (rad (fun i => M2 i c) t M2) := by
    have k1 : Like m M0 M1 := a11.step (op := fun X => swp X t r) (op' := fun X => swp X t r) (fun P X => mm_swp _ _ _ _ _) (fun P X => mm_swp _ _ _ _ _)
      (fun X Y hXY i hi j => by unfold swp; split; exact hXY _ hr _; split; exact hXY _ htm _; exact hXY _ hi _)
      (fun X Y hXY i hi j => by unfold swp; split; exact hXY _ hr _; split; exact hXY _ htm _; exact hXY _ hi _) l1 (fun i _ j => by rw [← hM1]) (fun i _ j => by rw [← hM1, swp_swp])
    have k2 : Like m M0 M2 := k1.step (op := rsc (fv (M r c)) t) (op' := rsc (M r c) t) (fun P X => mm_rsc _ _ _ _ _) (fun P X => mm_rsc _ _ _ _ _)
      (fun X Y hXY i hi j => by unfold rsc; split; rw [hXY _ htm _]; exact hXY _ hi _)
      (fun X Y hXY i hi j => by unfold rsc; split; rw [hXY _ htm _]; exact hXY _ hi _) l2 (fun i _ j => by rw [← hM2]) (fun i _ j => by rw [← hM2, rsc_rsc _ (by rw [fm_comm]; exact fv_mul (a3 r c) h0) l1])
    exact k2.step (op := rad (fun i => M2 i c) t) (op' := rad (fun i => M2 i c) t) (fun P X => mm_rad _ _ _ _ _) (fun P X => mm_rad _ _ _ _ _)
      (fun X Y hXY i hi j => by unfold rad; split; exact hXY _ htm _; rw [hXY _ hi _, hXY _ htm _])
      (fun X Y hXY i hi j => by unfold rad; split; exact hXY _ htm _; rw [hXY _ hi _, hXY _ htm _]) l3 (fun _ _ _ => rfl) (fun i _ j => by rw [rad_rad])
  have m1 : ∀ i j, i < m → i ≠ t → ∃ i', i' < m ∧ M1 i j = M i' j ∧ (i < t → i' = i) ∧ (t ≤ i → t ≤ i') := fun i j hi hit => by
    rw [← hM1]
    unfold swp
    rw [if_neg hit]
    by_cases e : i = r
    · rw [if_pos e]; exact ⟨t, htm, rfl, fun h => by omega, fun _ => Nat.le_refl _⟩
    · rw [if_neg e]; exact ⟨i, hi, rfl, fun _ => rfl, fun h => h⟩
  refine ⟨by show t + 1 ≤ m; omega, by show t + 1 ≤ c + 1; omega, l3, ?_, ?_, ?_, ?_, ?_, fld8.fm_ne a10 (a3 r c) a9 h0, fld8.fm_lt _ _, like3⟩
  · intro i hi
    show (if i = t then c else P i) < c + 1
    have hi' : i < t + 1 := hi
    split
    · omega
    · have := a4 i (by omega); omega
  · intro i k hik hk
    show (if i = t then c else P i) < (if k = t then c else P k)
    have hk' : k < t + 1 := hk
    rw [if_neg (by omega)]
    split
    · exact a4 i (by omega)
    · exact a5 i k hik (by omega)
  · intro i k hi hk
    have hk' : k < t + 1 := hk
    show rad (fun i => M2 i c) t M2 i (if k = t then c else P k) = idm i k
    by_cases ek : k = t
    · rw [if_pos ek, ek]
      by_cases ei : i = t
      · rw [ei, t3, o2]; unfold idm; rw [if_pos rfl]
      · rw [n3 i c ei, o2, fld8.fm_one (l2 i c), Nat.xor_self]; unfold idm; rw [if_neg ei]
    · rw [if_neg ek]
      have pk := a4 k (by omega)
      by_cases ei : i = t
      · rw [ei, t3, z2 _ pk]; unfold idm; rw [if_neg (by omega)]
      · rw [n3 i _ ei, z2 _ pk, fld8.fm_zero, Nat.xor_zero, hi2 i _ ei]
        obtain ⟨i', h1, h2, h3, h4⟩ := m1 i (P k) hi ei
        rw [h2]
        by_cases hit : i < t
        · rw [h3 hit]; exact a6 i k hi (by omega)
        · rw [a8 i' _ (h4 (by omega)) h1 pk]; unfold idm; rw [if_neg (by omega)]
  · intro k j hk hj
    have hk' : k < t + 1 := hk
    have hj' : j < (if k = t then c else P k) := hj
    show rad (fun i => M2 i c) t M2 k j = 0
    by_cases ek : k = t
    · rw [if_pos ek] at hj'
      rw [ek, t3, z2 j hj']
    · rw [if_neg ek] at hj'
      have pk := a4 k (by omega)
      rw [n3 k j ek, z2 j (by omega), fld8.fm_zero, Nat.xor_zero, hi2 k j ek]
      obtain ⟨i', h1, h2, h3, h4⟩ := m1 k j (by omega) ek
      rw [h2, h3 (by omega)]
      exact a7 k j (by omega) hj'
  · intro i j h1 h2 hj
    have h1' : t + 1 ≤ i := h1
    show rad (fun i => M2 i c) t M2 i j = 0
    have ei : i ≠ t := by omega
    by_cases ej : j = c
    · rw [ej, n3 i c ei, o2, fld8.fm_one (l2 i c), Nat.xor_self]
    · rw [n3 i j ei, z2 j (by omega), fld8.fm_zero, Nat.xor_zero, hi2 i j ei]
      obtain ⟨i', g1, g2, g3, g4⟩ := m1 i j h2 ei
      rw [g2]
      exact a8 i' j (g4 (by omega)) g1 (by omega)
theorem red_elm {m : Nat} {M : Nat → Nat → Nat} (h : ∀ i j, M i j < 256) : ∀ c, Red m c M (elm m M c)
  | 0 => red_start h
  | c + 1 => by
    have ih := red_elm (m := m) h c
    unfold elm stp
    by_cases h1 : (elm m M c).t = m
    · rw [if_pos h1]; exact ih.skip (fun i h2 h3 => by omega)
    · rw [if_neg h1]
      have htm : (elm m M c).t < m := by have := ih.tm; omega
      obtain ⟨b1, b2, b3, b4⟩ := fr_spec (elm m M c).M c (m - (elm m M c).t) (elm m M c).t
      by_cases h2 : fr (elm m M c).M c (m - (elm m M c).t) (elm m M c).t = m
      · rw [if_pos h2]
        refine ih.skip (fun i h3 h4 => b3 i h3 (by omega))
      · rw [if_neg h2]
        exact ih.pivot htm b1 (by omega) b3 (b4 (by omega))
/-- the first C columns go by themselves. -/
theorem elm_local {m C : Nat} {M M' : Nat → Nat → Nat} (h : ∀ i j, i < m → j < C → M i j = M' i j) : ∀ c, c ≤ C → (elm m M c).t = (elm m M' c).t ∧ (elm m M c).P = (elm m M' c).P ∧ (elm m M c).d = (elm m M' c).d ∧ ∀ i j, i < m → j < C → (elm m M c).M i j = (elm m M' c).M i j
  | 0, _ => ⟨rfl, rfl, rfl, h⟩
  | c + 1, hc => by
    obtain ⟨e1, e2, e3, e4⟩ := elm_local h c (by omega)
    unfold elm stp
    rw [e1]
    by_cases h1 : (elm m M' c).t = m
    · rw [if_pos h1, if_pos h1]; exact ⟨e1, e2, e3, e4⟩
    · rw [if_neg h1, if_neg h1]
      have tm : ∀ c, (elm m M' c).t ≤ m := fun c => by
        induction c with
        | zero => exact Nat.zero_le _
        | succ c ih =>
          unfold elm stp
          split
          · exact ih
          · split
            · exact ih
            · show (elm m M' c).t + 1 ≤ m; omega
      have htm := tm c
      have ef : fr (elm m M c).M c (m - (elm m M' c).t) (elm m M' c).t = fr (elm m M' c).M c (m - (elm m M' c).t) (elm m M' c).t := fr_congr (fun i h2 h3 => e4 i c (by omega) (by omega))
      rw [ef]
      obtain ⟨b1, b2, b3, b4⟩ := fr_spec (elm m M' c).M c (m - (elm m M' c).t) (elm m M' c).t
      generalize fr (elm m M' c).M c (m - (elm m M' c).t) (elm m M' c).t = r at *
      by_cases h2 : r = m
      · rw [if_pos h2, if_pos h2]; exact ⟨e1, e2, e3, e4⟩
      · rw [if_neg h2, if_neg h2]
        generalize elm m M c = s at *
        generalize elm m M' c = s' at *
        have t1 : ∀ i j, i < m → j < C → swp s.M s'.t r i j = swp s'.M s'.t r i j := fun i j hi hj => by
          unfold swp
          split
          · exact e4 _ _ (by omega) hj
          · split
            · exact e4 _ _ (by omega) hj
            · exact e4 _ _ hi hj
        have t2 : ∀ i j, i < m → j < C → scl (swp s.M s'.t r) s'.t c i j = scl (swp s'.M s'.t r) s'.t c i j := fun i j hi hj => by
          unfold scl
          split
          · rw [t1 _ c (by omega) (by omega), t1 _ j (by omega) hj]
          · exact t1 i j hi hj
        refine ⟨rfl, by simp only [e2], by simp only [e3]; rw [e4 r c (by omega) (by omega)], fun i j hi hj => ?_⟩
        show clr _ _ _ i j = clr _ _ _ i j
        unfold clr
        split
        · rw [t2 i j hi hj, t2 i c hi (by omega), t2 _ j (by omega) hj]
        · exact t2 i j hi hj
/-- with a pivot in each of n columns they are the identity. -/
theorem Red.full {n : Nat} {M0 : Nat → Nat → Nat} {s : St} (h : Red n n M0 s) (ht : s.t = n) : ∀ i j, i < n → j < n → s.M i j = idm i j := by
  have ge : ∀ k, k < n → k ≤ s.P k := by
    intro k
    induction k with
    | zero => intro _; exact Nat.zero_le _
    | succ k ih => intro hk; have := h.up k (k + 1) (by omega) (by omega); have := ih (by omega); omega
  have le : ∀ q k, q + k + 1 = n → s.P k ≤ k := by
    intro q
    induction q with
    | zero => intro k hk; have := h.pc k (by omega); omega
    | succ q ih => intro k hk; have := h.up k (k + 1) (by omega) (by omega); have := ih (k + 1) (by omega); omega
  intro i j hi hj
  have e : s.P j = j := Nat.le_antisymm (le (n - 1 - j) j (by omega)) (ge j hj)
  have := h.unit i j hi (by omega)
  rw [e] at this
  exact this
end Gf2
end Go.Proofs.Ytikepkckfnpngaa
