import Derived.Test.YtefolifecbhgoaaGreatMbaa
namespace Go.Proofs.YtefolifecbhgoaaGreat
namespace Gf2
set_option linter.unusedVariables false

def sx : Nat → (Nat → Nat) → Nat
  | 0, _ => 0
  | n + 1, f => sx n f ^^^ f n
theorem sx_congr {n : Nat} {f g : Nat → Nat} (h : ∀ i, i < n → f i = g i) : sx n f = sx n g := by
  induction n with
  | zero => rfl
  | succ n ih => simp only [sx]; rw [ih (fun i hi => h i (by omega)), h n (by omega)]
theorem sx_zero {n : Nat} {f : Nat → Nat} (h : ∀ i, i < n → f i = 0) : sx n f = 0 := by
  induction n with
  | zero => rfl
  | succ n ih => simp only [sx]; rw [ih (fun i hi => h i (by omega)), h n (by omega)]; rfl
theorem sx_xor (n : Nat) (f g : Nat → Nat) : sx n (fun i => f i ^^^ g i) = sx n f ^^^ sx n g := by
  induction n with
  | zero => simp [sx]
  | succ n ih => simp only [sx]; rw [ih]; ac_rfl
theorem sx_split (a b : Nat) (f : Nat → Nat) : sx (a + b) f = sx a f ^^^ sx b (fun i => f (a + i)) := by
  induction b with
  | zero => simp [sx]
  | succ b ih =>
    show sx (a + b) f ^^^ f (a + b) = _
    rw [ih, Nat.xor_assoc]; rfl
theorem sx_first (n : Nat) (f : Nat → Nat) : sx (n + 1) f = f 0 ^^^ sx n (fun i => f (i + 1)) := by
  have := sx_split 1 n f
  rw [Nat.add_comm n 1, this]
  simp only [sx, Nat.zero_xor]
  congr 1
  exact sx_congr (fun i _ => by rw [Nat.add_comm])
theorem sx_cut {m n : Nat} {f : Nat → Nat} (hmn : m ≤ n) (h : ∀ i, m ≤ i → i < n → f i = 0) : sx n f = sx m f := by
  obtain ⟨k, rfl⟩ : ∃ k, n = m + k := ⟨n - m, by omega⟩
  rw [sx_split, sx_zero (n := k) (fun i hi => h (m + i) (by omega) (by omega)), Nat.xor_zero]
theorem sx_one {n k : Nat} {f : Nat → Nat} (hk : k < n) (h : ∀ i, i < n → i ≠ k → f i = 0) : sx n f = f k := by
  rw [sx_cut (m := k + 1) (by omega) (fun i h1 h2 => h i h2 (by omega))]
  simp only [sx]
  rw [sx_zero (fun i hi => h i (by omega) (by omega)), Nat.zero_xor]
theorem sx_lt {n d : Nat} {f : Nat → Nat} (h : ∀ i, i < n → f i < 2 ^ d) : sx n f < 2 ^ d := by
  induction n with
  | zero => exact Nat.two_pow_pos d
  | succ n ih => exact Nat.xor_lt_two_pow (ih (fun i hi => h i (by omega))) (h n (by omega))

variable {p d : Nat}

theorem Fld.fm_sx (h : Fld p d) (a n : Nat) (f : Nat → Nat) : fm p a (sx n f) = sx n (fun i => fm p a (f i)) := by
  induction n with
  | zero => exact h.fm_zero a
  | succ n ih => simp only [sx]; rw [h.fm_xor, ih]

/-! polynomials over the field: their coefficients. -/
def El (d : Nat) (f : Nat → Nat) : Prop := ∀ i, f i < 2 ^ d
def pa (f g : Nat → Nat) : Nat → Nat := fun i => f i ^^^ g i
def pc (p a : Nat) (f : Nat → Nat) : Nat → Nat := fun i => fm p a (f i)
def ps (k : Nat) (f : Nat → Nat) : Nat → Nat := fun i => if i < k then 0 else f (i - k)
theorem El.pa {f g : Nat → Nat} (h : El d f) (k : El d g) : El d (pa f g) := fun i => Nat.xor_lt_two_pow (h i) (k i)
theorem El.ps {f : Nat → Nat} (h : El d f) (k : Nat) : El d (ps k f) := fun i => by unfold Gf2.ps; split; exact Nat.two_pow_pos d; exact h _
theorem El.cut {f : Nat → Nat} (h : El d f) (n : Nat) : El d (fun i => if i < n then f i else 0) := fun i => by
  show (if i < n then f i else 0) < 2 ^ d
  split
  · exact h i
  · exact Nat.two_pow_pos d
end Gf2
end Go.Proofs.YtefolifecbhgoaaGreat
namespace Go.Proofs.YtefolifecbhgoaaGreat
namespace Gf2
set_option linter.unusedVariables false

theorem sx_swap (n m : Nat) (f : Nat → Nat → Nat) : sx n (fun i => sx m (fun j => f i j)) = sx m (fun j => sx n (fun i => f i j)) := by
  induction n with
  | zero => exact (sx_zero (fun _ _ => rfl)).symm
  | succ n ih => simp only [sx]; rw [ih, ← sx_xor]
theorem sx_fm (a n : Nat) (f : Nat → Nat) : fm 285 (sx n f) a = sx n (fun i => fm 285 (f i) a) := by
  rw [fm_comm, fld8.fm_sx]
  exact sx_congr (fun i _ => fm_comm _ _ _)

def mm (n : Nat) (A B : Nat → Nat → Nat) : Nat → Nat → Nat := fun i j => sx n (fun t => fm 285 (A i t) (B t j))
def idm : Nat → Nat → Nat := fun i j => if i = j then 1 else 0
theorem mm_congr {n : Nat} {A A' B B' : Nat → Nat → Nat} {i j : Nat} (h : ∀ t, t < n → A i t = A' i t) (k : ∀ t, t < n → B t j = B' t j) : mm n A B i j = mm n A' B' i j :=
  sx_congr (fun t ht => by rw [h t ht, k t ht])
theorem mm_assoc (n k : Nat) (A B C : Nat → Nat → Nat) : mm n A (mm k B C) = mm k (mm n A B) C := by
  funext i j
  unfold mm
  have e : ∀ t, fm 285 (A i t) (sx k (fun s => fm 285 (B t s) (C s j))) = sx k (fun s => fm 285 (fm 285 (A i t) (B t s)) (C s j)) := fun t => by
    rw [fld8.fm_sx]
    exact sx_congr (fun s _ => (fld8.fm_assoc _ _ _).symm)
  rw [sx_congr (fun t _ => e t), sx_swap]
  exact sx_congr (fun s _ => (sx_fm _ _ _).symm)
theorem idm_mm {n : Nat} {B : Nat → Nat → Nat} {i j : Nat} (hi : i < n) (h : B i j < 256) : mm n idm B i j = B i j := by
  unfold mm
  rw [sx_one hi (fun t _ ht => by unfold idm; rw [if_neg (fun e => ht e.symm), fld8.zero_fm])]
  unfold idm
  rw [if_pos rfl, fld8.one_fm h]
theorem mm_idm {n : Nat} {A : Nat → Nat → Nat} {i j : Nat} (hj : j < n) (h : A i j < 256) : mm n A idm i j = A i j := by
  unfold mm
  rw [sx_one hj (fun t _ ht => by unfold idm; rw [if_neg ht, fld8.fm_zero])]
  unfold idm
  rw [if_pos rfl, fld8.fm_one h]

def swp {α : Type} (M : Nat → α) (t r : Nat) : Nat → α := fun i => if i = t then M r else if i = r then M t else M i
def rsc (u t : Nat) (M : Nat → Nat → Nat) : Nat → Nat → Nat := fun i j => if i = t then fm 285 u (M t j) else M i j
def rad (f : Nat → Nat) (t : Nat) (M : Nat → Nat → Nat) : Nat → Nat → Nat := fun i j => if i = t then M t j else M i j ^^^ fm 285 (f i) (M t j)
theorem mm_swp (n : Nat) (P M : Nat → Nat → Nat) (t r : Nat) : mm n (swp P t r) M = swp (mm n P M) t r := by
  funext i j
  unfold swp mm
  by_cases h1 : i = t
  · simp only [if_pos h1]
  · by_cases h2 : i = r
    · simp only [if_neg h1, if_pos h2]
    · simp only [if_neg h1, if_neg h2]
theorem mm_rsc (n u t : Nat) (P M : Nat → Nat → Nat) : mm n (rsc u t P) M = rsc u t (mm n P M) := by
  funext i j
  unfold rsc mm
  by_cases h1 : i = t
  · simp only [if_pos h1]
    rw [fld8.fm_sx]
    exact sx_congr (fun s _ => fld8.fm_assoc _ _ _)
  · simp only [if_neg h1]
theorem mm_rad (n : Nat) (f : Nat → Nat) (t : Nat) (P M : Nat → Nat → Nat) : mm n (rad f t P) M = rad f t (mm n P M) := by
  funext i j
  unfold rad mm
  by_cases h1 : i = t
  · simp only [if_pos h1]
  · simp only [if_neg h1]
    rw [fld8.fm_sx, ← sx_xor]
    exact sx_congr (fun s _ => by rw [fld8.xor_fm, fld8.fm_assoc])
theorem swp_swp {α : Type} (M : Nat → α) (t r : Nat) : swp (swp M t r) t r = M := by
  funext i
  unfold swp
  by_cases h1 : i = t
  · subst h1
    by_cases h3 : r = i
    · simp [h3]
    · simp [h3]
  · by_cases h2 : i = r
    · subst h2; simp [h1]
    · simp [h1, h2]
theorem rad_rad (f : Nat → Nat) (t : Nat) (M : Nat → Nat → Nat) : rad f t (rad f t M) = M := by
  funext i j
  unfold rad
  by_cases h1 : i = t
  · subst h1; simp
  · simp [h1, Nat.xor_assoc]
theorem rsc_rsc {u v t : Nat} (M : Nat → Nat → Nat) (hu : fm 285 u v = 1) (h : ∀ i j, M i j < 256) : rsc u t (rsc v t M) = M := by
  funext i j
  unfold rsc
  by_cases h1 : i = t
  · subst h1; simp [← fld8.fm_assoc, hu, fld8.one_fm (h i j)]
  · simp [h1]

def Like (n : Nat) (M0 M : Nat → Nat → Nat) : Prop := ∃ P Q : Nat → Nat → Nat, (∀ i, i < n → ∀ j, M i j = mm n P M0 i j) ∧ ∀ i, i < n → ∀ j, M0 i j = mm n Q M i j
theorem Like.refl {n : Nat} {M : Nat → Nat → Nat} (h : ∀ i j, M i j < 256) : Like n M M := ⟨idm, idm, fun i hi j => (idm_mm hi (h i j)).symm, fun i hi j => (idm_mm hi (h i j)).symm⟩
theorem Like.step {n : Nat} {M0 M M' : Nat → Nat → Nat} (h : Like n M0 M) {op op' : (Nat → Nat → Nat) → Nat → Nat → Nat}
    (a1 : ∀ P X, mm n (op P) X = op (mm n P X)) (a2 : ∀ P X, mm n (op' P) X = op' (mm n P X))
    (c1 : ∀ X Y : Nat → Nat → Nat, (∀ i, i < n → ∀ j, X i j = Y i j) → ∀ i, i < n → ∀ j, op X i j = op Y i j)
    (c2 : ∀ X Y : Nat → Nat → Nat, (∀ i, i < n → ∀ j, X i j = Y i j) → ∀ i, i < n → ∀ j, op' X i j = op' Y i j)
    (b : ∀ i j, M' i j < 256)
    (e1 : ∀ i, i < n → ∀ j, M' i j = op M i j) (e2 : ∀ i, i < n → ∀ j, M i j = op' M' i j) : Like n M0 M' := by
  obtain ⟨P, Q, h1, h2⟩ := h
  refine ⟨op P, mm n Q (op' idm), fun i hi j => ?_, fun i hi j => ?_⟩
  · rw [e1 i hi j, a1, c1 M (mm n P M0) h1 i hi j]
  · rw [h2 i hi j, ← mm_assoc]
    refine mm_congr (fun _ _ => rfl) (fun t ht => ?_)
    rw [e2 t ht j, a2]
    exact c2 _ _ (fun i hi j => (idm_mm hi (b i j)).symm) t ht j
theorem Like.inverse {n : Nat} {M0 M A X : Nat → Nat → Nat} (h : Like n M0 M) (h1 : ∀ i j, i < n → j < n → M0 i j = A i j) (h2 : ∀ i j, i < n → j < n → M0 i (n + j) = idm i j)
    (h3 : ∀ i j, i < n → j < n → M i j = idm i j) (h4 : ∀ i j, i < n → j < n → M i (n + j) = X i j) (bA : ∀ i j, A i j < 256) (bX : ∀ i j, X i j < 256) :
    (∀ i j, i < n → j < n → mm n X A i j = idm i j) ∧ ∀ i j, i < n → j < n → mm n A X i j = idm i j := by
  obtain ⟨P, Q, e1, e2⟩ := h
  have aq : ∀ i j, i < n → j < n → A i j = mm n Q idm i j := fun i j hi hj => by
    rw [← h1 i j hi hj, e2 i hi]
    exact mm_congr (fun _ _ => rfl) (fun t ht => h3 t j ht hj)
  have xq : ∀ i j, i < n → j < n → X i j = mm n P idm i j := fun i j hi hj => by
    rw [← h4 i j hi hj, e1 i hi]
    exact sx_congr (fun t ht => by rw [h2 t j ht hj])
  constructor
  · intro i j hi hj
    rw [← h3 i j hi hj, e1 i hi]
    rw [mm_congr (A' := mm n P idm) (B' := M0) (fun t ht => xq i t hi ht) (fun t ht => (h1 t j ht hj).symm), ← mm_assoc]
    exact mm_congr (fun _ _ => rfl) (fun t ht => idm_mm ht (by rw [h1 t j ht hj]; exact bA _ _))
  · intro i j hi hj
    rw [← h2 i j hi hj, e2 i hi]
    rw [mm_congr (A' := mm n Q idm) (B' := fun t j => M t (n + j)) (fun t ht => aq i t hi ht) (fun t ht => (h4 t j ht hj).symm), ← mm_assoc]
    exact mm_congr (fun _ _ => rfl) (fun t ht => idm_mm ht (by show M t (n + j) < 256; rw [h4 t j ht hj]; exact bX _ _))
/-! elimination. -/
def fr (M : Nat → Nat → Nat) (c : Nat) : Nat → Nat → Nat
  | 0, t => t
  | k + 1, t => if M t c = 0 then fr M c k (t + 1) else t
theorem fr_spec (M : Nat → Nat → Nat) (c : Nat) : ∀ k t, t ≤ fr M c k t ∧ fr M c k t ≤ t + k ∧ (∀ i, t ≤ i → i < fr M c k t → M i c = 0) ∧ (fr M c k t < t + k → M (fr M c k t) c ≠ 0)
  | 0, t => ⟨Nat.le_refl _, Nat.le_refl _, fun i h1 h2 => absurd h2 (by unfold fr; omega), fun h => absurd h (by unfold fr; omega)⟩
  | k + 1, t => by
    unfold fr
    by_cases h : M t c = 0
    · rw [if_pos h]
      obtain ⟨a1, a2, a3, a4⟩ := fr_spec M c k (t + 1)
      refine ⟨by omega, by omega, fun i h1 h2 => ?_, fun h' => a4 (by omega)⟩
      by_cases e : i = t
      · rw [e]; exact h
      · exact a3 i (by omega) h2
    · rw [if_neg h]
      exact ⟨Nat.le_refl _, by omega, fun i h1 h2 => absurd h2 (by omega), fun _ => h⟩
theorem fr_eq {M : Nat → Nat → Nat} {c k t r : Nat} (h1 : t ≤ r) (h2 : r ≤ t + k) (h3 : ∀ i, t ≤ i → i < r → M i c = 0) (h4 : r < t + k → M r c ≠ 0) : fr M c k t = r := by
  obtain ⟨a1, a2, a3, a4⟩ := fr_spec M c k t
  rcases Nat.lt_trichotomy (fr M c k t) r with h | h | h
  · exact absurd (h3 _ a1 h) (a4 (by omega))
  · exact h
  · exact absurd (a3 r h1 h) (h4 (by omega))
theorem fr_congr {M M' : Nat → Nat → Nat} {c k t : Nat} (h : ∀ i, t ≤ i → i < t + k → M i c = M' i c) : fr M c k t = fr M' c k t := by
  obtain ⟨a1, a2, a3, a4⟩ := fr_spec M' c k t
  exact fr_eq a1 a2 (fun i h1 h2 => by rw [h i h1 (by omega)]; exact a3 i h1 h2) (fun h' => by rw [h _ a1 h']; exact a4 h')
def fv (a : Nat) : Nat := if a = 0 then 0 else fi 285 a
def scl (M : Nat → Nat → Nat) (t c : Nat) : Nat → Nat → Nat := fun i j => if i = t ∧ c ≤ j then fm 285 (fv (M t c)) (M t j) else M i j
def clr (M : Nat → Nat → Nat) (t c : Nat) : Nat → Nat → Nat := fun i j => if i ≠ t ∧ c ≤ j then M i j ^^^ fm 285 (M i c) (M t j) else M i j
structure St where
  M : Nat → Nat → Nat
  t : Nat
  P : Nat → Nat
  d : Nat
def stp (m c : Nat) (s : St) : St :=
  if s.t = m then s else if fr s.M c (m - s.t) s.t = m then s else
    ⟨clr (scl (swp s.M s.t (fr s.M c (m - s.t) s.t)) s.t c) s.t c, s.t + 1, fun i => if i = s.t then c else s.P i, fm 285 s.d (s.M (fr s.M c (m - s.t) s.t) c)⟩
def elm (m : Nat) (M : Nat → Nat → Nat) : Nat → St
  | 0 => ⟨M, 0, fun _ => 0, 1⟩
  | c + 1 => stp m c (elm m M c)

structure Red (m c : Nat) (M0 : Nat → Nat → Nat) (s : St) : Prop where
  tm : s.t ≤ m
  tc : s.t ≤ c
  lt : ∀ i j, s.M i j < 256
  pc : ∀ i, i < s.t → s.P i < c
  up : ∀ i k, i < k → k < s.t → s.P i < s.P k
  unit : ∀ i k, i < m → k < s.t → s.M i (s.P k) = idm i k
  ahead : ∀ k j, k < s.t → j < s.P k → s.M k j = 0
  rest : ∀ i j, s.t ≤ i → i < m → j < c → s.M i j = 0
  d0 : s.d ≠ 0
  d1 : s.d < 256
  like : Like m M0 s.M
theorem fv_lt {a : Nat} (h : a < 256) : fv a < 256 := by
  unfold fv
  split
  · decide
  · next h0 => exact fld8.fi_lt h h0
theorem fv_mul {a : Nat} (h : a < 256) (h0 : a ≠ 0) : fm 285 (fv a) a = 1 := by
  unfold fv
  rw [if_neg h0, fm_comm, fld8.fi_mul h h0]
theorem xor_lt8 {a b : Nat} (h : a < 256) (k : b < 256) : a ^^^ b < 256 := Nat.xor_lt_two_pow (n := 8) h k
theorem red_start {m : Nat} {M : Nat → Nat → Nat} (h : ∀ i j, M i j < 256) : Red m 0 M (elm m M 0) := by
  refine ⟨Nat.zero_le _, Nat.le_refl _, h, ?_, ?_, ?_, ?_, ?_, ?_, ?_, Like.refl h⟩
  · intro i hi; exact absurd hi (Nat.not_lt_zero _)
  · intro i k _ hk; exact absurd hk (Nat.not_lt_zero _)
  · intro i k _ hk; exact absurd hk (Nat.not_lt_zero _)
  · intro k j hk; exact absurd hk (Nat.not_lt_zero _)
  · intro i j _ _ hj; exact absurd hj (Nat.not_lt_zero _)
  · show (1 : Nat) ≠ 0; decide
  · show (1 : Nat) < 256; decide
theorem Red.skip {m c : Nat} {M0 : Nat → Nat → Nat} {s : St} (h : Red m c M0 s) (hz : ∀ i, s.t ≤ i → i < m → s.M i c = 0) : Red m (c + 1) M0 s := by
  obtain ⟨a1, a2, a3, a4, a5, a6, a7, a8, a9, a10, a11⟩ := h
  refine ⟨a1, by omega, a3, fun i hi => by have := a4 i hi; omega, a5, a6, a7, fun i j h1 h2 h3 => ?_, a9, a10, a11⟩
  by_cases e : j = c
  · rw [e]; exact hz i h1 h2
  · exact a8 i j h1 h2 (by omega)
theorem swp_lt {M : Nat → Nat → Nat} (h : ∀ i j, M i j < 256) (t r i j : Nat) : swp M t r i j < 256 := by
  unfold swp
  split
  · exact h _ _
  · split
    · exact h _ _
    · exact h _ _
theorem rsc_lt {M : Nat → Nat → Nat} (h : ∀ i j, M i j < 256) (u t i j : Nat) : rsc u t M i j < 256 := by
  unfold rsc
  split
  · exact fld8.fm_lt _ _
  · exact h _ _
theorem rad_lt {M : Nat → Nat → Nat} (h : ∀ i j, M i j < 256) (f : Nat → Nat) (t i j : Nat) : rad f t M i j < 256 := by
  unfold rad
  split
  · exact h _ _
  · exact xor_lt8 (h _ _) (fld8.fm_lt _ _)
theorem Red.pivot {m c r : Nat} {M0 : Nat → Nat → Nat} {s : St} (h : Red m c M0 s) (htm : s.t < m) (htr : s.t ≤ r) (hr : r < m) (hz : ∀ i, s.t ≤ i → i < r → s.M i c = 0) (h0 : s.M r c ≠ 0) :
    Red m (c + 1) M0 ⟨clr (scl (swp s.M s.t r) s.t c) s.t c, s.t + 1, fun i => if i = s.t then c else s.P i, fm 285 s.d (s.M r c)⟩ := by
  obtain ⟨a1, a2, a3, a4, a5, a6, a7, a8, a9, a10, a11⟩ := h
  obtain ⟨M, t, P, d⟩ := s
  simp only at *
  -- the rows as they are swapped
  have z1 : ∀ j, j < c → swp M t r t j = 0 := fun j hj => by
    unfold swp; rw [if_pos rfl]; exact a8 r j htr hr hj
  have l1 := swp_lt a3 t r
  have e1 : swp M t r t c = M r c := by unfold swp; rw [if_pos rfl]
  generalize hM1 : swp M t r = M1 at *
  have e2 : scl M1 t c = rsc (fv (M r c)) t M1 := by
    funext i j
    unfold scl rsc
    by_cases h1 : i = t
    · subst h1
      by_cases h2 : c ≤ j
      · rw [if_pos ⟨rfl, h2⟩, if_pos rfl, e1]
      · rw [if_neg (fun e => h2 e.2), if_pos rfl, z1 j (by omega), fld8.fm_zero]
    · rw [if_neg (fun e => h1 e.1), if_neg h1]
  have l2 := rsc_lt l1 (fv (M r c)) t
  have z2 : ∀ j, j < c → rsc (fv (M r c)) t M1 t j = 0 := fun j hj => by
    unfold rsc; rw [if_pos rfl, z1 j hj, fld8.fm_zero]
  have o2 : rsc (fv (M r c)) t M1 t c = 1 := by
    unfold rsc; rw [if_pos rfl, e1, fv_mul (a3 r c) h0]
  have hi2 : ∀ i j, i ≠ t → rsc (fv (M r c)) t M1 i j = M1 i j := fun i j hi => by unfold rsc; rw [if_neg hi]
  rw [e2]
  generalize hM2 : rsc (fv (M r c)) t M1 = M2 at *
  have e3 : clr M2 t c = rad (fun i => M2 i c) t M2 := by
    funext i j
    unfold clr rad
    by_cases h1 : i = t
    · subst h1
      rw [if_neg (fun e => e.1 rfl), if_pos rfl]
    · rw [if_neg h1]
      by_cases h2 : c ≤ j
      · rw [if_pos ⟨h1, h2⟩]
      · rw [if_neg (fun e => h2 e.2), z2 j (by omega), fld8.fm_zero, Nat.xor_zero]
  rw [e3]
  have l3 := rad_lt l2 (fun i => M2 i c) t
  have t3 : ∀ j, rad (fun i => M2 i c) t M2 t j = M2 t j := fun j => by unfold rad; rw [if_pos rfl]
  have n3 : ∀ i j, i ≠ t → rad (fun i => M2 i c) t M2 i j = M2 i j ^^^ fm 285 (M2 i c) (M2 t j) := fun i j hi => by unfold rad; rw [if_neg hi]
  have like3 : Like m M0 (rad (fun i => M2 i c) t M2) := by
    have k1 : Like m M0 M1 := a11.step (op := fun X => swp X t r) (op' := fun X => swp X t r) (fun P X => mm_swp _ _ _ _ _) (fun P X => mm_swp _ _ _ _ _)
      (fun X Y hXY i hi j => by unfold swp; split; exact hXY _ hr _; split; exact hXY _ htm _; exact hXY _ hi _)
      (fun X Y hXY i hi j => by unfold swp; split; exact hXY _ hr _; split; exact hXY _ htm _; exact hXY _ hi _) l1 (fun i _ j => by rw [← hM1]) (fun i _ j => by rw [← hM1, swp_swp])
    have k2 : Like m M0 M2 := k1.step (op := rsc (fv (M r c)) t) (op' := rsc (M r c) t) (fun P X => mm_rsc _ _ _ _ _) (fun P X => mm_rsc _ _ _ _ _)
      (fun X Y hXY i hi j => by unfold rsc; split; rw [hXY _ htm _]; exact hXY _ hi _)
      (fun X Y hXY i hi j => by unfold rsc; split; rw [hXY _ htm _]; exact hXY _ hi _) l2 (fun i _ j => by rw [← hM2]) (fun i _ j => by rw [← hM2, rsc_rsc _ (by rw [fm_comm]; exact fv_mul (a3 r c) h0) l1])
    exact k2.step (op := rad (fun i => M2 i c) t) (op' := rad (fun i => M2 i c) t) (fun P X => mm_rad _ _ _ _ _) (fun P X => mm_rad _ _ _ _ _)
      (fun X Y hXY i hi j => by unfold rad; split; exact hXY _ htm _; rw [hXY _ hi _, hXY _ htm _])
      (fun X Y hXY i hi j => by unfold rad; split; exact hXY _ htm _; rw [hXY _ hi _, hXY _ htm _]) l3 (fun _ _ _ => rfl) (fun i _ j => by rw [rad_rad])
  have m1 : ∀ i j, i < m → i ≠ t → ∃ i', i' < m ∧ M1 i j = M i' j ∧ (i < t → i' = i) ∧ (t ≤ i → t ≤ i') := fun i j hi hit => by
    rw [← hM1]
    unfold swp
    rw [if_neg hit]
    by_cases e : i = r
    · rw [if_pos e]; exact ⟨t, htm, rfl, fun h => by omega, fun _ => Nat.le_refl _⟩
    · rw [if_neg e]; exact ⟨i, hi, rfl, fun _ => rfl, fun h => h⟩
  refine ⟨by show t + 1 ≤ m; omega, by show t + 1 ≤ c + 1; omega, l3, ?_, ?_, ?_, ?_, ?_, fld8.fm_ne a10 (a3 r c) a9 h0, fld8.fm_lt _ _, like3⟩
  · intro i hi
    show (if i = t then c else P i) < c + 1
    have hi' : i < t + 1 := hi
    split
    · omega
    · have := a4 i (by omega); omega
  · intro i k hik hk
    show (if i = t then c else P i) < (if k = t then c else P k)
    have hk' : k < t + 1 := hk
    rw [if_neg (by omega)]
    split
    · exact a4 i (by omega)
    · exact a5 i k hik (by omega)
  · intro i k hi hk
    have hk' : k < t + 1 := hk
    show rad (fun i => M2 i c) t M2 i (if k = t then c else P k) = idm i k
    by_cases ek : k = t
    · rw [if_pos ek, ek]
      by_cases ei : i = t
      · rw [ei, t3, o2]; unfold idm; rw [if_pos rfl]
      · rw [n3 i c ei, o2, fld8.fm_one (l2 i c), Nat.xor_self]; unfold idm; rw [if_neg ei]
    · rw [if_neg ek]
      have pk := a4 k (by omega)
      by_cases ei : i = t
      · rw [ei, t3, z2 _ pk]; unfold idm; rw [if_neg (by omega)]
      · rw [n3 i _ ei, z2 _ pk, fld8.fm_zero, Nat.xor_zero, hi2 i _ ei]
        obtain ⟨i', h1, h2, h3, h4⟩ := m1 i (P k) hi ei
        rw [h2]
        by_cases hit : i < t
        · rw [h3 hit]; exact a6 i k hi (by omega)
        · rw [a8 i' _ (h4 (by omega)) h1 pk]; unfold idm; rw [if_neg (by omega)]
  · intro k j hk hj
    have hk' : k < t + 1 := hk
    have hj' : j < (if k = t then c else P k) := hj
    show rad (fun i => M2 i c) t M2 k j = 0
    by_cases ek : k = t
    · rw [if_pos ek] at hj'
      rw [ek, t3, z2 j hj']
    · rw [if_neg ek] at hj'
      have pk := a4 k (by omega)
      rw [n3 k j ek, z2 j (by omega), fld8.fm_zero, Nat.xor_zero, hi2 k j ek]
      obtain ⟨i', h1, h2, h3, h4⟩ := m1 k j (by omega) ek
      rw [h2, h3 (by omega)]
      exact a7 k j (by omega) hj'
  · intro i j h1 h2 hj
    have h1' : t + 1 ≤ i := h1
    show rad (fun i => M2 i c) t M2 i j = 0
    have ei : i ≠ t := by omega
    by_cases ej : j = c
    · rw [ej, n3 i c ei, o2, fld8.fm_one (l2 i c), Nat.xor_self]
    · rw [n3 i j ei, z2 j (by omega), fld8.fm_zero, Nat.xor_zero, hi2 i j ei]
      obtain ⟨i', g1, g2, g3, g4⟩ := m1 i j h2 ei
      rw [g2]
      exact a8 i' j (g4 (by omega)) g1 (by omega)
theorem red_elm {m : Nat} {M : Nat → Nat → Nat} (h : ∀ i j, M i j < 256) : ∀ c, Red m c M (elm m M c)
  | 0 => red_start h
  | c + 1 => by
    have ih := red_elm (m := m) h c
    unfold elm stp
    by_cases h1 : (elm m M c).t = m
    · rw [if_pos h1]; exact ih.skip (fun i h2 h3 => by omega)
    · rw [if_neg h1]
      have htm : (elm m M c).t < m := by have := ih.tm; omega
      obtain ⟨b1, b2, b3, b4⟩ := fr_spec (elm m M c).M c (m - (elm m M c).t) (elm m M c).t
      by_cases h2 : fr (elm m M c).M c (m - (elm m M c).t) (elm m M c).t = m
      · rw [if_pos h2]
        refine ih.skip (fun i h3 h4 => b3 i h3 (by omega))
      · rw [if_neg h2]
        exact ih.pivot htm b1 (by omega) b3 (b4 (by omega))
theorem elm_local {m C : Nat} {M M' : Nat → Nat → Nat} (h : ∀ i j, i < m → j < C → M i j = M' i j) : ∀ c, c ≤ C → (elm m M c).t = (elm m M' c).t ∧ (elm m M c).P = (elm m M' c).P ∧ (elm m M c).d = (elm m M' c).d ∧ ∀ i j, i < m → j < C → (elm m M c).M i j = (elm m M' c).M i j
  | 0, _ => ⟨rfl, rfl, rfl, h⟩
  | c + 1, hc => by
    obtain ⟨e1, e2, e3, e4⟩ := elm_local h c (by omega)
    unfold elm stp
    rw [e1]
    by_cases h1 : (elm m M' c).t = m
    · rw [if_pos h1, if_pos h1]; exact ⟨e1, e2, e3, e4⟩
    · rw [if_neg h1, if_neg h1]
      have tm : ∀ c, (elm m M' c).t ≤ m := fun c => by
        induction c with
        | zero => exact Nat.zero_le _
        | succ c ih =>
          unfold elm stp
          split
          · exact ih
          · split
            · exact ih
            · show (elm m M' c).t + 1 ≤ m; omega
      have htm := tm c
      have ef : fr (elm m M c).M c (m - (elm m M' c).t) (elm m M' c).t = fr (elm m M' c).M c (m - (elm m M' c).t) (elm m M' c).t := fr_congr (fun i h2 h3 => e4 i c (by omega) (by omega))
      rw [ef]
      obtain ⟨b1, b2, b3, b4⟩ := fr_spec (elm m M' c).M c (m - (elm m M' c).t) (elm m M' c).t
      generalize fr (elm m M' c).M c (m - (elm m M' c).t) (elm m M' c).t = r at *
      by_cases h2 : r = m
      · rw [if_pos h2, if_pos h2]; exact ⟨e1, e2, e3, e4⟩
      · rw [if_neg h2, if_neg h2]
        generalize elm m M c = s at *
        generalize elm m M' c = s' at *
        have t1 : ∀ i j, i < m → j < C → swp s.M s'.t r i j = swp s'.M s'.t r i j := fun i j hi hj => by
          unfold swp
          split
          · exact e4 _ _ (by omega) hj
          · split
            · exact e4 _ _ (by omega) hj
            · exact e4 _ _ hi hj
        have t2 : ∀ i j, i < m → j < C → scl (swp s.M s'.t r) s'.t c i j = scl (swp s'.M s'.t r) s'.t c i j := fun i j hi hj => by
          unfold scl
          split
          · rw [t1 _ c (by omega) (by omega), t1 _ j (by omega) hj]
          · exact t1 i j hi hj
        refine ⟨rfl, by simp only [e2], by simp only [e3]; rw [e4 r c (by omega) (by omega)], fun i j hi hj => ?_⟩
        show clr _ _ _ i j = clr _ _ _ i j
        unfold clr
        split
        · rw [t2 i j hi hj, t2 i c hi (by omega), t2 _ j (by omega) hj]
        · exact t2 i j hi hj
theorem Red.full {n : Nat} {M0 : Nat → Nat → Nat} {s : St} (h : Red n n M0 s) (ht : s.t = n) : ∀ i j, i < n → j < n → s.M i j = idm i j := by
  have ge : ∀ k, k < n → k ≤ s.P k := by
    intro k
    induction k with
    | zero => intro _; exact Nat.zero_le _
    | succ k ih => intro hk; have := h.up k (k + 1) (by omega) (by omega); have := ih (by omega); omega
  have le : ∀ q k, q + k + 1 = n → s.P k ≤ k := by
    intro q
    induction q with
    | zero => intro k hk; have := h.pc k (by omega); omega
    | succ q ih => intro k hk; have := h.up k (k + 1) (by omega) (by omega); have := ih (k + 1) (by omega); omega
  intro i j hi hj
  have e : s.P j = j := Nat.le_antisymm (le (n - 1 - j) j (by omega)) (ge j hj)
  have := h.unit i j hi (by omega)
  rw [e] at this
  exact this
end Gf2
end Go.Proofs.YtefolifecbhgoaaGreat
namespace Go.Proofs.YtefolifecbhgoaaGreat
namespace Gf2
set_option linter.unusedVariables false

/-! determinants over the field of 256. -/
def sk (j c : Nat) : Nat := if c < j then c else c + 1
def mn (i j : Nat) (A : Nat → Nat → Nat) : Nat → Nat → Nat := fun r c => A (sk i r) (sk j c)
def D : Nat → (Nat → Nat → Nat) → Nat
  | 0, _ => 1
  | n + 1, A => sx (n + 1) (fun j => fm 285 (A 0 j) (D n (mn 0 j A)))
theorem sk_lt {n j c : Nat} (h : c < n) : sk j c < n + 1 := by unfold sk; split <;> omega
theorem sk_zero (c : Nat) : sk 0 c = c + 1 := by unfold sk; rw [if_neg (by omega)]
theorem mn0 (j : Nat) (A : Nat → Nat → Nat) (r c : Nat) : mn 0 j A r c = A (r + 1) (sk j c) := by unfold mn; rw [sk_zero]
theorem D_lt : ∀ n A, D n A < 256
  | 0, _ => by unfold D; decide
  | n + 1, A => sx_lt (d := 8) (fun _ _ => fld8.fm_lt _ _)
theorem D_congr : ∀ n {A B : Nat → Nat → Nat}, (∀ i j, i < n → j < n → A i j = B i j) → D n A = D n B
  | 0, _, _, _ => rfl
  | n + 1, A, B, h => by
    unfold D
    refine sx_congr (fun j hj => ?_)
    rw [h 0 j (by omega) hj, D_congr n (fun r c hr hc => ?_)]
    rw [mn0, mn0]
    exact h _ _ (by omega) (sk_lt hc)
theorem D_lin (f : Nat) : ∀ n r {A B C : Nat → Nat → Nat}, r < n → (∀ i, i ≠ r → ∀ j, A i j = C i j) → (∀ i, i ≠ r → ∀ j, B i j = C i j) → (∀ j, C r j = A r j ^^^ fm 285 f (B r j)) → D n C = D n A ^^^ fm 285 f (D n B)
  | 0, r, _, _, _, h, _, _, _ => absurd h (Nat.not_lt_zero _)
  | n + 1, 0, A, B, C, _, hA, hB, hC => by
    unfold D
    rw [fld8.fm_sx, ← sx_xor]
    refine sx_congr (fun j hj => ?_)
    have e1 : mn 0 j A = mn 0 j C := by funext r c; rw [mn0, mn0]; exact hA _ (by omega) _
    have e2 : mn 0 j B = mn 0 j C := by funext r c; rw [mn0, mn0]; exact hB _ (by omega) _
    rw [e1, e2, hC j, fld8.xor_fm, fld8.fm_assoc]
  | n + 1, r + 1, A, B, C, h, hA, hB, hC => by
    unfold D
    rw [fld8.fm_sx, ← sx_xor]
    refine sx_congr (fun j hj => ?_)
    have ih := D_lin f n r (A := mn 0 j A) (B := mn 0 j B) (C := mn 0 j C) (by omega) (fun i hi c => by rw [mn0, mn0]; exact hA _ (by omega) _) (fun i hi c => by rw [mn0, mn0]; exact hB _ (by omega) _) (fun c => by rw [mn0, mn0, mn0]; exact hC _)
    rw [ih, hA 0 (by omega), hB 0 (by omega), fld8.fm_xor, ← fld8.fm_assoc, ← fld8.fm_assoc, fm_comm 285 (C 0 j) f]
theorem sx_skip (g : Nat → Nat) : ∀ n j, j ≤ n → sx n (fun l => g (sk j l)) = sx (n + 1) (fun b => if b = j then 0 else g b)
  | 0, j, h => by
    obtain rfl : j = 0 := by omega
    simp [sx]
  | n + 1, j, h => by
    show sx n (fun l => g (sk j l)) ^^^ g (sk j n) = sx (n + 1) (fun b => if b = j then 0 else g b) ^^^ (if n + 1 = j then 0 else g (n + 1))
    by_cases e : j = n + 1
    · subst e
      rw [if_pos rfl, Nat.xor_zero]
      have : sk (n + 1) n = n := by unfold sk; rw [if_pos (by omega)]
      rw [this]
      show sx n (fun l => g (sk (n + 1) l)) ^^^ g n = sx n (fun b => if b = n + 1 then 0 else g b) ^^^ (if n = n + 1 then 0 else g n)
      rw [if_neg (by omega)]
      congr 1
      exact sx_congr (fun l hl => by unfold sk; rw [if_pos (by omega), if_neg (by omega)])
    · rw [sx_skip g n j (by omega), if_neg (fun h => e h.symm)]
      have : sk j n = n + 1 := by unfold sk; rw [if_neg (by omega)]
      rw [this]
theorem sx_pairs (h : Nat → Nat → Nat) (hs : ∀ a b, h a b = h b a) (h0 : ∀ a, h a a = 0) : ∀ n, sx n (fun a => sx n (fun b => h a b)) = 0
  | 0 => rfl
  | n + 1 => by
    show sx n (fun a => sx n (fun b => h a b) ^^^ h a n) ^^^ (sx n (fun b => h n b) ^^^ h n n) = 0
    rw [sx_xor, sx_pairs h hs h0 n, h0, Nat.zero_xor, Nat.xor_zero, sx_congr (fun a _ => hs a n), Nat.xor_self]
def sk2 (a b c : Nat) : Nat := if c < min a b then c else if c + 1 < max a b then c + 1 else c + 2
theorem sk_sk (j l c : Nat) : sk j (sk l c) = sk2 j (sk j l) c := by
  simp only [sk2, sk, Nat.min_def, Nat.max_def]
  repeat' split
  all_goals omega
theorem D_two01 (n : Nat) (A : Nat → Nat → Nat) (h : ∀ j, A 0 j = A 1 j) : D (n + 2) A = 0 := by
  have e1 : ∀ j, j < n + 2 → fm 285 (A 0 j) (D (n + 1) (mn 0 j A)) = sx (n + 2) (fun b => if b = j then 0 else fm 285 (fm 285 (A 0 j) (A 0 b)) (D n (fun r c => A (r + 2) (sk2 j b c)))) := fun j hj => by
    rw [← sx_skip (fun b => fm 285 (fm 285 (A 0 j) (A 0 b)) (D n (fun r c => A (r + 2) (sk2 j b c)))) (n + 1) j (by omega)]
    show fm 285 (A 0 j) (sx (n + 1) (fun l => fm 285 (mn 0 j A 0 l) (D n (mn 0 l (mn 0 j A))))) = _
    rw [fld8.fm_sx]
    refine sx_congr (fun l hl => ?_)
    have e2 : mn 0 l (mn 0 j A) = fun r c => A (r + 2) (sk2 j (sk j l) c) := by
      funext r c
      rw [mn0, mn0, sk_sk]
    rw [e2, mn0, ← h, fld8.fm_assoc]
  show sx (n + 2) (fun j => fm 285 (A 0 j) (D (n + 1) (mn 0 j A))) = 0
  rw [sx_congr e1]
  refine sx_pairs (fun j b => if b = j then 0 else fm 285 (fm 285 (A 0 j) (A 0 b)) (D n (fun r c => A (r + 2) (sk2 j b c)))) (fun a b => ?_) (fun a => if_pos rfl) (n + 2)
  by_cases e : b = a
  · rw [if_pos e, if_pos e.symm]
  · rw [if_neg e, if_neg (fun h => e h.symm), fm_comm 285 (A 0 a)]
    congr 2
    funext r c
    unfold sk2
    rw [Nat.min_comm, Nat.max_comm]
theorem D_alt : ∀ n, (∀ p q A, p < q → q < n → (∀ j, A p j = A q j) → D n A = 0) ∧ ∀ t r A, t < n → r < n → D n (swp A t r) = D n A
  | 0 => ⟨fun _ _ _ _ h => absurd h (Nat.not_lt_zero _), fun _ _ _ h => absurd h (Nat.not_lt_zero _)⟩
  | n + 1 => by
    obtain ⟨ih1, ih2⟩ := D_alt n
    have two : ∀ p q A, p < q → q < n + 1 → (∀ j, A p j = A q j) → D (n + 1) A = 0 := by
      intro p q A hpq hq he
      obtain ⟨q, rfl⟩ : ∃ q', q = q' + 1 := ⟨q - 1, by omega⟩
      cases p with
      | succ p =>
        unfold D
        exact sx_zero (fun j _ => by rw [ih1 p q (mn 0 j A) (by omega) (by omega) (fun c => by rw [mn0, mn0]; exact he _), fld8.fm_zero])
      | zero =>
        obtain ⟨n, rfl⟩ : ∃ m, n = m + 1 := ⟨n - 1, by omega⟩
        have e : D (n + 2) A = D (n + 2) (swp A 1 (q + 1)) := by
          show sx (n + 2) _ = sx (n + 2) _
          refine sx_congr (fun j _ => ?_)
          have e1 : mn 0 j (swp A 1 (q + 1)) = swp (mn 0 j A) 0 q := by
            funext r c
            rw [mn0]
            unfold swp
            by_cases h1 : r = 0
            · rw [if_pos (by omega), if_pos h1, mn0]
            · by_cases h2 : r = q
              · rw [if_neg (by omega), if_pos (by omega), if_neg h1, if_pos h2, mn0]
              · rw [if_neg (by omega), if_neg (by omega), if_neg h1, if_neg h2, mn0]
          rw [e1, ih2 0 q (mn 0 j A) (by omega) (by omega)]
          have e0 : swp A 1 (q + 1) 0 = A 0 := by unfold swp; rw [if_neg (by omega), if_neg (by omega)]
          rw [e0]
        rw [e]
        refine D_two01 n _ (fun j => ?_)
        unfold swp
        rw [if_neg (by omega), if_neg (by omega), if_pos rfl]
        exact he j
    refine ⟨two, fun t r A ht hr => ?_⟩
    by_cases etr : t = r
    · subst etr
      congr 1
      funext i
      unfold swp
      by_cases h1 : i = t
      · rw [if_pos h1, h1]
      · rw [if_neg h1, if_neg h1]
    · -- rows t and r: as given (a), (b) at both, the sum at both
      have mk : ∀ (u v : Nat → Nat), ∃ X : Nat → Nat → Nat, X = fun i => if i = t then u else if i = r then v else A i := fun u v => ⟨_, rfl⟩
      have lin1 : ∀ u u' v, D (n + 1) (fun i => if i = t then (fun j => u j ^^^ fm 285 1 (u' j)) else if i = r then v else A i) = D (n + 1) (fun i => if i = t then u else if i = r then v else A i) ^^^ fm 285 1 (D (n + 1) (fun i => if i = t then u' else if i = r then v else A i)) := fun u u' v =>
        D_lin 1 (n + 1) t ht (fun i hi j => by simp only [if_neg hi]) (fun i hi j => by simp only [if_neg hi]) (fun j => by simp only [if_true])
      have lin2 : ∀ u v v', D (n + 1) (fun i => if i = t then u else if i = r then (fun j => v j ^^^ fm 285 1 (v' j)) else A i) = D (n + 1) (fun i => if i = t then u else if i = r then v else A i) ^^^ fm 285 1 (D (n + 1) (fun i => if i = t then u else if i = r then v' else A i)) := fun u v v' =>
        D_lin 1 (n + 1) r hr (fun i hi j => by simp only [if_neg hi]) (fun i hi j => by simp only [if_neg hi]) (fun j => by simp only [if_neg (fun h => etr h.symm : ¬ r = t), if_true])
      have same : ∀ u, D (n + 1) (fun i => if i = t then u else if i = r then u else A i) = 0 := fun u => by
        rcases Nat.lt_or_gt_of_ne etr with h | h
        · exact two t r _ h hr (fun j => by simp only [if_true, if_neg (fun h => etr h.symm : ¬ r = t)])
        · exact two r t _ h ht (fun j => by simp only [if_true, if_neg (fun h => etr h.symm : ¬ r = t)])
      have z := same (fun j => A t j ^^^ fm 285 1 (A r j))
      rw [lin1, lin2, lin2, same, same, Nat.zero_xor, fld8.fm_zero, Nat.xor_zero, fld8.one_fm (D_lt _ _), fld8.one_fm (D_lt _ _)] at z
      have e1 : (fun i => if i = t then A t else if i = r then A r else A i) = A := by
        funext i
        by_cases h1 : i = t
        · rw [if_pos h1, h1]
        · rw [if_neg h1]
          by_cases h2 : i = r
          · rw [if_pos h2, h2]
          · rw [if_neg h2]
      rw [e1] at z
      have z2 : D (n + 1) (fun i => if i = t then A r else if i = r then A t else A i) = D (n + 1) A := by
        have := congrArg (fun x => x ^^^ D (n + 1) (fun i => if i = t then A r else if i = r then A t else A i)) z
        simp only [Nat.xor_assoc, Nat.xor_self, Nat.xor_zero, Nat.zero_xor] at this
        exact this.symm
      exact z2
theorem D_swp {n t r : Nat} (A : Nat → Nat → Nat) (ht : t < n) (hr : r < n) : D n (swp A t r) = D n A := (D_alt n).2 t r A ht hr
theorem D_two {n p q : Nat} {A : Nat → Nat → Nat} (hp : p < n) (hq : q < n) (hne : p ≠ q) (he : ∀ j, A p j = A q j) : D n A = 0 := by
  rcases Nat.lt_or_gt_of_ne hne with h | h
  · exact (D_alt n).1 p q A h hq he
  · exact (D_alt n).1 q p A h hp (fun j => (he j).symm)
theorem D_zero {n r : Nat} {A : Nat → Nat → Nat} (hr : r < n) (h : ∀ j, A r j = 0) : D n A = 0 := by
  have := D_lin 1 n r (A := A) (B := A) (C := A) hr (fun _ _ _ => rfl) (fun _ _ _ => rfl) (fun j => by rw [h j, fld8.fm_zero]; rfl)
  rw [fld8.one_fm (D_lt n A), Nat.xor_self] at this
  exact this
theorem D_zero' {n r : Nat} {A : Nat → Nat → Nat} (hr : r < n) (h : ∀ j, j < n → A r j = 0) : D n A = 0 := by
  rw [D_congr n (B := fun i j => if j < n then A i j else 0) (fun i j _ hj => (if_pos hj).symm)]
  refine D_zero hr (fun j => ?_)
  split
  · exact h j (by assumption)
  · rfl
theorem D_rsc {n t : Nat} (u : Nat) (A : Nat → Nat → Nat) (ht : t < n) : D n (rsc u t A) = fm 285 u (D n A) := by
  have := D_lin u n t (A := fun i j => if i = t then 0 else A i j) (B := A) (C := rsc u t A) ht (fun i hi j => by unfold rsc; simp only [if_neg hi]) (fun i hi j => by unfold rsc; simp only [if_neg hi]) (fun j => by unfold rsc; simp only [if_true, Nat.zero_xor])
  rw [this, D_zero ht (fun j => if_pos rfl), Nat.zero_xor]
theorem D_add {n t i : Nat} (f : Nat) {A C : Nat → Nat → Nat} (ht : t < n) (hi : i < n) (hne : i ≠ t) (h1 : ∀ k, k ≠ i → ∀ j, C k j = A k j) (h2 : ∀ j, C i j = A i j ^^^ fm 285 f (A t j)) : D n C = D n A := by
  have := D_lin f n i (A := A) (B := fun k j => if k = i then A t j else A k j) (C := C) hi (fun k hk j => (h1 k hk j).symm) (fun k hk j => by simp only [if_neg hk]; exact (h1 k hk j).symm) (fun j => by simp only [if_true]; exact h2 j)
  rw [this, D_two (A := fun k j => if k = i then A t j else A k j) hi ht hne (fun j => by simp only [if_true, if_neg (fun h => hne h.symm : ¬ t = i)]), fld8.fm_zero, Nat.xor_zero]
theorem D_rad {n t : Nat} (f : Nat → Nat) (A : Nat → Nat → Nat) (ht : t < n) : D n (rad f t A) = D n A := by
  have step : ∀ k, k ≤ n → D n (fun i j => if i < k then rad f t A i j else A i j) = D n A := by
    intro k
    induction k with
    | zero => intro _; exact D_congr n (fun i j _ _ => if_neg (Nat.not_lt_zero _))
    | succ k ih =>
      intro hk
      rw [← ih (by omega)]
      by_cases e : k = t
      · refine D_congr n (fun i j _ _ => ?_)
        by_cases h1 : i < k
        · rw [if_pos h1, if_pos (by omega)]
        · rw [if_neg h1]
          by_cases h2 : i = k
          · rw [if_pos (by omega)]; unfold rad; rw [if_pos (by omega)]; rw [h2, e]
          · rw [if_neg (by omega)]
      · refine D_add (f k) ht (by omega : k < n) e (fun i hi j => ?_) (fun j => ?_)
        · by_cases h1 : i < k
          · rw [if_pos h1, if_pos (by omega)]
          · rw [if_neg h1, if_neg (by omega)]
        · have et : (if t < k then rad f t A t j else A t j) = A t j := by
            unfold rad
            split
            · rw [if_pos rfl]
            · rfl
          rw [et, if_pos (by omega), if_neg (Nat.lt_irrefl _)]
          unfold rad
          rw [if_neg e]
  rw [← step n (Nat.le_refl _)]
  exact D_congr n (fun i j hi _ => (if_pos hi).symm)
theorem D_one : ∀ n, D n idm = 1
  | 0 => rfl
  | n + 1 => by
    unfold D
    rw [sx_one (k := 0) (by omega) (fun j _ hj => by unfold idm; rw [if_neg (fun h => hj h.symm), fld8.zero_fm])]
    have e : mn 0 0 idm = idm := by
      funext r c
      rw [mn0, sk_zero]
      unfold idm
      by_cases h : r = c
      · rw [if_pos h, if_pos (by omega)]
      · rw [if_neg h, if_neg (by omega)]
    rw [e, D_one n]
    decide

theorem piv_eq {m c r : Nat} {M0 : Nat → Nat → Nat} {s : St} (h : Red m c M0 s) (htr : s.t ≤ r) (hr : r < m) (h0 : s.M r c ≠ 0) :
    clr (scl (swp s.M s.t r) s.t c) s.t c = rad (fun i => rsc (fv (s.M r c)) s.t (swp s.M s.t r) i c) s.t (rsc (fv (s.M r c)) s.t (swp s.M s.t r)) := by
  obtain ⟨M, t, P, d⟩ := s
  simp only at *
  have z1 : ∀ j, j < c → swp M t r t j = 0 := fun j hj => by
    unfold swp; rw [if_pos rfl]; exact h.rest r j htr hr hj
  have e1 : swp M t r t c = M r c := by unfold swp; rw [if_pos rfl]
  generalize swp M t r = M1 at *
  have e2 : scl M1 t c = rsc (fv (M r c)) t M1 := by
    funext i j
    unfold scl rsc
    by_cases h1 : i = t
    · subst h1
      by_cases h2 : c ≤ j
      · rw [if_pos ⟨rfl, h2⟩, if_pos rfl, e1]
      · rw [if_neg (fun e => h2 e.2), if_pos rfl, z1 j (by omega), fld8.fm_zero]
    · rw [if_neg (fun e => h1 e.1), if_neg h1]
  rw [e2]
  have z2 : ∀ j, j < c → rsc (fv (M r c)) t M1 t j = 0 := fun j hj => by
    unfold rsc; rw [if_pos rfl, z1 j hj, fld8.fm_zero]
  generalize rsc (fv (M r c)) t M1 = M2 at *
  funext i j
  unfold clr rad
  by_cases h1 : i = t
  · subst h1
    rw [if_neg (fun e => e.1 rfl), if_pos rfl]
  · rw [if_neg h1]
    by_cases h2 : c ≤ j
    · rw [if_pos ⟨h1, h2⟩]
    · rw [if_neg (fun e => h2 e.2), z2 j (by omega), fld8.fm_zero, Nat.xor_zero]
theorem elm_det {n : Nat} {A : Nat → Nat → Nat} (B : Nat → Nat → Nat) (hA : ∀ i j, A i j < 256) : ∀ c, fm 285 (elm n A c).d (D n (mm n (elm n A c).M B)) = D n (mm n A B)
  | 0 => fld8.one_fm (D_lt _ _)
  | c + 1 => by
    have ih := elm_det (n := n) B hA c
    have R := red_elm (m := n) hA c
    unfold elm stp
    by_cases h1 : (elm n A c).t = n
    · rw [if_pos h1]; exact ih
    · rw [if_neg h1]
      have htm : (elm n A c).t < n := by have := R.tm; omega
      obtain ⟨b1, b2, b3, b4⟩ := fr_spec (elm n A c).M c (n - (elm n A c).t) (elm n A c).t
      by_cases h2 : fr (elm n A c).M c (n - (elm n A c).t) (elm n A c).t = n
      · rw [if_pos h2]; exact ih
      · rw [if_neg h2]
        have hr : fr (elm n A c).M c (n - (elm n A c).t) (elm n A c).t < n := by omega
        have h0 := b4 (by omega)
        rw [piv_eq R b1 hr h0]
        generalize fr (elm n A c).M c (n - (elm n A c).t) (elm n A c).t = r at *
        show fm 285 (fm 285 (elm n A c).d ((elm n A c).M r c)) (D n (mm n (rad _ _ (rsc _ _ (swp _ _ _))) B)) = _
        rw [mm_rad, D_rad _ _ htm, mm_rsc, D_rsc _ _ htm, mm_swp, D_swp _ htm hr, fld8.fm_assoc, ← fld8.fm_assoc ((elm n A c).M r c), fm_comm 285 ((elm n A c).M r c), fv_mul (R.lt r c) h0, fld8.one_fm (D_lt _ _)]
        exact ih
def dt0 (n : Nat) (S : Nat → Nat → Nat) : Nat := if (elm n S n).t < n then 0 else (elm n S n).d
theorem D_mul {n : Nat} {A B : Nat → Nat → Nat} (hA : ∀ i j, A i j < 256) (hB : ∀ i j, B i j < 256) : D n (mm n A B) = fm 285 (dt0 n A) (D n B) := by
  have R := red_elm (m := n) hA n
  have e := elm_det B hA n (n := n)
  unfold dt0
  by_cases h : (elm n A n).t < n
  · rw [if_pos h, fld8.zero_fm, ← e, D_zero' (r := n - 1) (by omega) (fun j hj => ?_), fld8.fm_zero]
    unfold mm
    exact sx_zero (fun t ht => by rw [R.rest (n - 1) t (by omega) (by omega) ht, fld8.zero_fm])
  · rw [if_neg h, ← e]
    congr 1
    have full := R.full (by have := R.tm; omega)
    refine D_congr n (fun i j hi hj => ?_)
    rw [mm_congr (A' := idm) (B' := B) (fun t ht => full i t hi ht) (fun _ _ => rfl)]
    exact idm_mm hi (hB i j)
end Gf2
end Go.Proofs.YtefolifecbhgoaaGreat
namespace Go.Proofs.YtefolifecbhgoaaGreat
namespace Gf2
set_option linter.unusedVariables false

theorem D_dt {n : Nat} {A : Nat → Nat → Nat} (hA : ∀ i j, A i j < 256) : D n A = dt0 n A := by
  have h := D_mul (n := n) hA (B := idm) (fun i j => by unfold idm; split <;> decide)
  have hd : dt0 n A < 256 := by
    unfold dt0
    split
    · decide
    · exact (red_elm (m := n) hA n).d1
  rw [D_one, fld8.fm_one hd] at h
  rw [← h]
  exact D_congr n (fun i j _ hj => (mm_idm hj (hA i j)).symm)
theorem D_mm {n : Nat} {A B : Nat → Nat → Nat} (hA : ∀ i j, A i j < 256) (hB : ∀ i j, B i j < 256) : D n (mm n A B) = fm 285 (D n A) (D n B) := by rw [D_mul hA hB, D_dt hA]
def pr : Nat → (Nat → Nat) → Nat
  | 0, _ => 1
  | n + 1, f => fm 285 (pr n f) (f n)
theorem pr_lt : ∀ n f, pr n f < 256
  | 0, _ => by unfold pr; decide
  | n + 1, f => fld8.fm_lt _ _
theorem pr_congr : ∀ n {f g : Nat → Nat}, (∀ i, i < n → f i = g i) → pr n f = pr n g
  | 0, _, _, _ => rfl
  | n + 1, f, g, h => by unfold pr; rw [pr_congr n (fun i hi => h i (by omega)), h n (by omega)]
theorem pr_first : ∀ n (f : Nat → Nat), pr (n + 1) f = fm 285 (f 0) (pr n (fun i => f (i + 1)))
  | 0, f => by show fm 285 1 (f 0) = fm 285 (f 0) 1; exact fm_comm _ _ _
  | n + 1, f => by
    show fm 285 (pr (n + 1) f) (f (n + 1)) = fm 285 (f 0) (fm 285 (pr n (fun i => f (i + 1))) (f (n + 1)))
    rw [pr_first n f, fld8.fm_assoc]
theorem pr_mul : ∀ n (f g : Nat → Nat), pr n (fun i => fm 285 (f i) (g i)) = fm 285 (pr n f) (pr n g)
  | 0, _, _ => by unfold pr; decide
  | n + 1, f, g => by
    show fm 285 (pr n (fun i => fm 285 (f i) (g i))) (fm 285 (f n) (g n)) = fm 285 (fm 285 (pr n f) (f n)) (fm 285 (pr n g) (g n))
    rw [pr_mul n f g]
    have i1 : Std.Associative (fm 285) := ⟨fld8.fm_assoc⟩
    have i2 : Std.Commutative (fm 285) := ⟨fm_comm 285⟩
    ac_rfl
def pp (n : Nat) (g : Nat → Nat → Nat) : Nat := pr n (fun i => pr i (fun j => g i j))
theorem pp_first (n : Nat) (g : Nat → Nat → Nat) : pp (n + 1) g = fm 285 (pr n (fun i => g (i + 1) 0)) (pp n (fun i j => g (i + 1) (j + 1))) := by
  unfold pp
  rw [pr_first]
  show fm 285 1 _ = _
  rw [fld8.one_fm (pr_lt _ _), ← pr_mul]
  exact pr_congr n (fun i _ => pr_first i _)
theorem D_rows : ∀ n (u : Nat → Nat) (A : Nat → Nat → Nat), D n (fun r c => fm 285 (u r) (A r c)) = fm 285 (pr n u) (D n A)
  | 0, _, _ => by unfold D pr; decide
  | n + 1, u, A => by
    unfold D
    rw [fld8.fm_sx]
    refine sx_congr (fun j _ => ?_)
    have e : mn 0 j (fun r c => fm 285 (u r) (A r c)) = fun r c => fm 285 (u (r + 1)) (mn 0 j A r c) := by funext r c; rw [mn0, mn0]
    show fm 285 (fm 285 (u 0) (A 0 j)) (D n (mn 0 j (fun r c => fm 285 (u r) (A r c)))) = _
    rw [e, D_rows n (fun r => u (r + 1)) (mn 0 j A), pr_first]
    have i1 : Std.Associative (fm 285) := ⟨fld8.fm_assoc⟩
    have i2 : Std.Commutative (fm 285) := ⟨fm_comm 285⟩
    ac_rfl
theorem D_col : ∀ n (A : Nat → Nat → Nat), D (n + 1) A = sx (n + 1) (fun i => fm 285 (A i 0) (D n (mn i 0 A)))
  | 0, A => rfl
  | n + 1, A => by
    show sx (n + 2) (fun j => fm 285 (A 0 j) (D (n + 1) (mn 0 j A))) = sx (n + 2) (fun i => fm 285 (A i 0) (D (n + 1) (mn i 0 A)))
    rw [sx_first (n + 1) (fun j => fm 285 (A 0 j) (D (n + 1) (mn 0 j A))), sx_first (n + 1) (fun i => fm 285 (A i 0) (D (n + 1) (mn i 0 A)))]
    congr 1
    have l : ∀ j, fm 285 (A 0 (j + 1)) (D (n + 1) (mn 0 (j + 1) A)) = sx (n + 1) (fun i => fm 285 (fm 285 (A 0 (j + 1)) (A (i + 1) 0)) (D n (mn i 0 (mn 0 (j + 1) A)))) := fun j => by
      rw [D_col n, fld8.fm_sx]
      refine sx_congr (fun i _ => ?_)
      rw [mn0, show sk (j + 1) 0 = 0 by unfold sk; rw [if_pos (by omega)], fld8.fm_assoc]
    have r : ∀ i, fm 285 (A (i + 1) 0) (D (n + 1) (mn (i + 1) 0 A)) = sx (n + 1) (fun j => fm 285 (fm 285 (A 0 (j + 1)) (A (i + 1) 0)) (D n (mn 0 j (mn (i + 1) 0 A)))) := fun i => by
      show fm 285 (A (i + 1) 0) (sx (n + 1) (fun j => fm 285 (mn (i + 1) 0 A 0 j) (D n (mn 0 j (mn (i + 1) 0 A))))) = _
      rw [fld8.fm_sx]
      refine sx_congr (fun j _ => ?_)
      have : mn (i + 1) 0 A 0 j = A 0 (j + 1) := by unfold mn; rw [sk_zero, show sk (i + 1) 0 = 0 by unfold sk; rw [if_pos (by omega)]]
      rw [this, ← fld8.fm_assoc, fm_comm 285 (A (i + 1) 0)]
    rw [sx_congr (fun j _ => l j), sx_congr (fun i _ => r i), sx_swap]
    refine sx_congr (fun i _ => sx_congr (fun j _ => ?_))
    congr 2
    funext a b
    rw [mn0]
    unfold mn
    rw [sk_zero]
    have e1 : sk i a + 1 = sk (i + 1) (a + 1) := by unfold sk; split <;> split <;> omega
    have e2 : sk (j + 1) (sk 0 b) = sk 0 (sk j b) := by rw [sk_zero, sk_zero]; unfold sk; split <;> split <;> omega
    rw [e1, e2]
def trn (A : Nat → Nat → Nat) : Nat → Nat → Nat := fun i j => A j i
theorem D_trn : ∀ n (A : Nat → Nat → Nat), D n (trn A) = D n A
  | 0, _ => rfl
  | n + 1, A => by
    rw [D_col n A]
    show sx (n + 1) (fun j => fm 285 (trn A 0 j) (D n (mn 0 j (trn A)))) = _
    refine sx_congr (fun j _ => ?_)
    have e : mn 0 j (trn A) = trn (mn j 0 A) := by funext r c; rfl
    rw [e, D_trn n]
    rfl
theorem D_corner {n : Nat} {A : Nat → Nat → Nat} (h0 : A 0 0 = 1) (h : ∀ j, j < n → A 0 (j + 1) = 0) : D (n + 1) A = D n (mn 0 0 A) := by
  show sx (n + 1) (fun j => fm 285 (A 0 j) (D n (mn 0 j A))) = _
  rw [sx_one (k := 0) (by omega) (fun j hj hj0 => by obtain ⟨k, rfl⟩ : ∃ k, j = k + 1 := ⟨j - 1, by omega⟩
                                                     rw [h k (by omega), fld8.zero_fm]), h0, fld8.one_fm (D_lt _ _)]

/-! Vandermonde. -/
def upm (x : Nat) : Nat → Nat → Nat := fun t c => (if t = c then 1 else 0) ^^^ (if t + 1 = c then x else 0)
theorem D_upm (x : Nat) : ∀ n, D n (upm x) = 1
  | 0 => rfl
  | n + 1 => by
    rw [← D_trn, D_corner (by unfold trn upm; rw [if_pos rfl, if_neg (by omega)]; rfl) (fun j _ => by unfold trn upm; rw [if_neg (by omega), if_neg (by omega)]; rfl)]
    have e : mn 0 0 (trn (upm x)) = trn (upm x) := by
      funext r c
      rw [mn0, sk_zero]
      unfold trn upm
      by_cases h : c = r
      · rw [if_pos (by omega), if_pos h, if_neg (by omega), if_neg (by omega)]
      · rw [if_neg (by omega), if_neg h]
        by_cases h2 : c + 1 = r
        · rw [if_pos (by omega), if_pos h2]
        · rw [if_neg (by omega), if_neg h2]
    rw [e, D_trn, D_upm x n]
theorem upm_lt {x : Nat} (hx : x < 256) (i j : Nat) : upm x i j < 256 := by
  unfold upm
  refine xor_lt8 ?_ ?_
  · split <;> decide
  · split
    · exact hx
    · decide
def van (x : Nat → Nat) : Nat → Nat → Nat := fun r c => fp 285 (x r) c
theorem van_lt (x : Nat → Nat) (r c : Nat) : van x r c < 256 := by
  unfold van
  exact fld8.fp_lt _ _
theorem D_van : ∀ n (x : Nat → Nat), (∀ i, x i < 256) → D n (van x) = pp n (fun i j => x i ^^^ x j)
  | 0, _, _ => rfl
  | n + 1, x, hx => by
    have e0 := D_mm (n := n + 1) (van_lt x) (upm_lt (hx 0))
    rw [D_upm, fld8.fm_one (D_lt _ _)] at e0
    have w0 : ∀ r c, c < n + 1 → mm (n + 1) (van x) (upm (x 0)) r c = van x r c ^^^ (if c = 0 then 0 else fm 285 (van x r (c - 1)) (x 0)) := fun r c hc => by
      unfold mm upm
      rw [sx_congr (fun t _ => fld8.fm_xor _ _ _), sx_xor]
      congr 1
      · rw [sx_one hc (fun t _ ht => by rw [if_neg ht, fld8.fm_zero]), if_pos rfl, fld8.fm_one (van_lt x r c)]
      · by_cases h : c = 0
        · rw [if_pos h]
          exact sx_zero (fun t _ => by rw [if_neg (by omega), fld8.fm_zero])
        · rw [if_neg h, sx_one (k := c - 1) (by omega) (fun t _ ht => by rw [if_neg (by omega), fld8.fm_zero]), if_pos (by omega)]
    have step : ∀ r c, c < n → mm (n + 1) (van x) (upm (x 0)) r (c + 1) = fm 285 (x r ^^^ x 0) (van x r c) := fun r c hc => by
      rw [w0 r (c + 1) (by omega), if_neg (by omega), Nat.add_sub_cancel]
      unfold van
      rw [fld8.fp_succ (hx r) c, ← fld8.fm_xor, fm_comm]
    rw [← e0, D_corner (by rw [w0 0 0 (by omega), if_pos rfl, Nat.xor_zero]; unfold van; exact fld8.fp_zero _) (fun j hj => by rw [step 0 j hj, Nat.xor_self, fld8.zero_fm])]
    rw [D_congr n (B := fun r c => fm 285 (x (r + 1) ^^^ x 0) (van (fun i => x (i + 1)) r c)) (fun i j _ hj => by rw [mn0, sk_zero, step (i + 1) j hj]; rfl), D_rows, D_van n (fun i => x (i + 1)) (fun i => hx _), pp_first]

/-! Cauchy. -/
end Gf2
end Go.Proofs.YtefolifecbhgoaaGreat
namespace Go.Proofs.YtefolifecbhgoaaGreat
namespace Gf2
set_option linter.unusedVariables false

/-! null vectors of a reduced form, and the rank of the transposed. -/
def nvs (P : Nat → Nat) (M : Nat → Nat → Nat) (f : Nat) : Nat → Nat → Nat
  | 0 => fun j => if j = f then 1 else 0
  | r + 1 => fun j => if j = P r then M r f else nvs P M f r j
theorem nvs_lt {P : Nat → Nat} {M : Nat → Nat → Nat} (h : ∀ i j, M i j < 256) (f : Nat) : ∀ r j, nvs P M f r j < 256
  | 0, j => by unfold nvs; split <;> decide
  | r + 1, j => by
    unfold nvs
    split
    · exact h _ _
    · exact nvs_lt h f r j
theorem nvs_else {P : Nat → Nat} {M : Nat → Nat → Nat} {f j : Nat} : ∀ r, (∀ k, k < r → P k ≠ j) → nvs P M f r j = if j = f then 1 else 0
  | 0, _ => rfl
  | r + 1, h => by
    unfold nvs
    rw [if_neg (fun e => h r (Nat.lt_succ_self r) e.symm)]
    exact nvs_else r (fun k hk => h k (by omega))
theorem nvs_at {P : Nat → Nat} {M : Nat → Nat → Nat} {f k : Nat} : ∀ r, (∀ i, i < r → i ≠ k → P i ≠ P k) → k < r → nvs P M f r (P k) = M k f
  | 0, _, h => absurd h (Nat.not_lt_zero _)
  | r + 1, h, hk => by
    unfold nvs
    by_cases e : k = r
    · subst e; rw [if_pos rfl]
    · rw [if_neg (fun e' => h r (Nat.lt_succ_self r) (fun x => e x.symm) e'.symm)]
      exact nvs_at r (fun i hi => h i (by omega)) (by omega)
theorem Red.inj {m c : Nat} {M0 : Nat → Nat → Nat} {s : St} (h : Red m c M0 s) {i k : Nat} (hi : i < s.t) (hk : k < s.t) (e : i ≠ k) : s.P i ≠ s.P k := by
  rcases Nat.lt_or_gt_of_ne e with x | x
  · exact Nat.ne_of_lt (h.up i k x hk)
  · exact fun y => Nat.ne_of_lt (h.up k i x hi) y.symm
theorem Red.null {m n f : Nat} {M0 : Nat → Nat → Nat} {s : St} (h : Red m n M0 s) (hf : f < n) (hn : ∀ k, k < s.t → s.P k ≠ f) {i : Nat} (hi : i < m) :
    sx n (fun j => fm 285 (s.M i j) (nvs s.P s.M f s.t j)) = 0 := by
  by_cases hit : i < s.t
  · have e : ∀ j, j < n → fm 285 (s.M i j) (nvs s.P s.M f s.t j) = (if j = f then s.M i f else 0) ^^^ (if j = s.P i then s.M i f else 0) := fun j hj => by
      by_cases hp : ∃ k, k < s.t ∧ s.P k = j
      · obtain ⟨k, hk, rfl⟩ := hp
        rw [nvs_at s.t (fun i' h1 h2 => h.inj h1 hk h2) hk, h.unit i k hi hk, if_neg (hn k hk), Nat.zero_xor]
        unfold idm
        by_cases e : i = k
        · subst e; rw [if_pos rfl, if_pos rfl, fld8.one_fm (h.lt _ _)]
        · rw [if_neg e, if_neg (fun x => h.inj hk hit (fun y => e y.symm) x), fld8.zero_fm]
      · have hq : ∀ k, k < s.t → s.P k ≠ j := fun k hk e => hp ⟨k, hk, e⟩
        rw [nvs_else s.t hq, if_neg (c := j = s.P i) (fun e => hq i hit e.symm), Nat.xor_zero]
        by_cases e : j = f
        · subst e; rw [if_pos rfl, if_pos rfl, fld8.fm_one (h.lt _ _)]
        · rw [if_neg e, if_neg e, fld8.fm_zero]
    rw [sx_congr e, sx_xor, sx_one hf (fun j _ hj => if_neg hj), sx_one (h.pc i hit) (fun j _ hj => if_neg hj), if_pos rfl, if_pos rfl, Nat.xor_self]
  · exact sx_zero (fun j hj => by rw [h.rest i j (by omega) hi hj, fld8.zero_fm])
theorem Red.null0 {m n f : Nat} {M0 : Nat → Nat → Nat} {s : St} (h : Red m n M0 s) (hf : f < n) (hn : ∀ k, k < s.t → s.P k ≠ f) {i : Nat} (hi : i < m) :
    sx n (fun j => fm 285 (M0 i j) (nvs s.P s.M f s.t j)) = 0 := by
  obtain ⟨P, Q, e1, e2⟩ := h.like
  have a : sx n (fun j => fm 285 (M0 i j) (nvs s.P s.M f s.t j)) = mm n (mm m Q s.M) (fun j _ => nvs s.P s.M f s.t j) i 0 := sx_congr (fun j _ => by rw [e2 i hi j])
  rw [a, ← mm_assoc]
  exact sx_zero (fun k hk => by
    have : mm n s.M (fun j _ => nvs s.P s.M f s.t j) k 0 = 0 := h.null hf hn hk
    rw [this, fld8.fm_zero])
theorem Red.free {m c : Nat} {M0 : Nat → Nat → Nat} {s : St} (h : Red m c M0 s) (ht : s.t < c) : ∃ f, f < c ∧ ∀ k, k < s.t → s.P k ≠ f := by
  apply Classical.byContradiction
  intro hno
  have all : ∀ f, f < c → ∃ k, k < s.t ∧ s.P k = f := fun f hf => Classical.byContradiction (fun hx => hno ⟨f, hf, fun k hk e => hx ⟨k, hk, e⟩⟩)
  have ge : ∀ f, f < c → ∃ k, f ≤ k ∧ k < s.t ∧ s.P k = f := by
    intro f
    induction f with
    | zero => intro hf; obtain ⟨k, a, b⟩ := all 0 hf; exact ⟨k, Nat.zero_le _, a, b⟩
    | succ f ih =>
      intro hf
      obtain ⟨k, a1, a2, a3⟩ := ih (by omega)
      obtain ⟨k', b1, b2⟩ := all (f + 1) hf
      refine ⟨k', ?_, b1, b2⟩
      rcases Nat.lt_trichotomy k' k with x | x | x
      · have := h.up k' k x a2; omega
      · subst x; omega
      · omega
  obtain ⟨k, a1, a2, a3⟩ := ge (c - 1) (by omega)
  omega
end Gf2
end Go.Proofs.YtefolifecbhgoaaGreat
namespace Go.Proofs.YtefolifecbhgoaaGreat
namespace Gf2
set_option linter.unusedVariables false

theorem pr_ne : ∀ n (f : Nat → Nat), (∀ i, i < n → f i < 256 ∧ f i ≠ 0) → pr n f ≠ 0
  | 0, _, _ => by unfold pr; decide
  | n + 1, f, h => fld8.fm_ne (pr_lt _ _) (h n (Nat.lt_succ_self n)).1 (pr_ne n f (fun i hi => h i (by omega))) (h n (Nat.lt_succ_self n)).2
theorem pr_zero : ∀ n (f : Nat → Nat) t, t < n → f t = 0 → pr n f = 0
  | 0, _, _, h, _ => absurd h (Nat.not_lt_zero _)
  | n + 1, f, t, h, h0 => by
    show fm 285 (pr n f) (f n) = 0
    by_cases e : t = n
    · subst e; rw [h0, fld8.fm_zero]
    · rw [pr_zero n f t (by omega) h0, fld8.zero_fm]
theorem pr_pull : ∀ n (f : Nat → Nat) i, i < n → pr n f = fm 285 (pr n (fun t => if t = i then 1 else f t)) (f i)
  | 0, _, _, h => absurd h (Nat.not_lt_zero _)
  | n + 1, f, i, h => by
    show fm 285 (pr n f) (f n) = fm 285 (fm 285 (pr n _) (if n = i then 1 else f n)) (f i)
    by_cases e : n = i
    · subst e
      rw [if_pos rfl, fld8.fm_one (pr_lt _ _), pr_congr n (g := fun t => if t = n then 1 else f t) (fun t ht => (if_neg (by omega)).symm)]
    · rw [if_neg e, pr_pull n f i (by omega), fld8.fm_assoc, fm_comm 285 (f i), ← fld8.fm_assoc]
theorem xor_ne {a b : Nat} (h : a ≠ b) : a ^^^ b ≠ 0 := fun e => h (by
  have : a ^^^ b ^^^ b = 0 ^^^ b := by rw [e]
  rwa [Nat.xor_assoc, Nat.xor_self, Nat.xor_zero, Nat.zero_xor] at this)
theorem full_kernel {n : Nat} {A : Nat → Nat → Nat} {y : Nat → Nat} (hA : ∀ i j, A i j < 256) (hy : ∀ j, y j < 256) (ht : (elm n A n).t = n) (h : ∀ i, i < n → sx n (fun j => fm 285 (A i j) (y j)) = 0) : ∀ j, j < n → y j = 0 := by
  intro j hj
  have r := red_elm (m := n) hA n
  have fu := r.full ht
  obtain ⟨P, Q, e1, e2⟩ := r.like
  have a : mm n idm (fun k _ => y k) j 0 = mm n (mm n P A) (fun k _ => y k) j 0 := mm_congr (fun k hk => by rw [← fu j k hj hk, e1 j hj]) (fun _ _ => rfl)
  rw [idm_mm hj (hy j), ← mm_assoc] at a
  rw [a]
  exact sx_zero (fun k hk => by
    have : mm n A (fun k _ => y k) k 0 = 0 := h k hk
    rw [this, fld8.fm_zero])
theorem van_full {n : Nat} {x : Nat → Nat} (hx : ∀ i, x i < 256) (inj : ∀ i j, j < i → i < n → x i ≠ x j) : (elm n (van x) n).t = n := by
  have r := red_elm (m := n) (van_lt x) n
  apply Nat.le_antisymm r.tm
  apply Nat.le_of_not_lt
  intro hlt
  have e := D_van n x hx
  rw [D_dt (van_lt x)] at e
  have z : pp n (fun i j => x i ^^^ x j) ≠ 0 := pr_ne n _ (fun i hi => ⟨pr_lt _ _, pr_ne i _ (fun j hj => ⟨xor_lt8 (hx i) (hx j), xor_ne (inj i j hj hi)⟩)⟩)
  apply z
  rw [← e]
  exact if_pos hlt
def qq (i n s : Nat) : Nat := pr n (fun t => if t = i then 1 else s ^^^ t)
def dg (i n : Nat) : Nat := if i < n then n else n + 1
theorem poly (i : Nat) : ∀ n, ∃ a : Nat → Nat, (∀ c, a c < 256) ∧ (∀ c, dg i n ≤ c → a c = 0) ∧ ∀ s, s < 256 → qq i n s = sx (dg i n) (fun c => fm 285 (a c) (fp 285 s c))
  | 0 => ⟨fun c => if c = 0 then 1 else 0, fun c => by dsimp only; split <;> decide, fun c hc => by
      have hc : 1 ≤ c := hc
      exact if_neg (by omega), fun s hs => by
      show 1 = sx 1 (fun c => fm 285 (if c = 0 then 1 else 0) (fp 285 s c))
      rw [sx_one (k := 0) (by decide) (fun c h1 h2 => absurd h1 (by omega)), if_pos rfl, fld8.fp_zero]
      decide⟩
  | n + 1 => by
    obtain ⟨a, h1, h2, h3⟩ := poly i n
    by_cases e : n = i
    · subst e
      have d1 : dg n n = n + 1 := if_neg (Nat.lt_irrefl _)
      have d2 : dg n (n + 1) = n + 1 := if_pos (Nat.lt_succ_self _)
      refine ⟨a, h1, fun c hc => h2 c (by rw [d1]; rw [d2] at hc; exact hc), fun s hs => ?_⟩
      have e3 := h3 s hs
      rw [d1] at e3
      rw [d2, ← e3]
      show fm 285 (qq n n s) (if n = n then 1 else s ^^^ n) = qq n n s
      rw [if_pos rfl]
      exact fld8.fm_one (pr_lt _ _)
    · have d2 : dg i (n + 1) = dg i n + 1 := by
        unfold dg
        by_cases h : i < n
        · rw [if_pos h, if_pos (by omega)]
        · rw [if_neg h, if_neg (by omega)]
      refine ⟨fun c => (if c = 0 then 0 else a (c - 1)) ^^^ fm 285 (a c) n, fun c => xor_lt8 (by split; decide; exact h1 _) (fld8.fm_lt _ _), fun c hc => ?_, fun s hs => ?_⟩
      · rw [d2] at hc
        dsimp only
        rw [if_neg (by omega), h2 (c - 1) (by omega), h2 c (by omega), fld8.zero_fm]
        rfl
      · rw [d2]
        show fm 285 (qq i n s) (if n = i then 1 else s ^^^ n) = _
        rw [if_neg e, h3 s hs]
        have e1 : ∀ c, fm 285 ((if c = 0 then 0 else a (c - 1)) ^^^ fm 285 (a c) n) (fp 285 s c) = fm 285 (if c = 0 then 0 else a (c - 1)) (fp 285 s c) ^^^ fm 285 (fm 285 (a c) n) (fp 285 s c) := fun c => by rw [fm_comm 285 _ (fp 285 s c), fld8.fm_xor, fm_comm 285 (fp 285 s c), fm_comm 285 (fp 285 s c)]
        rw [sx_congr (fun c _ => e1 c), sx_xor, sx_first, if_pos rfl, fld8.zero_fm, Nat.zero_xor]
        have e2 : ∀ c, fm 285 (if c + 1 = 0 then 0 else a (c + 1 - 1)) (fp 285 s (c + 1)) = fm 285 (fm 285 (a c) (fp 285 s c)) s := fun c => by
          rw [if_neg (by omega), Nat.add_sub_cancel, fld8.fp_succ hs, fld8.fm_assoc]
        rw [sx_congr (fun c _ => e2 c), ← sx_fm]
        have e3 : sx (dg i n + 1) (fun c => fm 285 (fm 285 (a c) n) (fp 285 s c)) = fm 285 (sx (dg i n) (fun c => fm 285 (a c) (fp 285 s c))) n := by
          rw [sx_cut (m := dg i n) (Nat.le_succ _) (fun c hc _ => by rw [h2 c hc, fld8.zero_fm, fld8.zero_fm]), sx_fm]
          exact sx_congr (fun c _ => by rw [fld8.fm_assoc, fm_comm 285 n, ← fld8.fm_assoc])
        rw [e3, ← fld8.fm_xor]
theorem lag_kernel {k : Nat} {R y : Nat → Nat} (hk : k ≤ 256) (hR : ∀ i, i < k → R i < 256) (inj : ∀ i j, j < i → i < k → R i ≠ R j) (hy : ∀ i, y i < 256) (h : ∀ r, r < k → sx k (fun i => fm 285 (qq i k (R r)) (y i)) = 0) : ∀ i, i < k → y i = 0 := by
  obtain ⟨A, hA⟩ := Classical.skolem.1 (fun i => poly i k)
  have dk : ∀ i, i < k → dg i k = k := fun i hi => if_pos hi
  have ex : ∀ s, s < 256 → sx k (fun i => fm 285 (qq i k s) (y i)) = sx k (fun c => fm 285 (fp 285 s c) (sx k (fun i => fm 285 (A i c) (y i)))) := fun s hs => by
    have e1 : ∀ i, i < k → fm 285 (qq i k s) (y i) = sx k (fun c => fm 285 (fp 285 s c) (fm 285 (A i c) (y i))) := fun i hi => by
      rw [(hA i).2.2 s hs, dk i hi, sx_fm]
      exact sx_congr (fun c _ => by rw [fm_comm 285 (A i c), fld8.fm_assoc])
    rw [sx_congr e1, sx_swap]
    exact sx_congr (fun c _ => (fld8.fm_sx _ _ _).symm)
  have hx : ∀ i, (fun i => if i < k then R i else 0) i < 256 := fun i => by
    dsimp only
    split
    · next h => exact hR i h
    · decide
  have vf := van_full (n := k) hx (fun i j h1 h2 => by
    show (if i < k then R i else 0) ≠ (if j < k then R j else 0)
    rw [if_pos h2, if_pos (by omega)]; exact inj i j h1 h2)
  have B0 := full_kernel (y := fun c => sx k (fun i => fm 285 (A i c) (y i))) (van_lt _) (fun c => sx_lt (d := 8) (fun _ _ => fld8.fm_lt _ _)) vf (fun r hr => by
    have := h r hr
    rw [ex _ (hR r hr)] at this
    refine Eq.trans (sx_congr (fun c _ => ?_)) this
    show fm 285 (fp 285 (if r < k then R r else 0) c) _ = _
    rw [if_pos hr])
  intro i hi
  have z := (ex i (by omega)).trans (sx_zero (fun c hc => by
    have b : sx k (fun i => fm 285 (A i c) (y i)) = 0 := B0 c hc
    rw [b, fld8.fm_zero]))
  rw [sx_one hi (fun j hj hne => by
    rw [show qq j k i = 0 from pr_zero k _ i hi (by rw [if_neg (fun e => hne e.symm), Nat.xor_self]), fld8.zero_fm])] at z
  have q0 : qq i k i ≠ 0 := pr_ne k _ (fun t ht => by
    by_cases e : t = i
    · rw [if_pos e]; decide
    · rw [if_neg e]; exact ⟨xor_lt8 (by omega) (by omega), xor_ne (fun x => e x.symm)⟩)
  rcases (fld8.fm_eq_zero (pr_lt _ _) (hy i)).1 z with a | a
  · exact absurd a q0
  · exact a
end Gf2
end Go.Proofs.YtefolifecbhgoaaGreat
