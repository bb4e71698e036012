import Derived.Test.YtikepkckfnpngaaGfo
namespace Go.Proofs.Ytikepkckfnpngaa
namespace Gf2
set_option linter.unusedVariables false

/-- the sum of f 0, .., f (n - 1). -/
def sx : Nat → (Nat → Nat) → Nat
  | 0, _ => 0
  | n + 1, f => sx n f ^^^ f n
theorem sx_congr {n : Nat} {f g : Nat → Nat} (h : ∀ i, i < n → f i = g i) : sx n f = sx n g := by
  induction n with
  | zero => rfl
  | succ n ih => simp only [sx]; rw [ih (fun i hi => h i (by omega)), h n (by omega)]
theorem sx_zero {n : Nat} {f : Nat → Nat} (h : ∀ i, i < n → f i = 0) : sx n f = 0 := by
  induction n with
  | zero => rfl
  | succ n ih => simp only [sx]; rw [ih (fun i hi => h i (by omega)), h n (by omega)]; rfl
theorem sx_xor (n : Nat) (f g : Nat → Nat) : sx n (fun i => f i ^^^ g i) = sx n f ^^^ sx n g := by
  induction n with
  | zero => simp [sx]
  | succ n ih => simp only [sx]; rw [ih]; ac_rfl
theorem sx_split (a b : Nat) (f : Nat → Nat) : sx (a + b) f = sx a f ^^^ sx b (fun i => f (a + i)) := by
  induction b with
  | zero => simp [sx]
  | succ b ih =>
    show sx (a + b) f ^^^ f (a + b) = _
    rw [ih, Nat.xor_assoc]; rfl
theorem sx_first (n : Nat) (f : Nat → Nat) : sx (n + 1) f = f 0 ^^^ sx n (fun i => f (i + 1)) := by
  have := sx_split 1 n f
  rw [Nat.add_comm n 1, this]
  simp only [sx, Nat.zero_xor]
  congr 1
  exact sx_congr (fun i _ => by rw [Nat.add_comm])
theorem sx_rev (n : Nat) (f : Nat → Nat) : sx (n + 1) f = sx (n + 1) (fun i => f (n - i)) := by
  induction n generalizing f with
  | zero => rfl
  | succ n ih =>
    rw [sx_first]
    have e : sx (n + 2) (fun i => f (n + 1 - i)) = sx (n + 1) (fun i => f (n + 1 - i)) ^^^ f (n + 1 - (n + 1)) := rfl
    rw [e, Nat.sub_self, ih (fun i => f (i + 1)), Nat.xor_comm]
    congr 1
    exact sx_congr (fun i hi => by congr 1; omega)
/-- a sum whose terms beyond m are 0. -/
theorem sx_cut {m n : Nat} {f : Nat → Nat} (hmn : m ≤ n) (h : ∀ i, m ≤ i → i < n → f i = 0) : sx n f = sx m f := by
  obtain ⟨k, rfl⟩ : ∃ k, n = m + k := ⟨n - m, by omega⟩
  rw [sx_split, sx_zero (n := k) (fun i hi => h (m + i) (by omega) (by omega)), Nat.xor_zero]
theorem sx_one {n k : Nat} {f : Nat → Nat} (hk : k < n) (h : ∀ i, i < n → i ≠ k → f i = 0) : sx n f = f k := by
  rw [sx_cut (m := k + 1) (by omega) (fun i h1 h2 => h i h2 (by omega))]
  simp only [sx]
  rw [sx_zero (fun i hi => h i (by omega) (by omega)), Nat.zero_xor]
theorem sx_lt {n d : Nat} {f : Nat → Nat} (h : ∀ i, i < n → f i < 2 ^ d) : sx n f < 2 ^ d := by
  induction n with
  | zero => exact Nat.two_pow_pos d
  | succ n ih => exact Nat.xor_lt_two_pow (ih (fun i hi => h i (by omega))) (h n (by omega))

variable {p d : Nat}

theorem Fld.fm_sx (h : Fld p d) (a n : Nat) (f : Nat → Nat) : fm p a (sx n f) = sx n (fun i => fm p a (f i)) := by
  induction n with
  | zero => exact h.fm_zero a
  | succ n ih => simp only [sx]; rw [h.fm_xor, ih]

/-! polynomials over the field: their coefficients. -/
/-- all coefficients are elements. -/
def El (d : Nat) (f : Nat → Nat) : Prop := ∀ i, f i < 2 ^ d
/-- the degree is below n. -/
def Dg (f : Nat → Nat) (n : Nat) : Prop := ∀ i, n ≤ i → f i = 0
def pz : Nat → Nat := fun _ => 0
def po : Nat → Nat := fun i => if i = 0 then 1 else 0
def pa (f g : Nat → Nat) : Nat → Nat := fun i => f i ^^^ g i
def pc (p a : Nat) (f : Nat → Nat) : Nat → Nat := fun i => fm p a (f i)
def ps (k : Nat) (f : Nat → Nat) : Nat → Nat := fun i => if i < k then 0 else f (i - k)
def pm (p : Nat) (f g : Nat → Nat) : Nat → Nat := fun n => sx (n + 1) (fun i => fm p (f i) (g (n - i)))
/-- a times X^k. -/
def mo (a k : Nat) : Nat → Nat := fun i => if i = k then a else 0

theorem Dg.mono {f : Nat → Nat} {m n : Nat} (h : Dg f m) (hmn : m ≤ n) : Dg f n := fun i hi => h i (by omega)
theorem Dg.pa {f g : Nat → Nat} {n : Nat} (h : Dg f n) (k : Dg g n) : Dg (pa f g) n := fun i hi => by show f i ^^^ g i = 0; rw [h i hi, k i hi]; rfl
theorem Dg.zero {f : Nat → Nat} (h : Dg f 0) : f = pz := funext fun i => h i (by omega)
theorem Dg.pz (n : Nat) : Dg pz n := fun _ _ => rfl
theorem El.pa {f g : Nat → Nat} (h : El d f) (k : El d g) : El d (pa f g) := fun i => Nat.xor_lt_two_pow (h i) (k i)
theorem El.pz (d : Nat) : El d pz := fun _ => Nat.two_pow_pos d
theorem Fld.el_po (h : Fld p d) : El d po := fun i => by unfold po; split; exact h.one_lt; exact Nat.two_pow_pos d
theorem Fld.el_pm (h : Fld p d) (f g : Nat → Nat) : El d (pm p f g) := fun _ => sx_lt (fun _ _ => h.fm_lt _ _)
theorem Fld.el_pc (h : Fld p d) (a : Nat) (f : Nat → Nat) : El d (pc p a f) := fun _ => h.fm_lt _ _
theorem el_mo {a : Nat} (ha : a < 2 ^ d) (k : Nat) : El d (mo a k) := fun i => by unfold mo; split; exact ha; exact Nat.two_pow_pos d
theorem El.ps {f : Nat → Nat} (h : El d f) (k : Nat) : El d (ps k f) := fun i => by unfold Gf2.ps; split; exact Nat.two_pow_pos d; exact h _
theorem pa_comm (f g : Nat → Nat) : pa f g = pa g f := funext fun i => Nat.xor_comm _ _
theorem pa_assoc (f g k : Nat → Nat) : pa (pa f g) k = pa f (pa g k) := funext fun i => Nat.xor_assoc _ _ _
theorem pa_self (f : Nat → Nat) : pa f f = pz := funext fun i => Nat.xor_self _
theorem pa_pz (f : Nat → Nat) : pa f pz = f := funext fun i => Nat.xor_zero _
theorem pz_pa (f : Nat → Nat) : pa pz f = f := funext fun i => Nat.zero_xor _
theorem pa_eq_pz {f g : Nat → Nat} (h : pa f g = pz) : f = g := by
  have : pa (pa f g) g = pa pz g := by rw [h]
  rwa [pa_assoc, pa_self, pa_pz, pz_pa] at this
theorem pa_move {f g k : Nat → Nat} (h : f = pa g k) : g = pa f k := by rw [h, pa_assoc, pa_self, pa_pz]

theorem Fld.pm_comm (_h : Fld p d) (f g : Nat → Nat) : pm p f g = pm p g f := by
  funext n
  unfold pm
  rw [sx_rev]
  exact sx_congr (fun i hi => by rw [fm_comm, show n - (n - i) = i by omega])
theorem Fld.pm_pa (h : Fld p d) (f g k : Nat → Nat) : pm p f (pa g k) = pa (pm p f g) (pm p f k) := by
  funext n
  unfold pm pa
  rw [← sx_xor]
  exact sx_congr (fun i _ => by rw [h.fm_xor])
theorem Fld.pa_pm (h : Fld p d) (f g k : Nat → Nat) : pm p (pa f g) k = pa (pm p f k) (pm p g k) := by
  rw [h.pm_comm, h.pm_pa, h.pm_comm k f, h.pm_comm k g]
theorem Fld.pz_pm (h : Fld p d) (g : Nat → Nat) : pm p pz g = pz := funext fun n => sx_zero (fun i _ => h.zero_fm _)
theorem Fld.pm_pz (h : Fld p d) (g : Nat → Nat) : pm p g pz = pz := by rw [h.pm_comm, h.pz_pm]
/-- a monomial times g. -/
theorem Fld.mo_pm (h : Fld p d) (a k : Nat) (g : Nat → Nat) : pm p (mo a k) g = ps k (pc p a g) := by
  funext n
  unfold pm ps pc
  by_cases hk : n < k
  · rw [if_pos hk]
    exact sx_zero (fun i hi => by unfold mo; rw [if_neg (by omega), h.zero_fm])
  · rw [if_neg hk, sx_one (k := k) (by omega) (fun i _ hne => by unfold mo; rw [if_neg hne, h.zero_fm])]
    unfold mo
    rw [if_pos rfl]
theorem Fld.po_pm (h : Fld p d) {g : Nat → Nat} (hg : El d g) : pm p po g = g := by
  have : po = mo 1 0 := rfl
  rw [this, h.mo_pm]
  funext n
  unfold ps pc
  rw [if_neg (by omega), h.one_fm (hg _)]; rfl
theorem Fld.pm_po (h : Fld p d) {g : Nat → Nat} (hg : El d g) : pm p g po = g := by rw [h.pm_comm, h.po_pm hg]
/-- a polynomial by its first n coefficients and the rest. -/
theorem split_top {f : Nat → Nat} {n : Nat} (h : Dg f (n + 1)) : f = pa (fun i => if i < n then f i else 0) (mo (f n) n) := by
  funext i
  unfold pa mo
  by_cases h1 : i < n
  · simp [h1, Nat.ne_of_lt h1]
  · by_cases h2 : i = n
    · subst h2; simp
    · simp [h1, h2, h i (by omega)]
theorem cut_dg (f : Nat → Nat) (n : Nat) : Dg (fun i => if i < n then f i else 0) n := fun i hi => by show (if i < n then f i else 0) = 0; rw [if_neg (by omega)]
theorem El.cut {f : Nat → Nat} (h : El d f) (n : Nat) : El d (fun i => if i < n then f i else 0) := fun i => by
  show (if i < n then f i else 0) < 2 ^ d
  split
  · exact h i
  · exact Nat.two_pow_pos d
theorem ps_pa (k : Nat) (f g : Nat → Nat) : ps k (pa f g) = pa (ps k f) (ps k g) := by
  funext i
  unfold ps pa
  by_cases h : i < k <;> simp [h]
theorem Fld.ps_pm (h : Fld p d) (k : Nat) (f g : Nat → Nat) : pm p (ps k f) g = ps k (pm p f g) := by
  funext n
  unfold pm
  by_cases hk : n < k
  · have e : ps k (pm p f g) n = 0 := by unfold ps; rw [if_pos hk]
    show _ = ps k (pm p f g) n
    rw [e]
    exact sx_zero (fun i hi => by unfold ps; rw [if_pos (by omega), h.zero_fm])
  · have e : ps k (pm p f g) n = pm p f g (n - k) := by unfold ps; rw [if_neg hk]
    show _ = ps k (pm p f g) n
    rw [e, show n + 1 = k + (n - k + 1) by omega, sx_split, sx_zero (n := k) (fun i hi => by unfold ps; rw [if_pos hi, h.zero_fm]), Nat.zero_xor]
    unfold pm
    exact sx_congr (fun i hi => by unfold ps; rw [if_neg (by omega), show k + i - k = i by omega, show n - (k + i) = n - k - i by omega])
theorem Fld.pc_pm (h : Fld p d) (a : Nat) (f g : Nat → Nat) : pm p (pc p a f) g = pc p a (pm p f g) := by
  funext n
  unfold pm pc
  rw [h.fm_sx]
  exact sx_congr (fun i _ => by rw [h.fm_assoc])
theorem Fld.pm_assoc (h : Fld p d) (f g k : Nat → Nat) {n : Nat} (hf : Dg f n) : pm p (pm p f g) k = pm p f (pm p g k) := by
  induction n generalizing f with
  | zero => rw [hf.zero, h.pz_pm, h.pz_pm, h.pz_pm]
  | succ n ih =>
    rw [split_top hf, h.pa_pm, h.pa_pm, h.pa_pm, ih _ (cut_dg f n), h.mo_pm, h.mo_pm, h.ps_pm, h.pc_pm]
theorem Fld.dg_pm (h : Fld p d) {f g : Nat → Nat} {m n : Nat} (hf : Dg f m) (hg : Dg g n) : Dg (pm p f g) (m + n - 1) := by
  intro i hi
  refine sx_zero (fun j hj => ?_)
  by_cases hjm : m ≤ j
  · rw [hf j hjm, h.zero_fm]
  · rw [hg (i - j) (by omega), h.fm_zero]
/-- the top coefficient of a product. -/
theorem Fld.top_pm (h : Fld p d) {f g : Nat → Nat} {m n : Nat} (hf : Dg f (m + 1)) (hg : Dg g (n + 1)) : pm p f g (m + n) = fm p (f m) (g n) := by
  unfold pm
  rw [sx_one (k := m) (by omega) (fun i hi hne => ?_), show m + n - m = n by omega]
  rcases Nat.lt_or_gt_of_ne hne with h1 | h1
  · rw [hg (m + n - i) (by omega), h.fm_zero]
  · rw [hf i (by omega), h.zero_fm]
end Gf2
end Go.Proofs.Ytikepkckfnpngaa
