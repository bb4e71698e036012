import Derived.Test.YtidcdbjhkgpjcaaDoorTj1
namespace Go.Proofs.YtidcdbjhkgpjcaaDoor
namespace Gf2
set_option linter.unusedVariables false

/-- the sum of f 0, .., f (n - 1). -/
def sx : Nat → (Nat → Nat) → Nat
  | 0, _ => 0
  | n + 1, f => sx n f ^^^ f n
theorem sx_congr {n : Nat} {f g : Nat → Nat} (h : ∀ i, i < n → f i = g i) : sx n f = sx n g := by
  induction n with
  | zero => rfl
  | succ n ih => simp only [sx]; rw [ih (fun i hi => h i (by omega)), h n (by omega)]
theorem sx_zero {n : Nat} {f : Nat → Nat} (h : ∀ i, i < n → f i = 0) : sx n f = 0 := by
  induction n with
  | zero => rfl
  | succ n ih => simp only [sx]; rw [ih (fun i hi => h i (by omega)), h n (by omega)]; rfl
theorem sx_xor (n : Nat) (f g : Nat → Nat) : sx n (fun i => f i ^^^ g i) = sx n f ^^^ sx n g := by
  induction n with
  | zero => simp [sx]
  | succ n ih => simp only [sx]; rw [ih]; ac_rfl
theorem sx_split (a b : Nat) (f : Nat → Nat) : sx (a + b) f = sx a f ^^^ sx b (fun i => f (a + i)) := by
  induction b with
  | zero => simp [sx]
  | succ b ih =>
    show sx (a + b) f ^^^ f (a + b) = _
    rw [ih, Nat.xor_assoc]; rfl
theorem sx_first (n : Nat) (f : Nat → Nat) : sx (n + 1) f = f 0 ^^^ sx n (fun i => f (i + 1)) := by
  have := sx_split 1 n f
  rw [Nat.add_comm n 1, this]
  simp only [sx, Nat.zero_xor]
  congr 1
  exact sx_congr (fun i _ => by rw [Nat.add_comm])
theorem sx_rev (n : Nat) (f : Nat → Nat) : sx (n + 1) f = sx (n + 1) (fun i => f (n - i)) := by
  induction n generalizing f with
  | zero => rfl
  | succ n ih =>
    rw [sx_first]
    have e : sx (n + 2) (fun i => f (n + 1 - i)) = sx (n + 1) (fun i => f (n + 1 - i)) ^^^ f (n + 1 - (n + 1)) := rfl
    rw [e, Nat.sub_self, ih (fun i => f (i + 1)), Nat.xor_comm]
    congr 1
    exact sx_congr (fun i hi => by congr 1; omega)
/-- a sum whose terms beyond m are 0. -/
theorem sx_cut {m n : Nat} {f : Nat → Nat} (hmn : m ≤ n) (h : ∀ i, m ≤ i → i < n → f i = 0) : sx n f = sx m f := by
  obtain ⟨k, rfl⟩ : ∃ k, n = m + k := ⟨n - m, by omega⟩
  rw [sx_split, sx_zero (n := k) (fun i hi => h (m + i) (by omega) (by omega)), Nat.xor_zero]
theorem sx_one {n k : Nat} {f : Nat → Nat} (hk : k < n) (h : ∀ i, i < n → i ≠ k → f i = 0) : sx n f = f k := by
  rw [sx_cut (m := k + 1) (by omega) (fun i h1 h2 => h i h2 (by omega))]
  simp only [sx]
  rw [sx_zero (fun i hi => h i (by omega) (by omega)), Nat.zero_xor]
theorem sx_lt {n d : Nat} {f : Nat → Nat} (h : ∀ i, i < n → f i < 2 ^ d) : sx n f < 2 ^ d := by
  induction n with
  | zero => exact Nat.two_pow_pos d
  | succ n ih => exact Nat.xor_lt_two_pow (ih (fun i hi => h i (by omega))) (h n (by omega))

variable {p d : Nat}

theorem Fld.fm_sx (h : Fld p d) (a n : Nat) (f : Nat → Nat) : fm p a (sx n f) = sx n (fun i => fm p a (f i)) := by
  induction n with
  | zero => exact h.fm_zero a
  | succ n ih => simp only [sx]; rw [h.fm_xor, ih]

/-! polynomials over the field: their coefficients. -/
/-- all coefficients are elements. -/
def El (d : Nat) (f : Nat → Nat) : Prop := ∀ i, f i < 2 ^ d
/-- the degree is below n. -/
def Dg (f : Nat → Nat) (n : Nat) : Prop := ∀ i, n ≤ i → f i = 0
def pz : Nat → Nat := fun _ => 0
def po : Nat → Nat := fun i => if i = 0 then 1 else 0
def pa (f g : Nat → Nat) : Nat → Nat := fun i => f i ^^^ g i
def pc (p a : Nat) (f : Nat → Nat) : Nat → Nat := fun i => fm p a (f i)
def ps (k : Nat) (f : Nat → Nat) : Nat → Nat := fun i => if i < k then 0 else f (i - k)
def pm (p : Nat) (f g : Nat → Nat) : Nat → Nat := fun n => sx (n + 1) (fun i => fm p (f i) (g (n - i)))
/-- a times X^k. -/
def mo (a k : Nat) : Nat → Nat := fun i => if i = k then a else 0

theorem Dg.mono {f : Nat → Nat} {m n : Nat} (h : Dg f m) (hmn : m ≤ n) : Dg f n := fun i hi => h i (by omega)
theorem Dg.pa {f g : Nat → Nat} {n : Nat} (h : Dg f n) (k : Dg g n) : Dg (pa f g) n := fun i hi => by show f i ^^^ g i = 0; rw [h i hi, k i hi]; rfl
theorem Dg.zero {f : Nat → Nat} (h : Dg f 0) : f = pz := funext fun i => h i (by omega)
theorem Dg.pz (n : Nat) : Dg pz n := fun _ _ => rfl
theorem El.pa {f g : Nat → Nat} (h : El d f) (k : El d g) : El d (pa f g) := fun i => Nat.xor_lt_two_pow (h i) (k i)
theorem El.pz (d : Nat) : El d pz := fun _ => Nat.two_pow_pos d
theorem Fld.el_po (h : Fld p d) : El d po := fun i => by unfold po; split; exact h.one_lt; exact Nat.two_pow_pos d
theorem Fld.el_pm (h : Fld p d) (f g : Nat → Nat) : El d (pm p f g) := fun _ => sx_lt (fun _ _ => h.fm_lt _ _)
theorem Fld.el_pc (h : Fld p d) (a : Nat) (f : Nat → Nat) : El d (pc p a f) := fun _ => h.fm_lt _ _
theorem el_mo {a : Nat} (ha : a < 2 ^ d) (k : Nat) : El d (mo a k) := fun i => by unfold mo; split; exact ha; exact Nat.two_pow_pos d
theorem El.ps {f : Nat → Nat} (h : El d f) (k : Nat) : El d (ps k f) := fun i => by unfold Gf2.ps; split; exact Nat.two_pow_pos d; exact h _
theorem pa_comm (f g : Nat → Nat) : pa f g = pa g f := funext fun i => Nat.xor_comm _ _
theorem pa_assoc (f g k : Nat → Nat) : pa (pa f g) k = pa f (pa g k) := funext fun i => Nat.xor_assoc _ _ _
theorem pa_self (f : Nat → Nat) : pa f f = pz := funext fun i => Nat.xor_self _
theorem pa_pz (f : Nat → Nat) : pa f pz = f := funext fun i => Nat.xor_zero _
theorem pz_pa (f : Nat → Nat) : pa pz f = f := funext fun i => Nat.zero_xor _
theorem pa_eq_pz {f g : Nat → Nat} (h : pa f g = pz) : f = g := by
  have : pa (pa f g) g = pa pz g := by rw [h]
  rwa [pa_assoc, pa_self, pa_pz, pz_pa] at this
theorem pa_move {f g k : Nat → Nat} (h : f = pa g k) : g = pa f k := by rw [h, pa_assoc, pa_self, pa_pz]

theorem Fld.pm_comm (_h : Fld p d) (f g : Nat → Nat) : pm p f g = pm p g f := by
  funext n
  unfold pm
  rw [sx_rev]
  exact sx_congr (fun i hi => by rw [fm_comm, show n - (n - i) = i by omega])
theorem Fld.pm_pa (h : Fld p d) (f g k : Nat → Nat) : pm p f (pa g k) = pa (pm p f g) (pm p f k) := by
  funext n
  unfold pm pa
  rw [← sx_xor]
  exact sx_congr (fun i _ => by rw [h.fm_xor])
theorem Fld.pa_pm (h : Fld p d) (f g k : Nat → Nat) : pm p (pa f g) k = pa (pm p f k) (pm p g k) := by
  rw [h.pm_comm, h.pm_pa, h.pm_comm k f, h.pm_comm k g]
theorem Fld.pz_pm (h : Fld p d) (g : Nat → Nat) : pm p pz g = pz := funext fun n => sx_zero (fun i _ => h.zero_fm _)
theorem Fld.pm_pz (h : Fld p d) (g : Nat → Nat) : pm p g pz = pz := by rw [h.pm_comm, h.pz_pm]
/-- a monomial times g. -/
theorem Fld.mo_pm (h : Fld p d) (a k : Nat) (g : Nat → Nat) : pm p (mo a k) g = ps k (pc p a g) := by
  funext n
  unfold pm ps pc
  by_cases hk : n < k
  · rw [if_pos hk]
    exact sx_zero (fun i hi => by unfold mo; rw [if_neg (by omega), h.zero_fm])
  · rw [if_neg hk, sx_one (k := k) (by omega) (fun i _ hne => by unfold mo; rw [if_neg hne, h.zero_fm])]
    unfold mo
    rw [if_pos rfl]
theorem Fld.po_pm (h : Fld p d) {g : Nat → Nat} (hg : El d g) : pm p po g = g := by
  have : po = mo 1 0 := rfl
  rw [this, h.mo_pm]
  funext n
  unfold ps pc
  rw [if_neg (by omega), h.one_fm (hg _)]; rfl
theorem Fld.pm_po (h : Fld p d) {g : Nat → Nat} (hg : El d g) : pm p g po = g := by rw [h.pm_comm, h.po_pm hg]
/-- a polynomial by its first n coefficients and the rest. -/
theorem split_top {f : Nat → Nat} {n : Nat} (h : Dg f (n + 1)) : f = pa (fun i => if i < n then f i else 0) (mo (f n) n) := by
  funext i
  unfold pa mo
  by_cases h1 : i < n
  · simp [h1, Nat.ne_of_lt h1]
  · by_cases h2 : i = n
    · subst h2; simp
    · simp [h1, h2, h i (by omega)]
theorem cut_dg (f : Nat → Nat) (n : Nat) : Dg (fun i => if i < n then f i else 0) n := fun i hi => by show (if i < n then f i else 0) = 0; rw [if_neg (by omega)]
theorem El.cut {f : Nat → Nat} (h : El d f) (n : Nat) : El d (fun i => if i < n then f i else 0) := fun i => by
  show (if i < n then f i else 0) < 2 ^ d
  split
  · exact h i
  · exact Nat.two_pow_pos d
theorem ps_pa (k : Nat) (f g : Nat → Nat) : ps k (pa f g) = pa (ps k f) (ps k g) := by
  funext i
  unfold ps pa
  by_cases h : i < k <;> simp [h]
theorem Fld.ps_pm (h : Fld p d) (k : Nat) (f g : Nat → Nat) : pm p (ps k f) g = ps k (pm p f g) := by
  funext n
  unfold pm
  by_cases hk : n < k
  · have e : ps k (pm p f g) n = 0 := by unfold ps; rw [if_pos hk]
    show _ = ps k (pm p f g) n
    rw [e]
    exact sx_zero (fun i hi => by unfold ps; rw [if_pos (by omega), h.zero_fm])
  · have e : ps k (pm p f g) n = pm p f g (n - k) := by unfold ps; rw [if_neg hk]
    show _ = ps k (pm p f g) n
    rw [e, show n + 1 = k + (n - k + 1) by omega, sx_split, sx_zero (n := k) (fun i hi => by unfold ps; rw [if_pos hi, h.zero_fm]), Nat.zero_xor]
    unfold pm
    exact sx_congr (fun i hi => by unfold ps; rw [if_neg (by omega), show k + i - k = i by omega, show n - (k + i) = n - k - i by omega])
theorem Fld.pc_pm (h : Fld p d) (a : Nat) (f g : Nat → Nat) : pm p (pc p a f) g = pc p a (pm p f g) := by
  funext n
  unfold pm pc
  rw [h.fm_sx]
  exact sx_congr (fun i _ => by rw [h.fm_assoc])
theorem Fld.pm_assoc (h : Fld p d) (f g k : Nat → Nat) {n : Nat} (hf : Dg f n) : pm p (pm p f g) k = pm p f (pm p g k) := by
  induction n generalizing f with
  | zero => rw [hf.zero, h.pz_pm, h.pz_pm, h.pz_pm]
  | succ n ih =>
    rw [split_top hf, h.pa_pm, h.pa_pm, h.pa_pm, ih _ (cut_dg f n), h.mo_pm, h.mo_pm, h.ps_pm, h.pc_pm]
theorem Fld.dg_pm (h : Fld p d) {f g : Nat → Nat} {m n : Nat} (hf : Dg f m) (hg : Dg g n) : Dg (pm p f g) (m + n - 1) := by
  intro i hi
  refine sx_zero (fun j hj => ?_)
  by_cases hjm : m ≤ j
  · rw [hf j hjm, h.zero_fm]
  · rw [hg (i - j) (by omega), h.fm_zero]
/-- the top coefficient of a product. -/
theorem Fld.top_pm (h : Fld p d) {f g : Nat → Nat} {m n : Nat} (hf : Dg f (m + 1)) (hg : Dg g (n + 1)) : pm p f g (m + n) = fm p (f m) (g n) := by
  unfold pm
  rw [sx_one (k := m) (by omega) (fun i hi hne => ?_), show m + n - m = n by omega]
  rcases Nat.lt_or_gt_of_ne hne with h1 | h1
  · rw [hg (m + n - i) (by omega), h.fm_zero]
  · rw [hf i (by omega), h.zero_fm]
end Gf2
end Go.Proofs.YtidcdbjhkgpjcaaDoor
namespace Go.Proofs.YtidcdbjhkgpjcaaDoor
namespace Gf2
set_option linter.unusedVariables false
variable {p d : Nat}

/-- a polynomial: elements, and from some place on 0. -/
def Pol (d : Nat) (f : Nat → Nat) : Prop := El d f ∧ ∃ n, Dg f n
/-- its degree is n. -/
def Tp (f : Nat → Nat) (n : Nat) : Prop := Dg f (n + 1) ∧ f n ≠ 0

theorem Dg.max {f g : Nat → Nat} {m n : Nat} (h : Dg f m) (k : Dg g n) : Dg (Gf2.pa f g) (m + n) := (h.mono (by omega)).pa (k.mono (by omega))
theorem Pol.pa {f g : Nat → Nat} (h : Pol d f) (k : Pol d g) : Pol d (Gf2.pa f g) := by
  obtain ⟨h1, m, h2⟩ := h
  obtain ⟨k1, n, k2⟩ := k
  exact ⟨h1.pa k1, m + n, h2.max k2⟩
theorem Fld.pol_pm (h : Fld p d) {f g : Nat → Nat} (hf : Pol d f) (hg : Pol d g) : Pol d (pm p f g) := by
  obtain ⟨h1, m, h2⟩ := hf
  obtain ⟨k1, n, k2⟩ := hg
  exact ⟨h.el_pm f g, _, h.dg_pm h2 k2⟩
theorem Pol.pz (d : Nat) : Pol d pz := ⟨El.pz d, 0, Dg.pz 0⟩
theorem Fld.pol_po (h : Fld p d) : Pol d po := ⟨h.el_po, 1, fun i hi => by unfold po; rw [if_neg (by omega)]⟩
theorem pol_mo {a : Nat} (ha : a < 2 ^ d) (k : Nat) : Pol d (mo a k) := ⟨el_mo ha k, k + 1, fun i hi => by unfold mo; rw [if_neg (by omega)]⟩
theorem mo_dg (a k : Nat) : Dg (mo a k) (k + 1) := fun i hi => by unfold mo; rw [if_neg (by omega)]
theorem po_tp : Tp po 0 := ⟨fun i hi => by unfold po; rw [if_neg (by omega)], by unfold po; simp⟩
theorem Tp.ne {f : Nat → Nat} {n : Nat} (h : Tp f n) : f ≠ pz := fun e => h.2 (by rw [e]; rfl)
theorem tp_of {f : Nat → Nat} {n : Nat} (h : Dg f n) (h0 : f ≠ pz) : ∃ k, k < n ∧ Tp f k := by
  induction n with
  | zero => exact absurd h.zero h0
  | succ n ih =>
    by_cases e : f n = 0
    · obtain ⟨k, hk, ht⟩ := ih (fun i hi => by
        rcases Nat.lt_or_ge n i with h1 | h1
        · exact h i (by omega)
        · rw [show i = n by omega]; exact e)
      exact ⟨k, by omega, ht⟩
    · exact ⟨n, by omega, h, e⟩
theorem Tp.only {f : Nat → Nat} {m n : Nat} (h : Tp f m) (k : Tp f n) : m = n := by
  rcases Nat.lt_trichotomy m n with e | e | e
  · exact absurd (h.1 n (by omega)) k.2
  · exact e
  · exact absurd (k.1 m (by omega)) h.2
theorem Tp.below {f : Nat → Nat} {m n : Nat} (h : Tp f m) (k : Dg f n) : m < n := by
  rcases Nat.lt_or_ge m n with e | e
  · exact e
  · exact absurd (k m e) h.2
theorem Fld.tp_pm (h : Fld p d) {f g : Nat → Nat} {m n : Nat} (ef : El d f) (eg : El d g) (hf : Tp f m) (hg : Tp g n) : Tp (pm p f g) (m + n) := by
  refine ⟨?_, ?_⟩
  · have := h.dg_pm hf.1 hg.1
    exact this.mono (by omega)
  · rw [h.top_pm hf.1 hg.1]
    exact h.fm_ne (ef m) (eg n) hf.2 hg.2
theorem Fld.pm_eq_pz (h : Fld p d) {f g : Nat → Nat} (hf : Pol d f) (hg : Pol d g) (e : pm p f g = pz) : f = pz ∨ g = pz := by
  by_cases h1 : f = pz
  · exact .inl h1
  · by_cases h2 : g = pz
    · exact .inr h2
    · obtain ⟨m, _, hm⟩ := tp_of hf.2.choose_spec h1
      obtain ⟨n, _, hn⟩ := tp_of hg.2.choose_spec h2
      exact absurd e (h.tp_pm hf.1 hg.1 hm hn).ne
theorem Tp.pa_low {f g : Nat → Nat} {n : Nat} (h : Tp f n) (k : Dg g n) : Tp (Gf2.pa f g) n := by
  refine ⟨h.1.pa (k.mono (by omega)), ?_⟩
  show f n ^^^ g n ≠ 0
  rw [k n (by omega), Nat.xor_zero]
  exact h.2

/-- division with a remainder. -/
theorem Fld.div_ex (h : Fld p d) {g : Nat → Nat} {e : Nat} (eg : El d g) (hg : Tp g e) : ∀ {N : Nat} {f : Nat → Nat}, El d f → Dg f N → ∃ q m, El d q ∧ El d m ∧ Dg q (N - e) ∧ Dg m e ∧ f = pa (pm p q g) m := by
  intro N
  induction N with
  | zero =>
    intro f ef hf
    exact ⟨pz, f, El.pz d, ef, Dg.pz _, hf.mono (by omega), by rw [h.pz_pm, pz_pa]⟩
  | succ k ih =>
    intro f ef hf
    by_cases hk : k < e
    · exact ⟨pz, f, El.pz d, ef, Dg.pz _, hf.mono (by omega), by rw [h.pz_pm, pz_pa]⟩
    · have hgi := h.fi_lt (eg e) hg.2
      obtain ⟨t, ht⟩ : ∃ t, t = fm p (f k) (fi p (g e)) := ⟨_, rfl⟩
      have tl : t < 2 ^ d := by rw [ht]; exact h.fm_lt _ _
      have top : pm p (mo t (k - e)) g k = f k := by
        have := h.top_pm (mo_dg t (k - e)) hg.1
        rw [show k - e + e = k by omega] at this
        rw [this]
        unfold mo
        rw [if_pos rfl, ht]
        exact h.div_mul (ef k) (eg e) hg.2
      have dg : Dg (pa f (pm p (mo t (k - e)) g)) k := by
        intro i hi
        rcases Nat.lt_or_ge k i with h1 | h1
        · show f i ^^^ pm p (mo t (k - e)) g i = 0
          rw [hf i (by omega), (h.dg_pm (mo_dg t (k - e)) hg.1) i (by omega)]; rfl
        · rw [show i = k by omega]
          show f k ^^^ pm p (mo t (k - e)) g k = 0
          rw [top, Nat.xor_self]
      obtain ⟨q, m, eq, em, dq, dm, he⟩ := ih (ef.pa (h.el_pm _ _)) dg
      refine ⟨pa q (mo t (k - e)), m, eq.pa (el_mo tl _), em, (dq.mono (by omega)).pa ((mo_dg t (k - e)).mono (by omega)), dm, ?_⟩
      rw [h.pa_pm, pa_assoc, pa_comm (pm p (mo t (k - e)) g) m, ← pa_assoc, ← he, pa_assoc, pa_self, pa_pz]
theorem Fld.div_only (h : Fld p d) {g q m q' m' : Nat → Nat} {e : Nat} (eg : El d g) (hg : Tp g e) (hq : Pol d q) (hq' : Pol d q') (hm : Dg m e) (hm' : Dg m' e)
    (he : pa (pm p q g) m = pa (pm p q' g) m') : q = q' ∧ m = m' := by
  have h1 : pm p (pa q q') g = pa m m' := by
    rw [h.pa_pm]
    have h2 := pa_move he
    rw [h2, pa_assoc (pm p q g) m m', ← pa_assoc (pm p q g) (pm p q g), pa_self, pz_pa]
  have h3 : pa q q' = pz := by
    rcases Classical.em (pa q q' = pz) with h0 | h0
    · exact h0
    · obtain ⟨k, _, hk⟩ := tp_of (hq.pa hq').2.choose_spec h0
      have t := h.tp_pm (hq.pa hq').1 eg hk hg
      rw [h1] at t
      have := t.below (hm.pa hm')
      omega
  have e1 := pa_eq_pz h3
  refine ⟨e1, ?_⟩
  rw [h3, h.pz_pm] at h1
  exact pa_eq_pz h1.symm

/-- g divides f. -/
def Dv (p d : Nat) (g f : Nat → Nat) : Prop := ∃ q, Pol d q ∧ f = pm p q g
theorem Fld.dv_self (h : Fld p d) {f : Nat → Nat} (hf : El d f) : Dv p d f f := ⟨po, h.pol_po, (h.po_pm hf).symm⟩
theorem Fld.dv_pz (h : Fld p d) (g : Nat → Nat) : Dv p d g pz := ⟨pz, Pol.pz d, (h.pz_pm g).symm⟩
theorem Fld.dv_pa (h : Fld p d) {c f g : Nat → Nat} (h1 : Dv p d c f) (h2 : Dv p d c g) : Dv p d c (pa f g) := by
  obtain ⟨q, hq, rfl⟩ := h1
  obtain ⟨r, hr, rfl⟩ := h2
  exact ⟨pa q r, hq.pa hr, (h.pa_pm _ _ _).symm⟩
theorem Fld.dv_pm (h : Fld p d) {c f g : Nat → Nat} (hf : Pol d f) (h1 : Dv p d c g) : Dv p d c (pm p f g) := by
  obtain ⟨q, hq, rfl⟩ := h1
  exact ⟨pm p f q, h.pol_pm hf hq, (h.pm_assoc f q c hf.2.choose_spec).symm⟩
theorem Fld.dv_trans (h : Fld p d) {a b c : Nat → Nat} (h1 : Dv p d a b) (h2 : Dv p d b c) : Dv p d a c := by
  obtain ⟨q, hq, rfl⟩ := h2
  exact h.dv_pm hq h1
/-- the greatest common divisor, with 1 at its top, or 0. -/
structure Gd (p d : Nat) (f g D : Nat → Nat) : Prop where
  pol : Pol d D
  dl : Dv p d D f
  dr : Dv p d D g
  all : ∀ c, Pol d c → Dv p d c f → Dv p d c g → Dv p d c D
  mon : D = pz ∨ ∃ n, Dg D (n + 1) ∧ D n = 1
theorem Fld.gd_only (h : Fld p d) {f g D E : Nat → Nat} (h1 : Gd p d f g D) (h2 : Gd p d f g E) : D = E := by
  obtain ⟨q, hq, e1⟩ := h2.all D h1.pol h1.dl h1.dr
  obtain ⟨r, hr, e2⟩ := h1.all E h2.pol h2.dl h2.dr
  rcases h1.mon with rfl | ⟨n, hn, h1n⟩
  · rw [h.pm_pz] at e1; exact e1.symm
  · have tD : Tp D n := ⟨hn, by rw [h1n]; decide⟩
    rcases h2.mon with rfl | ⟨m, hm, h1m⟩
    · rw [h.pm_pz] at e2; exact e2
    · have tE : Tp E m := ⟨hm, by rw [h1m]; decide⟩
      have hq0 : q ≠ pz := fun e => tE.ne (by rw [e1, e, h.pz_pm])
      have hr0 : r ≠ pz := fun e => tD.ne (by rw [e2, e, h.pz_pm])
      obtain ⟨a, _, ta⟩ := tp_of hq.2.choose_spec hq0
      obtain ⟨b, _, tb⟩ := tp_of hr.2.choose_spec hr0
      have s1 := h.tp_pm hq.1 h1.pol.1 ta tD
      have s2 := h.tp_pm hr.1 h2.pol.1 tb tE
      rw [← e1] at s1
      rw [← e2] at s2
      have o1 := s1.only tE
      have o2 := s2.only tD
      have a0 : a = 0 := by omega
      subst a0
      have mn : m = n := by omega
      subst mn
      have hq1 : q = mo (q 0) 0 := by
        funext i
        unfold mo
        by_cases hi : i = 0
        · rw [if_pos hi, hi]
        · rw [if_neg hi, ta.1 i (by omega)]
      have top := h.top_pm ta.1 tD.1
      rw [← e1, Nat.zero_add, h1m, h1n, h.fm_one (hq.1 0)] at top
      have : q = po := by rw [hq1, ← top]; rfl
      rw [this, h.po_pm h1.pol.1] at e1
      exact e1.symm
end Gf2
end Go.Proofs.YtidcdbjhkgpjcaaDoor
namespace Go.Proofs.YtidcdbjhkgpjcaaDoor
namespace Gf2
set_option linter.unusedVariables false
variable {p d : Nat}

/-- the value at x of a polynomial of a degree below n. -/
def pe (p x n : Nat) (f : Nat → Nat) : Nat := sx n (fun i => fm p (f i) (fp p x i))
theorem Fld.pe_cut (h : Fld p d) {f : Nat → Nat} {m n : Nat} (x : Nat) (hf : Dg f m) (hmn : m ≤ n) : pe p x n f = pe p x m f :=
  sx_cut hmn (fun i h1 _ => by rw [hf i h1, h.zero_fm])
theorem Fld.pe_lt (h : Fld p d) (x n : Nat) (f : Nat → Nat) : pe p x n f < 2 ^ d := sx_lt (fun _ _ => h.fm_lt _ _)
theorem Fld.pe_pa (h : Fld p d) (x n : Nat) (f g : Nat → Nat) : pe p x n (pa f g) = pe p x n f ^^^ pe p x n g := by
  unfold pe
  rw [← sx_xor]
  exact sx_congr (fun i _ => h.xor_fm _ _ _)
theorem Fld.pe_pz (h : Fld p d) (x n : Nat) : pe p x n pz = 0 := sx_zero (fun i _ => h.zero_fm _)
theorem Fld.pe_pc (h : Fld p d) (x n a : Nat) (f : Nat → Nat) : pe p x n (pc p a f) = fm p a (pe p x n f) := by
  unfold pe pc
  rw [h.fm_sx]
  exact sx_congr (fun i _ => h.fm_assoc _ _ _)
theorem Fld.pe_ps (h : Fld p d) (x k n : Nat) (f : Nat → Nat) : pe p x (k + n) (ps k f) = fm p (fp p x k) (pe p x n f) := by
  unfold pe
  rw [sx_split, sx_zero (n := k) (fun i hi => by unfold ps; rw [if_pos hi, h.zero_fm]), Nat.zero_xor, h.fm_sx]
  refine sx_congr (fun i _ => ?_)
  unfold ps
  rw [if_neg (by omega), show k + i - k = i by omega, h.fp_add, ← h.fm_assoc, fm_comm p (f i), h.fm_assoc]
theorem Fld.pe_mo (h : Fld p d) {x a k n : Nat} (hk : k < n) : pe p x n (mo a k) = fm p a (fp p x k) := by
  unfold pe
  rw [sx_one hk (fun i _ hne => by unfold mo; rw [if_neg hne, h.zero_fm])]
  unfold mo; rw [if_pos rfl]
theorem Fld.pe_pm (h : Fld p d) (x : Nat) {f g : Nat → Nat} {m n : Nat} (hf : Dg f m) (hg : Dg g n) : pe p x (m + n) (pm p f g) = fm p (pe p x m f) (pe p x n g) := by
  induction m generalizing f with
  | zero => rw [hf.zero, h.pz_pm, h.pe_pz, h.pe_pz, h.zero_fm]
  | succ m ih =>
    rw [split_top hf, h.pa_pm, h.pe_pa, h.pe_pa, h.xor_fm, h.mo_pm]
    congr 1
    · rw [h.pe_cut x (h.dg_pm (cut_dg f m) hg) (by omega : m + n - 1 ≤ m + 1 + n), ← h.pe_cut x (h.dg_pm (cut_dg f m) hg) (by omega : m + n - 1 ≤ m + n), ih (cut_dg f m), h.pe_cut x (cut_dg f m) (by omega : m ≤ m + 1)]
    · have hd : Dg (ps m (pc p (f m) g)) (m + n) := fun i hi => by unfold ps pc; rw [if_neg (by omega), hg _ (by omega), h.fm_zero]
      rw [h.pe_cut x hd (by omega : m + n ≤ m + 1 + n), h.pe_ps, h.pe_pc, h.pe_mo (by omega), ← h.fm_assoc, fm_comm p (fp p x m)]

/-- X + x. -/
def px (x : Nat) : Nat → Nat := fun i => if i = 0 then x else if i = 1 then 1 else 0
theorem px_dg (x : Nat) : Dg (px x) 2 := fun i hi => by unfold px; rw [if_neg (by omega), if_neg (by omega)]
theorem px_tp (x : Nat) : Tp (px x) 1 := ⟨px_dg x, by unfold px; simp⟩
theorem Fld.el_px (h : Fld p d) {x : Nat} (hx : x < 2 ^ d) : El d (px x) := fun i => by
  unfold px
  split
  · exact hx
  · split
    · exact h.one_lt
    · exact Nat.two_pow_pos d
theorem Fld.pol_px (h : Fld p d) {x : Nat} (hx : x < 2 ^ d) : Pol d (px x) := ⟨h.el_px hx, 2, px_dg x⟩
theorem Fld.pe_px (h : Fld p d) {x y : Nat} (hx : x < 2 ^ d) (hy : y < 2 ^ d) : pe p y 2 (px x) = x ^^^ y := by
  show (0 ^^^ fm p (px x 0) (fp p y 0)) ^^^ fm p (px x 1) (fp p y 1) = _
  rw [Nat.zero_xor, h.fp_zero, h.fp_one hy]
  show fm p x 1 ^^^ fm p 1 y = _
  rw [h.fm_one hx, h.one_fm hy]
/-- the factor theorem. -/
theorem Fld.div_px (h : Fld p d) {x n : Nat} (hx : x < 2 ^ d) {f : Nat → Nat} (ef : El d f) (hf : Dg f n) : ∃ q, El d q ∧ Dg q (n - 1) ∧ f = pa (pm p q (px x)) (mo (pe p x n f) 0) := by
  obtain ⟨q, m, eq, em, dq, dm, he⟩ := h.div_ex (h.el_px hx) (px_tp x) ef hf
  refine ⟨q, eq, dq, ?_⟩
  have hm : m = mo (m 0) 0 := by
    funext i
    unfold mo
    by_cases hi : i = 0
    · rw [if_pos hi, hi]
    · rw [if_neg hi, dm i (by omega)]
  have hv : pe p x n f = m 0 := by
    have e1 : pe p x (n + 2) f = pe p x n f := h.pe_cut x hf (by omega)
    rw [← e1]
    rw [he]
    rw [h.pe_pa, h.pe_cut x (h.dg_pm dq (px_dg x)) (by omega : n - 1 + 2 - 1 ≤ n + 2), ← h.pe_cut x (h.dg_pm dq (px_dg x)) (by omega : n - 1 + 2 - 1 ≤ n - 1 + 2), h.pe_pm x dq (px_dg x), h.pe_px hx hx, Nat.xor_self, h.fm_zero, Nat.zero_xor, hm, h.pe_mo (by omega), h.fp_zero, h.fm_one (em 0)]
    unfold mo; simp
  rw [hv, ← hm]
  exact he
/-- as many roots as the number of coefficients: 0. -/
theorem Fld.roots_pz (h : Fld p d) : ∀ {n : Nat} {f pts : Nat → Nat}, El d f → Dg f n → (∀ i, i < n → pts i < 2 ^ d) → (∀ i j, i < n → j < n → pts i = pts j → i = j) → (∀ i, i < n → pe p (pts i) n f = 0) → f = pz := by
  intro n
  induction n with
  | zero => intro f pts ef hf _ _ _; exact hf.zero
  | succ n ih =>
    intro f pts ef hf hl hi hr
    obtain ⟨q, eq, dq, he⟩ := h.div_px (hl n (by omega)) ef hf
    rw [hr n (by omega)] at he
    have e0 : mo 0 0 = pz := funext fun i => by unfold mo pz; split <;> rfl
    rw [e0, pa_pz] at he
    rw [Nat.add_sub_cancel] at dq
    have hq : q = pz := by
      refine ih (pts := pts) eq dq (fun i hi => hl i (by omega)) (fun i j h1 h2 => hi i j (by omega) (by omega)) (fun i h1 => ?_)
      have hv := hr i (by omega)
      have e1 : pe p (pts i) (n + 2) f = 0 := by rw [h.pe_cut _ hf (by omega)]; exact hv
      rw [he, h.pe_pm _ dq (px_dg _), h.pe_px (hl n (by omega)) (hl i (by omega))] at e1
      rcases (h.fm_eq_zero (h.pe_lt _ _ _) (Nat.xor_lt_two_pow (hl n (by omega)) (hl i (by omega)))).1 e1 with h2 | h2
      · exact h2
      · have := hi n i (by omega) (by omega) (xor_eq_zero h2)
        omega
    rw [he, hq, h.pz_pm]
/-- the polynomial through points is the only one. -/
theorem Fld.through_only (h : Fld p d) {n : Nat} {f g pts : Nat → Nat} (ef : El d f) (eg : El d g) (hf : Dg f n) (hg : Dg g n) (hl : ∀ i, i < n → pts i < 2 ^ d) (hi : ∀ i j, i < n → j < n → pts i = pts j → i = j)
    (hr : ∀ i, i < n → pe p (pts i) n f = pe p (pts i) n g) : f = g := by
  refine pa_eq_pz (h.roots_pz (pts := pts) (ef.pa eg) (hf.pa hg) hl hi (fun i h1 => ?_))
  rw [h.pe_pa, hr i h1, Nat.xor_self]

/-- the derivative. -/
def pd (f : Nat → Nat) : Nat → Nat := fun i => if i % 2 = 0 then f (i + 1) else 0
theorem pd_pa (f g : Nat → Nat) : pd (pa f g) = pa (pd f) (pd g) := by
  funext i; unfold pd pa
  by_cases h : i % 2 = 0 <;> simp [h]
theorem pd_pz : pd pz = pz := by funext i; unfold pd pz; split <;> rfl
theorem pd_dg {f : Nat → Nat} {n : Nat} (h : Dg f n) : Dg (pd f) (n - 1) := fun i hi => by unfold pd; split; exact h _ (by omega); rfl
theorem El.pd {f : Nat → Nat} (h : El d f) : El d (Gf2.pd f) := fun i => by unfold Gf2.pd; split; exact h _; exact Nat.two_pow_pos d
theorem Fld.pd_pc (h : Fld p d) (a : Nat) (f : Nat → Nat) : pd (pc p a f) = pc p a (pd f) := by
  funext i; unfold pd pc
  by_cases h2 : i % 2 = 0
  · simp [h2]
  · simp [h2, h.fm_zero]
theorem pd_ps (k : Nat) (f : Nat → Nat) : pd (ps k f) = pa (if k % 2 = 1 then ps (k - 1) f else pz) (ps k (pd f)) := by
  funext i
  show (if i % 2 = 0 then ps k f (i + 1) else 0) = (if k % 2 = 1 then ps (k - 1) f else pz) i ^^^ ps k (pd f) i
  rcases Nat.mod_two_eq_zero_or_one k with hk | hk
  · have e0 : (if k % 2 = 1 then ps (k - 1) f else pz) = pz := if_neg (by omega)
    rw [e0]
    show _ = 0 ^^^ ps k (pd f) i
    rw [Nat.zero_xor]
    unfold ps pd
    by_cases hi : i < k
    · rw [if_pos hi]
      split
      · rw [if_pos (by omega)]
      · rfl
    · rw [if_neg hi]
      by_cases h2 : i % 2 = 0
      · rw [if_pos h2, if_neg (by omega), if_pos (by omega)]; congr 1; omega
      · rw [if_neg h2, if_neg (by omega)]
  · rw [if_pos hk]
    unfold ps pd
    by_cases hi : i < k
    · rw [if_pos hi, Nat.xor_zero]
      by_cases h2 : i = k - 1
      · rw [if_pos (by omega), if_neg (by omega), if_neg (by omega)]; congr 1; omega
      · rw [if_pos (by omega : i < k - 1)]
        split
        · rw [if_pos (by omega)]
        · rfl
    · rw [if_neg hi]
      by_cases h2 : i % 2 = 0
      · rw [if_pos h2, if_neg (by omega), if_neg (by omega), if_neg (by omega), Nat.xor_zero]; congr 1; omega
      · rw [if_neg h2, if_neg (by omega), if_pos (by omega), show i - (k - 1) = i - k + 1 by omega, Nat.xor_self]
theorem pd_mo (a k : Nat) : pd (mo a k) = if k % 2 = 1 then mo a (k - 1) else pz := by
  funext i
  unfold pd mo
  by_cases hk : k % 2 = 1
  · rw [if_pos hk]
    by_cases hi : i = k - 1
    · rw [hi, if_pos (by omega), if_pos (by omega), if_pos rfl]
    · simp only [hi, if_false]
      split
      · rw [if_neg (by omega)]
      · rfl
  · rw [if_neg hk]
    show _ = 0
    split
    · rw [if_neg (by omega)]
    · rfl
/-- the product rule. -/
theorem Fld.leibniz (h : Fld p d) {f g : Nat → Nat} {n : Nat} (hf : Dg f n) : pd (pm p f g) = pa (pm p (pd f) g) (pm p f (pd g)) := by
  induction n generalizing f with
  | zero => rw [hf.zero, h.pz_pm, pd_pz, h.pz_pm, h.pz_pm, pa_pz]
  | succ n ih =>
    rw [split_top hf, h.pa_pm, pd_pa, ih (cut_dg f n), pd_pa, h.pa_pm, h.pa_pm, h.mo_pm, pd_ps, h.pd_pc, pd_mo, h.mo_pm]
    have e : pm p (if n % 2 = 1 then mo (f n) (n - 1) else pz) g = if n % 2 = 1 then ps (n - 1) (pc p (f n) g) else pz := by
      split
      · rw [h.mo_pm]
      · rw [h.pz_pm]
    rw [e]
    generalize pm p (pd fun i => if i < n then f i else 0) g = A
    generalize pm p (fun i => if i < n then f i else 0) (pd g) = B
    generalize (if n % 2 = 1 then ps (n - 1) (pc p (f n) g) else pz) = C
    funext i
    unfold pa
    ac_rfl
end Gf2
end Go.Proofs.YtidcdbjhkgpjcaaDoor
namespace Go.Proofs.YtidcdbjhkgpjcaaDoor
namespace Gf2
set_option linter.unusedVariables false
variable {p d : Nat}

theorem Fld.pe_any (h : Fld p d) {f : Nat → Nat} {m n : Nat} (x : Nat) (hm : Dg f m) (hn : Dg f n) : pe p x m f = pe p x n f := by
  rw [← h.pe_cut x hm (Nat.le_add_right m n), ← h.pe_cut x hn (Nat.le_add_left n m)]
/-- the product of the X + pts i, i below n. -/
def pv (p : Nat) (pts : Nat → Nat) : Nat → Nat → Nat
  | 0 => po
  | n + 1 => pm p (pv p pts n) (px (pts n))
theorem Fld.el_pv (h : Fld p d) (pts : Nat → Nat) : ∀ n, El d (pv p pts n)
  | 0 => h.el_po
  | n + 1 => h.el_pm _ _
theorem Fld.pv_dg (h : Fld p d) (pts : Nat → Nat) : ∀ n, Dg (pv p pts n) (n + 1)
  | 0 => po_tp.1
  | n + 1 => (h.dg_pm (h.pv_dg pts n) (px_dg (pts n))).mono (by omega)
theorem Fld.pv_top (h : Fld p d) (pts : Nat → Nat) : ∀ n, pv p pts n n = 1
  | 0 => rfl
  | n + 1 => by
    show pm p (pv p pts n) (px (pts n)) (n + 1) = 1
    rw [h.top_pm (h.pv_dg pts n) (px_dg (pts n)), h.pv_top pts n]
    exact h.fm_one h.one_lt
theorem Fld.pv_tp (h : Fld p d) (pts : Nat → Nat) (n : Nat) : Tp (pv p pts n) n := ⟨h.pv_dg pts n, by rw [h.pv_top]; decide⟩
theorem Fld.pol_pv (h : Fld p d) (pts : Nat → Nat) (n : Nat) : Pol d (pv p pts n) := ⟨h.el_pv pts n, _, h.pv_dg pts n⟩
theorem Fld.pe_pv_succ (h : Fld p d) {pts : Nat → Nat} {n x : Nat} (hl : pts n < 2 ^ d) (hx : x < 2 ^ d) : pe p x (n + 2) (pv p pts (n + 1)) = fm p (pe p x (n + 1) (pv p pts n)) (pts n ^^^ x) := by
  have e := h.pe_pm x (h.pv_dg pts n) (px_dg (pts n))
  rw [h.pe_px hl hx] at e
  rw [← e]
  exact h.pe_any x (h.pv_dg pts (n + 1)) ((h.pv_dg pts (n + 1)).mono (by omega))
/-- how often y stands among the first n points. -/
def cnt (pts : Nat → Nat) (y : Nat) : Nat → Nat
  | 0 => 0
  | n + 1 => cnt pts y n + (if pts n = y then 1 else 0)
theorem Fld.pv_root (h : Fld p d) {pts : Nat → Nat} {x : Nat} (hx : x < 2 ^ d) : ∀ n, (∀ i, i < n → pts i < 2 ^ d) → (pe p x (n + 1) (pv p pts n) = 0 ↔ 0 < cnt pts x n)
  | 0, _ => by
    have e : pe p x 1 (pv p pts 0) = 1 := by
      show 0 ^^^ fm p 1 (fp p x 0) = 1
      rw [h.fp_zero, h.one_fm h.one_lt]; rfl
    rw [e]; simp [cnt]
  | n + 1, hl => by
    rw [h.pe_pv_succ (hl n (by omega)) hx, h.fm_eq_zero (h.pe_lt _ _ _) (Nat.xor_lt_two_pow (hl n (by omega)) hx), h.pv_root hx n (fun i hi => hl i (by omega))]
    simp only [cnt]
    by_cases e : pts n = x
    · rw [if_pos e, e]; simp
    · rw [if_neg e]
      constructor
      · intro hh
        rcases hh with h1 | h1
        · omega
        · exact absurd (xor_eq_zero h1) e
      · intro hh; exact .inl (by omega)
theorem px_pd (x : Nat) : pd (px x) = po := by
  funext i
  unfold pd px po
  by_cases h0 : i = 0
  · simp [h0]
  · by_cases h2 : i % 2 = 0
    · simp [h0, h2]
    · simp [h0, h2]
theorem Fld.pe_pd_pv (h : Fld p d) {pts : Nat → Nat} {n x : Nat} (hl : pts n < 2 ^ d) (hx : x < 2 ^ d) :
    pe p x (n + 1) (pd (pv p pts (n + 1))) = fm p (pe p x n (pd (pv p pts n))) (pts n ^^^ x) ^^^ pe p x (n + 1) (pv p pts n) := by
  have e : pd (pv p pts (n + 1)) = pa (pm p (pd (pv p pts n)) (px (pts n))) (pv p pts n) := by
    show pd (pm p (pv p pts n) (px (pts n))) = _
    rw [h.leibniz (h.pv_dg pts n), px_pd, h.pm_po (h.el_pv pts n)]
  have d1 : Dg (pd (pv p pts n)) n := pd_dg (h.pv_dg pts n)
  rw [e, h.pe_pa]
  congr 1
  have e2 := h.pe_pm x d1 (px_dg (pts n))
  rw [h.pe_px hl hx] at e2
  rw [← e2]
  exact h.pe_any x ((h.dg_pm d1 (px_dg (pts n))).mono (by omega)) ((h.dg_pm d1 (px_dg (pts n))).mono (by omega))
theorem Fld.pv_double (h : Fld p d) {pts : Nat → Nat} {y : Nat} (hy : y < 2 ^ d) : ∀ n, (∀ i, i < n → pts i < 2 ^ d) → 0 < cnt pts y n → (pe p y n (pd (pv p pts n)) = 0 ↔ 1 < cnt pts y n)
  | 0, _, hc => by simp [cnt] at hc
  | n + 1, hl, hc => by
    rw [h.pe_pd_pv (hl n (by omega)) hy]
    have hr := h.pv_root hy n (fun i hi => hl i (by omega))
    by_cases e : pts n = y
    · rw [e, Nat.xor_self, h.fm_zero, Nat.zero_xor, hr]
      simp [cnt, e]
    · have hc' : 0 < cnt pts y n := by simpa [cnt, e] using hc
      rw [hr.2 hc', Nat.xor_zero, h.fm_eq_zero (h.pe_lt _ _ _) (Nat.xor_lt_two_pow (hl n (by omega)) hy), h.pv_double hy n (fun i hi => hl i (by omega)) hc']
      simp only [cnt, if_neg e, Nat.add_zero]
      constructor
      · intro hh
        rcases hh with h1 | h1
        · exact h1
        · exact absurd (xor_eq_zero h1) e
      · intro hh; exact .inl hh

/-- what is left of the product without one of the points. -/
structure Oth (p d : Nat) (pts : Nat → Nat) (n i : Nat) (o : Nat → Nat) : Prop where
  el : El d o
  dg : Dg o n
  eq : pv p pts n = pm p o (px (pts i))
theorem Fld.oth_ex (h : Fld p d) {pts : Nat → Nat} {n i : Nat} (hl : ∀ i, i < n → pts i < 2 ^ d) (hi : i < n) : ∃ o, Oth p d pts n i o := by
  obtain ⟨q, eq, dq, he⟩ := h.div_px (hl i hi) (h.el_pv pts n) (h.pv_dg pts n)
  have hz : pe p (pts i) (n + 1) (pv p pts n) = 0 := (h.pv_root (hl i hi) n hl).2 (by
    have : ∀ n, i < n → 0 < cnt pts (pts i) n := by
      intro n
      induction n with
      | zero => intro hh; omega
      | succ n ih =>
        intro hh
        simp only [cnt]
        by_cases e : i = n
        · rw [if_pos (by rw [e])]; omega
        · have := ih (by omega); omega
    exact this n hi)
  rw [hz] at he
  have e0 : mo 0 0 = pz := funext fun i => by unfold mo pz; split <;> rfl
  rw [e0, pa_pz] at he
  exact ⟨q, eq, dq.mono (by omega), he⟩
theorem Fld.oth_at (h : Fld p d) {pts o : Nat → Nat} {n i j : Nat} (ho : Oth p d pts n i o) (hl : ∀ i, i < n → pts i < 2 ^ d) (hinj : ∀ i j, i < n → j < n → pts i = pts j → i = j) (hi : i < n) (hj : j < n) :
    pe p (pts j) n o = 0 ↔ j ≠ i := by
  have zero : ∀ k, k < n → k ≠ i → pe p (pts k) n o = 0 := by
    intro k hk hne
    have hz : pe p (pts k) (n + 1) (pv p pts n) = 0 := by
      obtain ⟨q, hq⟩ := h.oth_ex hl hk
      have e := h.pe_pm (pts k) hq.dg (px_dg (pts k))
      rw [h.pe_px (hl k hk) (hl k hk), Nat.xor_self, h.fm_zero, ← hq.eq] at e
      rw [← e]
      exact h.pe_any _ (h.pv_dg pts n) ((h.pv_dg pts n).mono (by omega))
    have e := h.pe_pm (pts k) ho.dg (px_dg (pts i))
    rw [h.pe_px (hl i hi) (hl k hk), ← ho.eq, h.pe_cut _ (h.pv_dg pts n) (by omega), hz] at e
    rcases (h.fm_eq_zero (h.pe_lt _ _ _) (Nat.xor_lt_two_pow (hl i hi) (hl k hk))).1 e.symm with h1 | h1
    · exact h1
    · exact absurd (hinj k i hk hi (xor_eq_zero h1).symm) hne
  constructor
  · intro hz e
    subst e
    have : o = pz := h.roots_pz (pts := pts) ho.el ho.dg hl hinj (fun k hk => by
      by_cases e : k = j
      · rw [e]; exact hz
      · exact zero k hk e)
    have hne := (h.pv_tp pts n).ne
    rw [ho.eq, this, h.pz_pm] at hne
    exact hne rfl
  · exact zero j hj
/-- Lagrange's sum. -/
def lag (p : Nat) (c : Nat → Nat) (o : Nat → Nat → Nat) : Nat → Nat → Nat
  | 0 => pz
  | n + 1 => pa (lag p c o n) (pc p (c n) (o n))
theorem Fld.el_lag (h : Fld p d) (c : Nat → Nat) (o : Nat → Nat → Nat) : ∀ n, El d (lag p c o n)
  | 0 => El.pz d
  | n + 1 => (h.el_lag c o n).pa (h.el_pc _ _)
theorem Fld.lag_dg (h : Fld p d) {c : Nat → Nat} {o : Nat → Nat → Nat} {m : Nat} : ∀ n, (∀ i, i < n → Dg (o i) m) → Dg (lag p c o n) m
  | 0, _ => Dg.pz _
  | n + 1, ho => (h.lag_dg n (fun i hi => ho i (by omega))).pa (fun i hi => by unfold pc; rw [ho n (by omega) i hi, h.fm_zero])
theorem Fld.pe_lag (h : Fld p d) (x m : Nat) (c : Nat → Nat) (o : Nat → Nat → Nat) : ∀ n, pe p x m (lag p c o n) = sx n (fun i => fm p (c i) (pe p x m (o i)))
  | 0 => h.pe_pz _ _
  | n + 1 => by
    show pe p x m (pa (lag p c o n) (pc p (c n) (o n))) = _
    rw [h.pe_pa, h.pe_pc, h.pe_lag x m c o n]; rfl
theorem Fld.lagrange (h : Fld p d) {pts vals : Nat → Nat} {o : Nat → Nat → Nat} {n : Nat} (hl : ∀ i, i < n → pts i < 2 ^ d) (hv : ∀ i, i < n → vals i < 2 ^ d) (hinj : ∀ i j, i < n → j < n → pts i = pts j → i = j)
    (ho : ∀ i, i < n → Oth p d pts n i (o i)) {c : Nat → Nat} (hc : ∀ i, i < n → c i = fm p (vals i) (fi p (pe p (pts i) n (o i)))) {j : Nat} (hj : j < n) : pe p (pts j) n (lag p c o n) = vals j := by
  rw [h.pe_lag, sx_one hj (fun i hi hne => by rw [(h.oth_at (ho i hi) hl hinj hi hj).2 (fun e => hne e.symm), h.fm_zero]), hc j hj]
  have hne : pe p (pts j) n (o j) ≠ 0 := fun e => (h.oth_at (ho j hj) hl hinj hj hj).1 e rfl
  exact h.div_mul (hv j hj) (h.pe_lt _ _ _) hne

end Gf2
end Go.Proofs.YtidcdbjhkgpjcaaDoor
namespace Go.Proofs.YtidcdbjhkgpjcaaDoor
namespace Gf2
set_option linter.unusedVariables false
variable {p d : Nat}

/-! Euclid's way to the greatest common divisor. -/
structure Gq (p d : Nat) (f g D : Nat → Nat) : Prop where
  pol : Pol d D
  dl : Dv p d D f
  dr : Dv p d D g
  all : ∀ c, Pol d c → Dv p d c f → Dv p d c g → Dv p d c D
theorem Fld.gq_end (h : Fld p d) {a : Nat → Nat} (ha : Pol d a) : Gq p d a pz a := ⟨ha, h.dv_self ha.1, h.dv_pz a, fun _ _ h1 _ => h1⟩
theorem Fld.gq_step (h : Fld p d) {a b q m D : Nat → Nat} (hq : Pol d q) (he : a = pa (pm p q b) m) (k : Gq p d b m D) : Gq p d a b D := by
  refine ⟨k.pol, ?_, k.dl, fun c hc h1 h2 => k.all c hc h2 ?_⟩
  · rw [he]; exact h.dv_pa (h.dv_pm hq k.dl) k.dr
  · rw [pa_move (he.trans (pa_comm _ _))]
    exact h.dv_pa h1 (h.dv_pm hq h2)
theorem Fld.pc_mo (h : Fld p d) (c : Nat) (f : Nat → Nat) : pc p c f = pm p (mo c 0) f := by
  rw [h.mo_pm]
  funext i
  unfold ps
  rw [if_neg (by omega)]; rfl
theorem Fld.gd_scale (h : Fld p d) {f g D : Nat → Nat} {n : Nat} (k : Gq p d f g D) (tD : Tp D n) : Gd p d f g (pc p (fi p (D n)) D) := by
  have hc := h.fi_lt (k.pol.1 n) tD.2
  have hD : Pol d (pc p (fi p (D n)) D) := by rw [h.pc_mo]; exact h.pol_pm (pol_mo hc 0) k.pol
  have back : Dv p d (pc p (fi p (D n)) D) D := ⟨mo (D n) 0, pol_mo (k.pol.1 n) 0, by
    rw [h.mo_pm]
    funext i
    unfold ps pc
    rw [if_neg (by omega), ← h.fm_assoc, h.fi_mul (k.pol.1 n) tD.2, h.one_fm (k.pol.1 _)]; rfl⟩
  refine ⟨hD, h.dv_trans back k.dl, h.dv_trans back k.dr, fun c hc2 h1 h2 => ?_, .inr ⟨n, fun i hi => by unfold pc; rw [tD.1 i hi, h.fm_zero], ?_⟩⟩
  · rw [h.pc_mo]; exact h.dv_pm (pol_mo hc 0) (k.all c hc2 h1 h2)
  · show fm p (fi p (D n)) (D n) = 1
    rw [fm_comm]; exact h.fi_mul (k.pol.1 n) tD.2
theorem Fld.gd_zero (h : Fld p d) {f g : Nat → Nat} (k : Gq p d f g pz) : Gd p d f g pz := ⟨k.pol, k.dl, k.dr, k.all, .inl rfl⟩

/-! lists of coefficients. -/
def co (l : List Nat) : Nat → Nat := fun i => l.getD i 0
theorem getD_out {l : List Nat} {i : Nat} (h : l.length ≤ i) : l.getD i 0 = 0 := by rw [List.getD_eq_getElem?_getD, List.getElem?_eq_none h]; rfl
theorem getD_in {l : List Nat} {i : Nat} (h : i < l.length) : l.getD i 0 = l[i] := by rw [List.getD_eq_getElem?_getD, List.getElem?_eq_getElem h]; rfl
theorem co_dg (l : List Nat) : Dg (co l) l.length := fun i hi => by unfold co; rw [getD_out hi]
theorem co_el {l : List Nat} (h : ∀ x ∈ l, x < 2 ^ d) : El d (co l) := fun i => by
  unfold co
  by_cases hi : i < l.length
  · rw [getD_in hi]; exact h _ (List.getElem_mem hi)
  · rw [getD_out (by omega)]; exact Nat.two_pow_pos d
theorem co_get {l : List Nat} {i : Nat} (h : i < l.length) : l[i]? = some (co l i) := by
  unfold co; rw [List.getElem?_eq_getElem h, getD_in h]
/-- no zero at the end. -/
def Neat (l : List Nat) : Prop := l.length = 0 ∨ co l (l.length - 1) ≠ 0
theorem neat_len {l m : List Nat} (h1 : Neat l) (h2 : Neat m) (e : co l = co m) : l.length = m.length := by
  rcases Nat.lt_trichotomy l.length m.length with h | h | h
  · rcases h2 with h2 | h2
    · omega
    · exact absurd (by rw [← e]; exact co_dg l _ (by omega)) h2
  · exact h
  · rcases h1 with h1 | h1
    · omega
    · exact absurd (by rw [e]; exact co_dg m _ (by omega)) h1
theorem neat_only {l m : List Nat} (h1 : Neat l) (h2 : Neat m) (e : co l = co m) : l = m := by
  have hl := neat_len h1 h2 e
  apply List.ext_getElem?
  intro i
  by_cases hi : i < l.length
  · rw [co_get hi, co_get (by omega), e]
  · rw [List.getElem?_eq_none (by omega), List.getElem?_eq_none (by omega)]
theorem co_nil : co [] = pz := funext fun i => by unfold co pz; simp
theorem neat_nil : Neat [] := .inl rfl
/-- how many are left without the zeros at the end. -/
def nzl : List Nat → Nat
  | [] => 0
  | a :: l => if nzl l = 0 then (if a = 0 then 0 else 1) else nzl l + 1
theorem nzl_le : ∀ l : List Nat, nzl l ≤ l.length
  | [] => Nat.le_refl _
  | a :: l => by
    have := nzl_le l
    unfold nzl
    split
    · split <;> simp
    · simp; omega
theorem nzl_zero : ∀ {l : List Nat} {i : Nat}, nzl l ≤ i → co l i = 0
  | [], i, _ => by unfold co; simp
  | a :: l, i, h => by
    unfold nzl at h
    cases i with
    | zero =>
      split at h
      · split at h
        · next e => unfold co; simpa using e
        · omega
      · omega
    | succ i =>
      show co l i = 0
      refine nzl_zero ?_
      split at h
      · omega
      · omega
theorem nzl_top : ∀ {l : List Nat}, nzl l ≠ 0 → co l (nzl l - 1) ≠ 0
  | [], h => absurd rfl h
  | a :: l, h => by
    unfold nzl at h ⊢
    by_cases e : nzl l = 0
    · rw [if_pos e] at h ⊢
      by_cases e2 : a = 0
      · rw [if_pos e2] at h; exact absurd rfl h
      · rw [if_neg e2]
        show co (a :: l) 0 ≠ 0
        unfold co; simpa using e2
    · rw [if_neg e]
      obtain ⟨k, hk⟩ : ∃ k, nzl l = k + 1 := ⟨nzl l - 1, by omega⟩
      have := nzl_top (l := l) e
      rw [hk] at this ⊢
      exact this
def tri (l : List Nat) : List Nat := l.take (nzl l)
theorem tri_len (l : List Nat) : (tri l).length = nzl l := by unfold tri; rw [List.length_take, Nat.min_eq_left (nzl_le l)]
theorem tri_co (l : List Nat) : co (tri l) = co l := by
  funext i
  by_cases h : i < nzl l
  · unfold co tri
    rw [List.getD_eq_getElem?_getD, List.getD_eq_getElem?_getD, List.getElem?_take, if_pos h]
  · rw [nzl_zero (l := l) (by omega)]
    exact co_dg (tri l) i (by rw [tri_len]; omega)
theorem tri_neat (l : List Nat) : Neat (tri l) := by
  unfold Neat
  rw [tri_len, tri_co]
  by_cases h : nzl l = 0
  · exact .inl h
  · exact .inr (nzl_top h)
/-- the length that is left, by its two marks. -/
theorem nzl_only {l : List Nat} {n : Nat} (h0 : ∀ i, n ≤ i → co l i = 0) (h1 : n = 0 ∨ co l (n - 1) ≠ 0) : nzl l = n := by
  rcases Nat.lt_trichotomy (nzl l) n with h | h | h
  · rcases h1 with h1 | h1
    · omega
    · exact absurd (nzl_zero (by omega)) h1
  · exact h
  · exact absurd (h0 _ (by omega)) (nzl_top (by omega))
end Gf2
end Go.Proofs.YtidcdbjhkgpjcaaDoor
