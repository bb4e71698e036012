import Derived.Test.YtlblkckglelbdaaGreatMwae
namespace Go.Proofs.YtlblkckglelbdaaGreat
namespace Gf2
set_option linter.unusedVariables false
variable {p d : Nat}

-- Newton's way through points
/-- a product with X + x, place by place. -/
theorem Fld.pm_px8 (h : Fld p d) {f : Nat → Nat} (ef : El d f) {x : Nat} (n : Nat) : pm p f (px x) n = (if 1 ≤ n then f (n - 1) else 0) ^^^ fm p (f n) x := by
  have e : px x = pa (mo x 0) (mo 1 1) := by
    funext i
    unfold px pa mo
    by_cases h0 : i = 0
    · simp [h0]
    · by_cases h1 : i = 1
      · simp [h1]
      · simp [h0, h1]
  rw [e, h.pm_pa, h.pm_comm f (mo x 0), h.pm_comm f (mo 1 1), h.mo_pm, h.mo_pm]
  unfold pa ps pc
  rw [if_neg (by omega), Nat.sub_zero, fm_comm p x, Nat.xor_comm]
  congr 1
  by_cases h1 : 1 ≤ n
  · rw [if_neg (by omega), if_pos h1, h.one_fm (ef _)]
  · rw [if_pos (by omega), if_neg h1]
/-- the value of a product with X + x. -/
theorem Fld.pe_pm_px (h : Fld p d) {f : Nat → Nat} {n x y : Nat} (hf : Dg f n) (hx : x < 2 ^ d) (hy : y < 2 ^ d) : pe p y (n + 1) (pm p f (px x)) = fm p (pe p y n f) (x ^^^ y) := by
  have e := h.pe_pm y hf (px_dg x)
  rw [h.pe_px hx hy] at e
  rw [← e]
  exact h.pe_any y ((h.dg_pm hf (px_dg x)).mono (by omega)) ((h.dg_pm hf (px_dg x)).mono (by omega))

/-- divided differences: of g + 1 values up to the i-th. -/
def ddf (p : Nat) (pts vals : Nat → Nat) : Nat → Nat → Nat
  | 0, i => vals i
  | g + 1, i => fm p (ddf p pts vals g i ^^^ ddf p pts vals g (i - 1)) (fi p (pts i ^^^ pts (i - (g + 1))))
/-- the polynomial through the g + 1 points up to the i-th. -/
def nwP (p : Nat) (pts vals : Nat → Nat) : Nat → Nat → Nat → Nat
  | 0, i => mo (vals i) 0
  | g + 1, i => pc p (fi p (pts i ^^^ pts (i - (g + 1)))) (pa (pm p (nwP p pts vals g i) (px (pts (i - (g + 1))))) (pm p (nwP p pts vals g (i - 1)) (px (pts i))))
structure Nw (p d : Nat) (pts vals : Nat → Nat) (g i : Nat) : Prop where
  el : El d (nwP p pts vals g i)
  dg : Dg (nwP p pts vals g i) (g + 1)
  top : nwP p pts vals g i g = ddf p pts vals g i
  at_ : ∀ t, i - g ≤ t → t ≤ i → pe p (pts t) (g + 1) (nwP p pts vals g i) = vals t
theorem xor_nep {a b : Nat} (h : a ≠ b) : a ^^^ b ≠ 0 := fun e => h (by
  have := congrArg (· ^^^ b) e
  simpa [Nat.xor_assoc] using this)
theorem Fld.nw (h : Fld p d) {pts vals : Nat → Nat} {n : Nat} (hl : ∀ i, i < n → pts i < 2 ^ d) (hv : ∀ i, i < n → vals i < 2 ^ d) (hinj : ∀ i j, i < n → j < n → pts i = pts j → i = j) :
    ∀ g i, g ≤ i → i < n → Nw p d pts vals g i := by
  intro g
  induction g with
  | zero =>
    intro i _ hi
    refine ⟨el_mo (hv i hi) 0, mo_dg _ _, by show mo (vals i) 0 0 = vals i; unfold mo; rw [if_pos rfl], fun t h1 h2 => ?_⟩
    obtain rfl : t = i := by omega
    show pe p (pts t) 1 (mo (vals t) 0) = vals t
    rw [h.pe_mo (by omega), h.fp_zero, h.fm_one (hv t hi)]
  | succ g ih =>
    intro i hg hi
    have k1 := ih i (by omega) hi
    have k2 := ih (i - 1) (by omega) (by omega)
    have ha := hl (i - (g + 1)) (by omega)
    have hb := hl i hi
    have hne : pts i ^^^ pts (i - (g + 1)) ≠ 0 := xor_nep fun e => absurd (hinj _ _ hi (by omega) e) (by omega)
    have hlt : pts i ^^^ pts (i - (g + 1)) < 2 ^ d := Nat.xor_lt_two_pow hb ha
    have d1 : Dg (pm p (nwP p pts vals g i) (px (pts (i - (g + 1))))) (g + 2) := (h.dg_pm k1.dg (px_dg _)).mono (by omega)
    have d2 : Dg (pm p (nwP p pts vals g (i - 1)) (px (pts i))) (g + 2) := (h.dg_pm k2.dg (px_dg _)).mono (by omega)
    refine ⟨h.el_pc _ _, fun t ht => ?_, ?_, fun t h1 h2 => ?_⟩
    · show fm p _ (pa _ _ t) = 0
      rw [(d1.pa d2) t ht, h.fm_zero]
    · show fm p _ (pm p _ _ (g + 1) ^^^ pm p _ _ (g + 1)) = fm p _ _
      rw [h.pm_px8 k1.el, h.pm_px8 k2.el, if_pos (by omega), if_pos (by omega), Nat.add_sub_cancel, k1.top, k2.top, k1.dg (g + 1) (by omega), k2.dg (g + 1) (by omega), h.zero_fm, h.zero_fm, Nat.xor_zero, Nat.xor_zero, fm_comm]
    · show pe p (pts t) (g + 1 + 1) (pc p _ (pa _ _)) = vals t
      have ht : t < n := by omega
      have hx := hl t ht
      rw [h.pe_pc, h.pe_pa, h.pe_pm_px k1.dg ha hx, h.pe_pm_px k2.dg hb hx]
      by_cases e1 : t = i
      · subst e1
        rw [k1.at_ t (by omega) (Nat.le_refl _), Nat.xor_self, h.fm_zero, Nat.xor_zero, Nat.xor_comm (pts (t - (g + 1))), fm_comm, h.mul_div (hv t ht) hlt hne]
      · by_cases e2 : t = i - (g + 1)
        · subst e2
          rw [k2.at_ _ (by omega) (by omega), Nat.xor_self, h.fm_zero, Nat.zero_xor, fm_comm, h.mul_div (hv _ ht) hlt hne]
        · rw [k1.at_ t (by omega) h2, k2.at_ t (by omega) (by omega), ← h.fm_xor]
          have : (pts (i - (g + 1)) ^^^ pts t) ^^^ (pts i ^^^ pts t) = pts i ^^^ pts (i - (g + 1)) := by
            apply Nat.eq_of_testBit_eq; intro b; simp only [Nat.testBit_xor]
            cases (pts (i - (g + 1))).testBit b <;> cases (pts t).testBit b <;> cases (pts i).testBit b <;> rfl
          rw [this, fm_comm, h.mul_div (hv t ht) hlt hne]
/-- Newton's sum. -/
def nws (p : Nat) (pts vals : Nat → Nat) : Nat → Nat → Nat
  | 0 => pz
  | n + 1 => pa (nws p pts vals n) (pc p (ddf p pts vals n n) (pv p pts n))
theorem Fld.nws_eq (h : Fld p d) {pts vals : Nat → Nat} {n : Nat} (hl : ∀ i, i < n → pts i < 2 ^ d) (hv : ∀ i, i < n → vals i < 2 ^ d) (hinj : ∀ i j, i < n → j < n → pts i = pts j → i = j) :
    ∀ i, i < n → nws p pts vals (i + 1) = nwP p pts vals i i := by
  intro i
  induction i with
  | zero =>
    intro hi
    show pa pz (pc p (vals 0) po) = mo (vals 0) 0
    rw [pz_pa]
    funext t
    unfold pc po mo
    by_cases h0 : t = 0
    · rw [if_pos h0, if_pos h0, h.fm_one (hv 0 hi)]
    · rw [if_neg h0, if_neg h0, h.fm_zero]
  | succ i ih =>
    intro hi
    have k1 := h.nw hl hv hinj i i (Nat.le_refl _) (by omega)
    have k2 := h.nw hl hv hinj (i + 1) (i + 1) (Nat.le_refl _) hi
    show pa (nws p pts vals (i + 1)) (pc p (ddf p pts vals (i + 1) (i + 1)) (pv p pts (i + 1))) = nwP p pts vals (i + 1) (i + 1)
    rw [ih (by omega)]
    apply pa_eq_pz
    have dpv : Dg (pc p (ddf p pts vals (i + 1) (i + 1)) (pv p pts (i + 1))) (i + 2) := fun t ht => by
      show fm p _ _ = 0
      rw [h.pv_dg pts (i + 1) t ht, h.fm_zero]
    have dl : ddf p pts vals (i + 1) (i + 1) < 2 ^ d := by rw [← k2.top]; exact k2.el _
    have dgD : Dg (pa (pa (nwP p pts vals i i) (pc p (ddf p pts vals (i + 1) (i + 1)) (pv p pts (i + 1)))) (nwP p pts vals (i + 1) (i + 1))) (i + 1) := by
      intro t ht
      by_cases e : t = i + 1
      · subst e
        show (nwP p pts vals i i (i + 1) ^^^ fm p _ (pv p pts (i + 1) (i + 1))) ^^^ nwP p pts vals (i + 1) (i + 1) (i + 1) = 0
        rw [k1.dg (i + 1) (Nat.le_refl _), Nat.zero_xor, h.pv_top, h.fm_one dl, k2.top, Nat.xor_self]
      · exact (((k1.dg.mono (by omega)).pa dpv).pa k2.dg) t (by omega)
    refine h.roots_pz (n := i + 1) (pts := pts) ((k1.el.pa (h.el_pc _ _)).pa k2.el) dgD (fun t ht => hl t (by omega)) (fun a b ha hb => hinj a b (by omega) (by omega)) (fun t ht => ?_)
    have hx := hl t (by omega)
    rw [← h.pe_cut (pts t) dgD (Nat.le_succ (i + 1)), h.pe_pa, h.pe_pa, h.pe_pc, h.pe_cut (pts t) k1.dg (Nat.le_succ _), k1.at_ t (by omega) (by omega), k2.at_ t (by omega) (by omega)]
    have hz : pe p (pts t) (i + 2) (pv p pts (i + 1)) = 0 := (h.pv_root hx (i + 1) (fun a ha => hl a (by omega))).2 (by
      have : ∀ m, t < m → 0 < cnt pts (pts t) m := by
        intro m
        induction m with
        | zero => intro h; omega
        | succ m ihm =>
          intro hm
          show 0 < cnt pts (pts t) m + _
          by_cases e : t = m
          · subst e; rw [if_pos rfl]; omega
          · have := ihm (by omega); omega
      exact this _ ht)
    rw [hz, h.fm_zero, Nat.xor_zero, Nat.xor_self]
/-- the same sum from the inside out, k of its n steps done. -/
def nwf (p : Nat) (pts dd : Nat → Nat) (n : Nat) : Nat → Nat → Nat
  | 0 => pz
  | k + 1 => pa (pm p (nwf p pts dd n k) (px (pts (n - 1 - k)))) (mo (dd (n - 1 - k)) 0)
theorem Fld.nwf_dg (h : Fld p d) (pts dd : Nat → Nat) (n : Nat) : ∀ k, Dg (nwf p pts dd n k) k
  | 0 => Dg.pz 0
  | k + 1 => by
    cases k with
    | zero =>
      show Dg (pa (pm p pz _) (mo _ 0)) 1
      rw [h.pz_pm, pz_pa]
      exact mo_dg _ _
    | succ k => exact ((h.dg_pm (h.nwf_dg pts dd n (k + 1)) (px_dg _)).mono (by omega)).pa ((mo_dg _ _).mono (by omega))
theorem Fld.nwf_el (h : Fld p d) {pts dd : Nat → Nat} {n : Nat} (hd : ∀ i, i < n → dd i < 2 ^ d) : ∀ k, k ≤ n → El d (nwf p pts dd n k)
  | 0, _ => El.pz d
  | k + 1, hk => (h.el_pm _ _).pa (el_mo (hd _ (by omega)) 0)
theorem Fld.nwf_sum (h : Fld p d) {pts vals : Nat → Nat} {n : Nat} (hd : ∀ i, i < n → ddf p pts vals i i < 2 ^ d) : ∀ k, k ≤ n →
    pa (nws p pts vals (n - k)) (pm p (pv p pts (n - k)) (nwf p pts (fun i => ddf p pts vals i i) n k)) = nws p pts vals n
  | 0, _ => by
    show pa (nws p pts vals n) (pm p _ pz) = _
    rw [h.pm_pz, pa_pz]
  | k + 1, hk => by
    have ih := h.nwf_sum hd k (by omega)
    obtain ⟨i, hi⟩ : ∃ i, n - k = i + 1 := ⟨n - k - 1, by omega⟩
    have e1 : n - (k + 1) = i := by omega
    have e2 : n - 1 - k = i := by omega
    rw [hi] at ih
    rw [← ih, e1]
    show pa _ (pm p (pv p pts i) (pa (pm p (nwf p pts _ n k) (px (pts (n - 1 - k)))) (mo (ddf p pts vals (n - 1 - k) (n - 1 - k)) 0))) = pa (pa (nws p pts vals i) (pc p (ddf p pts vals i i) (pv p pts i))) (pm p (pm p (pv p pts i) (px (pts i))) _)
    rw [e2, h.pm_pa, h.pm_comm (pv p pts i) (mo _ 0), ← h.pc_mo, h.pm_assoc (pv p pts i) (px (pts i)) _ (h.pv_dg pts i), h.pm_comm (px (pts i)), pa_assoc]
    congr 1
    rw [pa_comm]
/-- what Newton's way makes goes through the points. -/
theorem Fld.newton (h : Fld p d) {pts vals : Nat → Nat} {n : Nat} (hl : ∀ i, i < n → pts i < 2 ^ d) (hv : ∀ i, i < n → vals i < 2 ^ d) (hinj : ∀ i j, i < n → j < n → pts i = pts j → i = j) :
    El d (nwf p pts (fun i => ddf p pts vals i i) n n) ∧ Dg (nwf p pts (fun i => ddf p pts vals i i) n n) n ∧ ∀ t, t < n → pe p (pts t) n (nwf p pts (fun i => ddf p pts vals i i) n n) = vals t := by
  have hd : ∀ i, i < n → ddf p pts vals i i < 2 ^ d := fun i hi => by
    have k := h.nw hl hv hinj i i (Nat.le_refl _) hi
    rw [← k.top]; exact k.el _
  have el := h.nwf_el (pts := pts) (dd := fun i => ddf p pts vals i i) hd n (Nat.le_refl _)
  refine ⟨el, h.nwf_dg _ _ _ _, fun t ht => ?_⟩
  have e := h.nwf_sum hd n (Nat.le_refl _)
  rw [Nat.sub_self] at e
  have e0 : nwf p pts (fun i => ddf p pts vals i i) n n = nws p pts vals n := by
    rw [← e]
    show _ = pa pz (pm p po _)
    rw [pz_pa, h.po_pm el]
  rw [e0]
  obtain ⟨m, rfl⟩ : ∃ m, n = m + 1 := ⟨n - 1, by omega⟩
  rw [h.nws_eq hl hv hinj m (by omega)]
  exact (h.nw hl hv hinj m m (Nat.le_refl _) (by omega)).at_ t (by omega) (by omega)
end Gf2
end Go.Proofs.YtlblkckglelbdaaGreat
namespace Go.Proofs.YtlblkckglelbdaaGreat
namespace Gf2
set_option linter.unusedVariables false
variable {p d : Nat}

-- layer 19: mending by Euclid's way
/-- two of Euclid's remainders that follow one another, with their factors. -/
structure Euc (p d n : Nat) (V R a ua va b ub vb : Nat → Nat) (A : Nat) : Prop where
  pa_ : Pol d a
  pua : Pol d ua
  pva : Pol d va
  pb_ : Pol d b
  pub : Pol d ub
  pvb : Pol d vb
  ta : Tp a A
  an : A ≤ n
  db : Dg b A
  dva : Dg va (n - A + 1)
  dvb : Dg vb (n - A + 1)
  ea : a = pa (pm p ua V) (pm p va R)
  eb : b = pa (pm p ub V) (pm p vb R)
  unit : pa (pm p ua vb) (pm p ub va) = po
theorem Fld.euc_start (h : Fld p d) {n : Nat} {V R : Nat → Nat} (hV : Pol d V) (tV : Tp V n) (hR : El d R) (dR : Dg R n) : Euc p d n V R V po pz R pz po n :=
  ⟨hV, h.pol_po, Pol.pz d, ⟨hR, n, dR⟩, Pol.pz d, h.pol_po, tV, Nat.le_refl _, dR, (Dg.pz _), by rw [Nat.sub_self]; exact po_tp.1,
    by rw [h.po_pm hV.1, h.pz_pm, pa_pz], by rw [h.pz_pm, h.po_pm hR, pz_pa], by rw [h.po_pm h.el_po, h.pz_pm, pa_pz]⟩
theorem pm_assoc' (h : Fld p d) {f g k : Nat → Nat} (hf : Pol d f) : pm p (pm p f g) k = pm p f (pm p g k) := by
  obtain ⟨-, n, hn⟩ := hf
  exact h.pm_assoc f g k hn
theorem Fld.euc_step (h : Fld p d) {n A B : Nat} {V R a ua va b ub vb q m : Nat → Nat} (k : Euc p d n V R a ua va b ub vb A) (tb : Tp b B) (hq : Pol d q) (dq : Dg q (A - B + 1)) (hm : Pol d m) (dm : Dg m B) (he : a = pa (pm p q b) m) :
    Euc p d n V R b ub vb m (pa ua (pm p q ub)) (pa va (pm p q vb)) B := by
  have hBA : B < A := tb.below k.db
  have em : m = pa a (pm p q b) := pa_move (by rw [pa_comm]; exact he)
  refine ⟨k.pb_, k.pub, k.pvb, hm, k.pua.pa (h.pol_pm hq k.pub), k.pva.pa (h.pol_pm hq k.pvb), tb, by have := k.an; omega, dm, k.dvb.mono (by have := k.an; omega), ?_, k.eb, ?_, ?_⟩
  · exact (k.dva.mono (by have := k.an; omega)).pa ((h.dg_pm dq k.dvb).mono (by have := k.an; omega))
  · rw [em, h.pa_pm, h.pa_pm, pm_assoc' h hq, pm_assoc' h hq]
    have e1 : pm p q b = pa (pm p q (pm p ub V)) (pm p q (pm p vb R)) := by rw [← h.pm_pa, ← k.eb]
    rw [e1]
    conv => lhs; rw [k.ea]
    funext i
    show (_ ^^^ _) ^^^ (_ ^^^ _) = (_ ^^^ _) ^^^ (_ ^^^ _)
    rw [Nat.xor_assoc, Nat.xor_assoc]
    congr 1
    rw [← Nat.xor_assoc, ← Nat.xor_assoc, Nat.xor_comm (pm p va R i)]
  · have u := k.unit
    rw [h.pm_pa, h.pa_pm, h.pm_comm ub (pm p q vb), pm_assoc' h hq, h.pm_comm vb ub, pm_assoc' h hq]
    rw [h.pm_comm ub va] at u
    rw [h.pm_comm ub va, pa_comm (pm p ua vb), ← pa_assoc]
    have : pa (pa (pm p va ub) (pm p q (pm p ub vb))) (pm p q (pm p ub vb)) = pm p va ub := by rw [pa_assoc, pa_self, pa_pz]
    rw [this, pa_comm]
    exact u
/-- the second factor is not 0. -/
theorem Fld.euc_ne (h : Fld p d) {n A : Nat} {V R a ua va b ub vb : Nat → Nat} (k : Euc p d n V R a ua va b ub vb A) (hV : Pol d V) (tV : Tp V n) : vb ≠ pz := by
  intro e
  have e1 := k.eb
  rw [e, h.pz_pm, pa_pz] at e1
  have e2 : ub = pz := by
    by_cases hu : ub = pz
    · exact hu
    · obtain ⟨N, hN⟩ := k.pub.2
      obtain ⟨m, -, tm⟩ := tp_of hN hu
      have t := h.tp_pm k.pub.1 hV.1 tm tV
      rw [← e1] at t
      have := t.below (k.db.mono k.an)
      omega
  have u := k.unit
  rw [e, e2, h.pm_pz, h.pz_pm, pa_pz] at u
  have := congrFun u 0
  simp [pz, po] at this

/-- so many places below n at which P holds. -/
def cnb (P : Nat → Bool) : Nat → Nat
  | 0 => 0
  | n + 1 => cnb P n + (if P n then 1 else 0)
/-- the product of the X + pts i at the places that P names. -/
def pvw (p : Nat) (pts : Nat → Nat) (P : Nat → Bool) : Nat → Nat → Nat
  | 0 => po
  | n + 1 => if P n then pm p (pvw p pts P n) (px (pts n)) else pvw p pts P n
theorem Fld.pvw_pol (h : Fld p d) (pts : Nat → Nat) (P : Nat → Bool) : ∀ n, El d (pvw p pts P n) ∧ Dg (pvw p pts P n) (cnb P n + 1) ∧ pvw p pts P n (cnb P n) = 1
  | 0 => ⟨h.el_po, po_tp.1, rfl⟩
  | n + 1 => by
    obtain ⟨h1, h2, h3⟩ := h.pvw_pol pts P n
    unfold pvw cnb
    by_cases e : P n = true
    · rw [if_pos e, if_pos e]
      refine ⟨h.el_pm _ _, (h.dg_pm h2 (px_dg _)).mono (by omega), ?_⟩
      rw [h.top_pm h2 (px_dg _), h3]
      exact h.fm_one h.one_lt
    · rw [if_neg e, if_neg e]
      exact ⟨h1, h2, h3⟩
theorem Fld.pvw_root (h : Fld p d) {pts : Nat → Nat} {P : Nat → Bool} : ∀ n, (∀ i, i < n → pts i < 2 ^ d) → ∀ i, i < n → P i = true → pe p (pts i) (cnb P n + 1) (pvw p pts P n) = 0
  | 0, _ => fun i hi => absurd hi (Nat.not_lt_zero _)
  | n + 1, hl => fun i hi hP => by
    have k2 := (h.pvw_pol pts P n).2.1
    unfold pvw cnb
    by_cases e : P n = true
    · rw [if_pos e, if_pos e, h.pe_pm_px k2 (hl n (by omega)) (hl i hi)]
      by_cases ei : i = n
      · subst ei; rw [Nat.xor_self, h.fm_zero]
      · rw [h.pvw_root n (fun j hj => hl j (by omega)) i (by omega) hP, h.zero_fm]
    · rw [if_neg e, if_neg e]
      have : i ≠ n := fun ei => e (ei ▸ hP)
      exact h.pvw_root n (fun j hj => hl j (by omega)) i (by omega) hP
/-- a polynomial that is 0 at the points is divided by their product. -/
theorem Fld.dv_pv (h : Fld p d) : ∀ {n : Nat} {pts f : Nat → Nat}, Pol d f → (∀ i, i < n → pts i < 2 ^ d) → (∀ i j, i < n → j < n → pts i = pts j → i = j) → (∀ i N, i < n → Dg f N → pe p (pts i) N f = 0) → ∃ q, Pol d q ∧ f = pm p q (pv p pts n) := by
  intro n
  induction n with
  | zero =>
    intro pts f hf _ _ _
    exact ⟨f, hf, by show f = pm p f po; rw [h.pm_po hf.1]⟩
  | succ n ih =>
    intro pts f hf hl hinj hr
    obtain ⟨q, hq, he⟩ := ih hf (fun i hi => hl i (by omega)) (fun i j hi hj => hinj i j (by omega) (by omega)) (fun i N hi => hr i N (by omega))
    obtain ⟨N, dN⟩ := hq.2
    obtain ⟨M, dM⟩ := hf.2
    have hx := hl n (by omega)
    have e1 : fm p (pe p (pts n) N q) (pe p (pts n) (n + 1) (pv p pts n)) = 0 := by
      rw [← h.pe_pm (pts n) dN (h.pv_dg pts n), ← he]
      have dF : Dg f (N + (n + 1)) := by rw [he]; exact (h.dg_pm dN (h.pv_dg pts n)).mono (by omega)
      exact hr n _ (by omega) dF
    have e2 : pe p (pts n) (n + 1) (pv p pts n) ≠ 0 := fun e0 => by
      have c := (h.pv_root hx n (fun i hi => hl i (by omega))).1 e0
      have : ∀ m, m ≤ n → cnt pts (pts n) m = 0 := by
        intro m
        induction m with
        | zero => intro _; rfl
        | succ m ihm =>
          intro hm
          show cnt pts (pts n) m + _ = 0
          rw [ihm (by omega), if_neg (fun e => absurd (hinj m n (by omega) (by omega) e) (by omega))]
      rw [this n (Nat.le_refl _)] at c
      exact absurd c (Nat.lt_irrefl _)
    have e3 : pe p (pts n) N q = 0 := by
      rcases (h.fm_eq_zero (h.pe_lt _ _ _) (h.pe_lt _ _ _)).1 e1 with e | e
      · exact e
      · exact absurd e e2
    obtain ⟨s, es, ds, hs⟩ := h.div_px hx hq.1 dN
    rw [e3] at hs
    have e0 : mo 0 0 = pz := funext fun i => by unfold mo pz; split <;> rfl
    rw [e0, pa_pz] at hs
    refine ⟨s, ⟨es, _, ds⟩, ?_⟩
    show f = pm p s (pm p (pv p pts n) (px (pts n)))
    rw [he, hs, pm_assoc' h ⟨es, _, ds⟩, h.pm_comm (px (pts n))]
/-- as many roots at most as its degree. -/
theorem Fld.few_roots (h : Fld p d) {pts : Nat → Nat} {n m : Nat} {f : Nat → Nat} (hf : Pol d f) (h0 : f ≠ pz) (df : Dg f (m + 1)) (hl : ∀ i, i < n → pts i < 2 ^ d) (hinj : ∀ i j, i < n → j < n → pts i = pts j → i = j) {P : Nat → Bool} (hP : ∀ i, i < n → P i = true → pe p (pts i) (m + 1) f = 0) : cnb P n ≤ m := by
  have main : ∀ n', n' ≤ n → ∃ q, Pol d q ∧ f = pm p q (pvw p pts P n') := by
    intro n'
    induction n' with
    | zero => intro _; exact ⟨f, hf, by show f = pm p f po; rw [h.pm_po hf.1]⟩
    | succ n' ih =>
      intro hn
      obtain ⟨q, hq, he⟩ := ih (by omega)
      unfold pvw
      by_cases e : P n' = true
      · rw [if_pos e]
        obtain ⟨N, dN⟩ := hq.2
        have hx := hl n' (by omega)
        obtain ⟨k1, k2, k3⟩ := h.pvw_pol pts P n'
        have e1 : fm p (pe p (pts n') N q) (pe p (pts n') (cnb P n' + 1) (pvw p pts P n')) = 0 := by
          rw [← h.pe_pm (pts n') dN k2, ← he, ← hP n' (by omega) e]
          exact h.pe_any _ (by rw [he]; exact (h.dg_pm dN k2).mono (by omega)) df
        have e2 : pe p (pts n') (cnb P n' + 1) (pvw p pts P n') ≠ 0 := by
          have : ∀ t, t ≤ n' → pe p (pts n') (cnb P t + 1) (pvw p pts P t) ≠ 0 := by
            intro t
            induction t with
            | zero =>
              intro _
              show pe p (pts n') 1 po ≠ 0
              have : po = mo 1 0 := funext fun i => rfl
              rw [this, h.pe_mo (by omega), h.fp_zero, h.fm_one h.one_lt]
              decide
            | succ t iht =>
              intro ht
              unfold pvw cnb
              by_cases et : P t = true
              · rw [if_pos et, if_pos et, h.pe_pm_px (h.pvw_pol pts P t).2.1 (hl t (by omega)) hx]
                exact h.fm_ne (h.pe_lt _ _ _) (Nat.xor_lt_two_pow (hl t (by omega)) hx) (iht (by omega)) (xor_nep fun ex => absurd (hinj t n' (by omega) (by omega) ex) (by omega))
              · rw [if_neg et, if_neg et]
                exact iht (by omega)
          exact this n' (Nat.le_refl _)
        have e3 : pe p (pts n') N q = 0 := by
          rcases (h.fm_eq_zero (h.pe_lt _ _ _) (h.pe_lt _ _ _)).1 e1 with e | e
          · exact e
          · exact absurd e e2
        obtain ⟨s, es, ds, hs⟩ := h.div_px hx hq.1 dN
        rw [e3] at hs
        have e0 : mo 0 0 = pz := funext fun i => by unfold mo pz; split <;> rfl
        rw [e0, pa_pz] at hs
        refine ⟨s, ⟨es, _, ds⟩, ?_⟩
        rw [he, hs, pm_assoc' h ⟨es, _, ds⟩, h.pm_comm (px (pts n'))]
      · rw [if_neg e]
        exact ⟨q, hq, he⟩
  obtain ⟨q, hq, he⟩ := main n (Nat.le_refl _)
  obtain ⟨k1, k2, k3⟩ := h.pvw_pol pts P n
  obtain ⟨N, dN⟩ := hq.2
  have q0 : q ≠ pz := fun e => h0 (by rw [he, e, h.pz_pm])
  obtain ⟨t, -, tt⟩ := tp_of dN q0
  have tp := h.tp_pm hq.1 k1 tt ⟨k2, by rw [k3]; decide⟩
  rw [← he] at tp
  have := tp.below df
  omega
/-- where a polynomial is near, Euclid's way finds it. -/
theorem Fld.near_found (h : Fld p d) {n k e A : Nat} {pts R a ua va b ub vb f : Nat → Nat} {P : Nat → Bool} (hl : ∀ i, i < n → pts i < 2 ^ d) (hinj : ∀ i j, i < n → j < n → pts i = pts j → i = j) (hR : El d R) (dR : Dg R n)
    (u : Euc p d n (pv p pts n) R a ua va b ub vb A) (hA : n - e ≤ A) (hb : Dg b (n - e)) (he : 2 * e + k ≤ n) (hk : 1 ≤ k) (hf : El d f) (df : Dg f k) (hP : ∀ i, i < n → P i = false → pe p (pts i) n f = pe p (pts i) n R) (hc : cnb P n ≤ e) :
    b = pm p vb f := by
  obtain ⟨k1, k2, k3⟩ := h.pvw_pol pts P n
  have pw : Pol d (pvw p pts P n) := ⟨k1, _, k2⟩
  have pf : Pol d f := ⟨hf, _, df⟩
  have pR : Pol d R := ⟨hR, _, dR⟩
  have pV := h.pol_pv pts n
  -- w * (R + f) is 0 at the points
  have dRf : Dg (pa R f) n := dR.pa (df.mono (by omega))
  obtain ⟨q, hq, hqe⟩ := h.dv_pv (n := n) (pts := pts) (f := pm p (pvw p pts P n) (pa R f)) (h.pol_pm pw (pR.pa pf)) hl hinj (fun i N hi hN => by
    have e1 := h.pe_pm (pts i) k2 dRf
    rw [h.pe_any (pts i) hN ((h.dg_pm k2 dRf).mono (by omega : cnb P n + 1 + n - 1 ≤ cnb P n + 1 + n)), e1]
    cases hp : P i with
    | true => rw [h.pvw_root n hl i hi hp, h.zero_fm]
    | false => rw [h.pe_pa, hP i hi hp, Nat.xor_self, h.fm_zero])
  -- w * b + w * vb * f is a multiple of V
  have key : pm p (pvw p pts P n) (pa b (pm p vb f)) = pm p (pa (pm p (pvw p pts P n) ub) (pm p vb q)) (pv p pts n) := by
    rw [u.eb, pa_assoc, ← h.pm_pa, h.pm_pa, h.pa_pm, pm_assoc' h pw, pm_assoc' h u.pvb, ← hqe, ← pm_assoc' h pw (g := vb), h.pm_comm (pvw p pts P n) vb, pm_assoc' h u.pvb]
  have dvb : Dg vb (e + 1) := u.dvb.mono (by have := u.an; omega)
  have d1 : Dg (pa b (pm p vb f)) (n - e) := hb.pa ((h.dg_pm dvb df).mono (by omega))
  have d2 : Dg (pm p (pvw p pts P n) (pa b (pm p vb f))) n := (h.dg_pm k2 d1).mono (by omega)
  have pz2 : pm p (pvw p pts P n) (pa b (pm p vb f)) = pz := by
    by_cases e0 : pa (pm p (pvw p pts P n) ub) (pm p vb q) = pz
    · rw [key, e0, h.pz_pm]
    · have pq : Pol d (pa (pm p (pvw p pts P n) ub) (pm p vb q)) := (h.pol_pm pw u.pub).pa (h.pol_pm u.pvb hq)
      obtain ⟨N, dN⟩ := pq.2
      obtain ⟨t, -, tt⟩ := tp_of dN e0
      have tp := h.tp_pm pq.1 pV.1 tt (h.pv_tp pts n)
      rw [← key] at tp
      have := tp.below d2
      omega
  rcases h.pm_eq_pz pw (u.pb_.pa (h.pol_pm u.pvb pf)) pz2 with e1 | e1
  · exact absurd (congrFun e1 (cnb P n)) (by rw [k3]; exact Nat.one_ne_zero)
  · exact pa_eq_pz e1
/-- what it finds is near. -/
theorem Fld.near_true (h : Fld p d) {n k e A : Nat} {pts R a ua va b ub vb f : Nat → Nat} (hl : ∀ i, i < n → pts i < 2 ^ d) (hinj : ∀ i j, i < n → j < n → pts i = pts j → i = j) (hR : El d R) (dR : Dg R n)
    (u : Euc p d n (pv p pts n) R a ua va b ub vb A) (hA : n - e ≤ A) (hf : El d f) (df : Dg f k) (hk : k ≤ n) (hen : e ≤ n) (hbf : b = pm p vb f) : cnb (fun i => decide (pe p (pts i) n f ≠ pe p (pts i) n R)) n ≤ e := by
  have pf : Pol d f := ⟨hf, _, df⟩
  have dvb : Dg vb (e + 1) := u.dvb.mono (by have := u.an; omega)
  refine h.few_roots (pts := pts) u.pvb (h.euc_ne u (h.pol_pv pts n) (h.pv_tp pts n)) dvb hl hinj (fun i hi hP => ?_)
  have hne : pe p (pts i) n f ≠ pe p (pts i) n R := by simpa using hP
  have hx := hl i hi
  -- at the point: b = vb * R, and b = vb * f
  obtain ⟨N, dN⟩ := u.pub.2
  have dn : Dg f n := df.mono hk
  have b1 : pe p (pts i) (N + (n + 1) + (e + 1 + n)) b = fm p (pe p (pts i) (e + 1) vb) (pe p (pts i) n R) := by
    rw [u.eb, h.pe_pa, h.pe_cut (pts i) ((h.dg_pm dN (h.pv_dg pts n)).mono (by omega : N + (n + 1) - 1 ≤ N + (n + 1))) (by omega), h.pe_pm (pts i) dN (h.pv_dg pts n),
      h.pe_cut (pts i) ((h.dg_pm dvb dR).mono (by omega : e + 1 + n - 1 ≤ e + 1 + n)) (by omega), h.pe_pm (pts i) dvb dR]
    have hz : pe p (pts i) (n + 1) (pv p pts n) = 0 := (h.pv_root hx n hl).2 (by
      have : ∀ m, i < m → 0 < cnt pts (pts i) m := by
        intro m
        induction m with
        | zero => intro h; omega
        | succ m ihm =>
          intro hm
          show 0 < cnt pts (pts i) m + _
          by_cases e : i = m
          · subst e; rw [if_pos rfl]; omega
          · have := ihm (by omega); omega
      exact this _ hi)
    rw [hz, h.fm_zero, Nat.zero_xor]
  have b2 : pe p (pts i) (N + (n + 1) + (e + 1 + n)) b = fm p (pe p (pts i) (e + 1) vb) (pe p (pts i) n f) := by
    rw [hbf, h.pe_cut (pts i) ((h.dg_pm dvb dn).mono (by omega : e + 1 + n - 1 ≤ e + 1 + n)) (by omega), h.pe_pm (pts i) dvb dn]
  by_cases e0 : pe p (pts i) (e + 1) vb = 0
  · exact e0
  · exact absurd (h.cancel (h.pe_lt _ _ _) (h.pe_lt _ _ _) (h.pe_lt _ _ _) e0 (b2.symm.trans b1)) hne
end Gf2
end Go.Proofs.YtlblkckglelbdaaGreat
