import Derived.Test.YthofhphlfgmklaaGreatMrae
namespace Go.Proofs.YthofhphlfgmklaaGreat
namespace Gf2
set_option linter.unusedVariables false
variable {p d : Nat}

-- layer 19: mending by Euclid's way
/-- two of Euclid's remainders that follow one another, with their factors. -/
structure Euc (p d n : Nat) (V R a ua va b ub vb : Nat → Nat) (A : Nat) : Prop where
  pa_ : Pol d a
  pua : Pol d ua
  pva : Pol d va
  pb_ : Pol d b
  pub : Pol d ub
  pvb : Pol d vb
  ta : Tp a A
  an : A ≤ n
  db : Dg b A
  dva : Dg va (n - A + 1)
  dvb : Dg vb (n - A + 1)
  ea : a = pa (pm p ua V) (pm p va R)
  eb : b = pa (pm p ub V) (pm p vb R)
  unit : pa (pm p ua vb) (pm p ub va) = po
theorem Fld.euc_start (h : Fld p d) {n : Nat} {V R : Nat → Nat} (hV : Pol d V) (tV : Tp V n) (hR : El d R) (dR : Dg R n) : Euc p d n V R V po pz R pz po n :=
  ⟨hV, h.pol_po, Pol.pz d, ⟨hR, n, dR⟩, Pol.pz d, h.pol_po, tV, Nat.le_refl _, dR, (Dg.pz _), by rw [Nat.sub_self]; exact po_tp.1,
    by rw [h.po_pm hV.1, h.pz_pm, pa_pz], by rw [h.pz_pm, h.po_pm hR, pz_pa], by rw [h.po_pm h.el_po, h.pz_pm, pa_pz]⟩
theorem pm_assoc' (h : Fld p d) {f g k : Nat → Nat} (hf : Pol d f) : pm p (pm p f g) k = pm p f (pm p g k) := by
  obtain ⟨-, n, hn⟩ := hf
  exact h.pm_assoc f g k hn
theorem Fld.euc_step (h : Fld p d) {n A B : Nat} {V R a ua va b ub vb q m : Nat → Nat} (k : Euc p d n V R a ua va b ub vb A) (tb : Tp b B) (hq : Pol d q) (dq : Dg q (A - B + 1)) (hm : Pol d m) (dm : Dg m B) (he : a = pa (pm p q b) m) :
    Euc p d n V R b ub vb m (pa ua (pm p q ub)) (pa va (pm p q vb)) B := by
  have hBA : B < A := tb.below k.db
  have em : m = pa a (pm p q b) := pa_move (by rw [pa_comm]; exact he)
  refine ⟨k.pb_, k.pub, k.pvb, hm, k.pua.pa (h.pol_pm hq k.pub), k.pva.pa (h.pol_pm hq k.pvb), tb, by have := k.an; omega, dm, k.dvb.mono (by have := k.an; omega), ?_, k.eb, ?_, ?_⟩
  · exact (k.dva.mono (by have := k.an; omega)).pa ((h.dg_pm dq k.dvb).mono (by have := k.an; omega))
  · rw [em, h.pa_pm, h.pa_pm, pm_assoc' h hq, pm_assoc' h hq]
    have e1 : pm p q b = pa (pm p q (pm p ub V)) (pm p q (pm p vb R)) := by rw [← h.pm_pa, ← k.eb]
    rw [e1]
    conv => lhs; rw [k.ea]
    funext i
    show (_ ^^^ _) ^^^ (_ ^^^ _) = (_ ^^^ _) ^^^ (_ ^^^ _)
    rw [Nat.xor_assoc, Nat.xor_assoc]
    congr 1
    rw [← Nat.xor_assoc, ← Nat.xor_assoc, Nat.xor_comm (pm p va R i)]
  · have u := k.unit
    rw [h.pm_pa, h.pa_pm, h.pm_comm ub (pm p q vb), pm_assoc' h hq, h.pm_comm vb ub, pm_assoc' h hq]
    rw [h.pm_comm ub va] at u
    rw [h.pm_comm ub va, pa_comm (pm p ua vb), ← pa_assoc]
    have : pa (pa (pm p va ub) (pm p q (pm p ub vb))) (pm p q (pm p ub vb)) = pm p va ub := by rw [pa_assoc, pa_self, pa_pz]
    rw [this, pa_comm]
    exact u
/-- the second factor is not 0. -/
theorem Fld.euc_ne (h : Fld p d) {n A : Nat} {V R a ua va b ub vb : Nat → Nat} (k : Euc p d n V R a ua va b ub vb A) (hV : Pol d V) (tV : Tp V n) : vb ≠ pz := by
  intro e
  have e1 := k.eb
  rw [e, h.pz_pm, pa_pz] at e1
  have e2 : ub = pz := by
    by_cases hu : ub = pz
    · exact hu
    · obtain ⟨N, hN⟩ := k.pub.2
      obtain ⟨m, -, tm⟩ := tp_of hN hu
      have t := h.tp_pm k.pub.1 hV.1 tm tV
      rw [← e1] at t
      have := t.below (k.db.mono k.an)
      omega
  have u := k.unit
  rw [e, e2, h.pm_pz, h.pz_pm, pa_pz] at u
  have := congrFun u 0
  simp [pz, po] at this

/-- so many places below n at which P holds. -/
def cnb (P : Nat → Bool) : Nat → Nat
  | 0 => 0
  | n + 1 => cnb P n + (if P n then 1 else 0)
/-- the product of the X + pts i at the places that P names. -/
def pvw (p : Nat) (pts : Nat → Nat) (P : Nat → Bool) : Nat → Nat → Nat
  | 0 => po
  | n + 1 => if P n then pm p (pvw p pts P n) (px (pts n)) else pvw p pts P n
theorem Fld.pvw_pol (h : Fld p d) (pts : Nat → Nat) (P : Nat → Bool) : ∀ n, El d (pvw p pts P n) ∧ Dg (pvw p pts P n) (cnb P n + 1) ∧ pvw p pts P n (cnb P n) = 1
  | 0 => ⟨h.el_po, po_tp.1, rfl⟩
  | n + 1 => by
    obtain ⟨h1, h2, h3⟩ := h.pvw_pol pts P n
    unfold pvw cnb
    by_cases e : P n = true
    · rw [if_pos e, if_pos e]
      refine ⟨h.el_pm _ _, (h.dg_pm h2 (px_dg _)).mono (by omega), ?_⟩
      rw [h.top_pm h2 (px_dg _), h3]
      exact h.fm_one h.one_lt
    · rw [if_neg e, if_neg e]
      exact ⟨h1, h2, h3⟩
theorem Fld.pvw_root (h : Fld p d) {pts : Nat → Nat} {P : Nat → Bool} : ∀ n, (∀ i, i < n → pts i < 2 ^ d) → ∀ i, i < n → P i = true → pe p (pts i) (cnb P n + 1) (pvw p pts P n) = 0
  | 0, _ => fun i hi => absurd hi (Nat.not_lt_zero _)
  | n + 1, hl => fun i hi hP => by
    have k2 := (h.pvw_pol pts P n).2.1
    unfold pvw cnb
    by_cases e : P n = true
    · rw [if_pos e, if_pos e, h.pe_pm_px k2 (hl n (by omega)) (hl i hi)]
      by_cases ei : i = n
      · subst ei; rw [Nat.xor_self, h.fm_zero]
      · rw [h.pvw_root n (fun j hj => hl j (by omega)) i (by omega) hP, h.zero_fm]
    · rw [if_neg e, if_neg e]
      have : i ≠ n := fun ei => e (ei ▸ hP)
      exact h.pvw_root n (fun j hj => hl j (by omega)) i (by omega) hP
/-- a polynomial that is 0 at the points is divided by their product. -/
theorem Fld.dv_pv (h : Fld p d) : ∀ {n : Nat} {pts f : Nat → Nat}, Pol d f → (∀ i, i < n → pts i < 2 ^ d) → (∀ i j, i < n → j < n → pts i = pts j → i = j) → (∀ i N, i < n → Dg f N → pe p (pts i) N f = 0) → ∃ q, Pol d q ∧ f = pm p q (pv p pts n) := by
  intro n
  induction n with
  | zero =>
    intro pts f hf _ _ _
    exact ⟨f, hf, by show f = pm p f po; rw [h.pm_po hf.1]⟩
  | succ n ih =>
    intro pts f hf hl hinj hr
    obtain ⟨q, hq, he⟩ := ih hf (fun i hi => hl i (by omega)) (fun i j hi hj => hinj i j (by omega) (by omega)) (fun i N hi => hr i N (by omega))
    obtain ⟨N, dN⟩ := hq.2
    obtain ⟨M, dM⟩ := hf.2
    have hx := hl n (by omega)
    have e1 : fm p (pe p (pts n) N q) (pe p (pts n) (n + 1) (pv p pts n)) = 0 := by
      rw [← h.pe_pm (pts n) dN (h.pv_dg pts n), ← he]
      have dF : Dg f (N + (n + 1)) := by rw [he]; exact (h.dg_pm dN (h.pv_dg pts n)).mono (by omega)
      exact hr n _ (by omega) dF
    have e2 : pe p (pts n) (n + 1) (pv p pts n) ≠ 0 := fun e0 => by
      have c := (h.pv_root hx n (fun i hi => hl i (by omega))).1 e0
      have : ∀ m, m ≤ n → cnt pts (pts n) m = 0 := by
        intro m
        induction m with
        | zero => intro _; rfl
        | succ m ihm =>
          intro hm
          show cnt pts (pts n) m + _ = 0
          rw [ihm (by omega), if_neg (fun e => absurd (hinj m n (by omega) (by omega) e) (by omega))]
      rw [this n (Nat.le_refl _)] at c
      exact absurd c (Nat.lt_irrefl _)
    have e3 : pe p (pts n) N q = 0 := by
      rcases (h.fm_eq_zero (h.pe_lt _ _ _) (h.pe_lt _ _ _)).1 e1 with e | e
      · exact e
      · exact absurd e e2
    obtain ⟨s, es, ds, hs⟩ := h.div_px hx hq.1 dN
    rw [e3] at hs
    have e0 : mo 0 0 = pz := funext fun i => by unfold mo pz; split <;> rfl
    rw [e0, pa_pz] at hs
    refine ⟨s, ⟨es, _, ds⟩, ?_⟩
    show f = pm p s (pm p (pv p pts n) (px (pts n)))
    rw [he, hs, pm_assoc' h ⟨es, _, ds⟩, h.pm_comm (px (pts n))]
/-- as many roots at most as its degree. -/
theorem Fld.few_roots (h : Fld p d) {pts : Nat → Nat} {n m : Nat} {f : Nat → Nat} (hf : Pol d f) (h0 : f ≠ pz) (df : Dg f (m + 1)) (hl : ∀ i, i < n → pts i < 2 ^ d) (hinj : ∀ i j, i < n → j < n → pts i = pts j → i = j) {P : Nat → Bool} (hP : ∀ i, i < n → P i = true → pe p (pts i) (m + 1) f = 0) : cnb P n ≤ m := by
  have main : ∀ n', n' ≤ n → ∃ q, Pol d q ∧ f = pm p q (pvw p pts P n') := by
    intro n'
    induction n' with
    | zero => intro _; exact ⟨f, hf, by show f = pm p f po; rw [h.pm_po hf.1]⟩
    | succ n' ih =>
      intro hn
      obtain ⟨q, hq, he⟩ := ih (by omega)
      unfold pvw
      by_cases e : P n' = true
      · rw [if_pos e]
        obtain ⟨N, dN⟩ := hq.2
        have hx := hl n' (by omega)
        obtain ⟨k1, k2, k3⟩ := h.pvw_pol pts P n'
        have e1 : fm p (pe p (pts n') N q) (pe p (pts n') (cnb P n' + 1) (pvw p pts P n')) = 0 := by
          rw [← h.pe_pm (pts n') dN k2, ← he, ← hP n' (by omega) e]
          exact h.pe_any _ (by rw [he]; exact (h.dg_pm dN k2).mono (by omega)) df
        have e2 : pe p (pts n') (cnb P n' + 1) (pvw p pts P n') ≠ 0 := by
          have : ∀ t, t ≤ n' → pe p (pts n') (cnb P t + 1) (pvw p pts P t) ≠ 0 := by
            intro t
            induction t with
            | zero =>
              intro _
              show pe p (pts n') 1 po ≠ 0
              have : po = mo 1 0 := funext fun i => rfl
              rw [this, h.pe_mo (by omega), h.fp_zero, h.fm_one h.one_lt]
              decide
            | succ t iht =>
              intro ht
              unfold pvw cnb
              by_cases et : P t = true
              · rw [if_pos et, if_pos et, h.pe_pm_px (h.pvw_pol pts P t).2.1 (hl t (by omega)) hx]
                exact h.fm_ne (h.pe_lt _ _ _) (Nat.xor_lt_two_pow (hl t (by omega)) hx) (iht (by omega)) (xor_nep fun ex => absurd (hinj t n' (by omega) (by omega) ex) (by omega))
              · rw [if_neg et, if_neg et]
                exact iht (by omega)
          exact this n' (Nat.le_refl _)
        have e3 : pe p (pts n') N q = 0 := by
          rcases (h.fm_eq_zero (h.pe_lt _ _ _) (h.pe_lt _ _ _)).1 e1 with e | e
          · exact e
          · exact absurd e e2
        obtain ⟨s, es, ds, hs⟩ := h.div_px hx hq.1 dN
        rw [e3] at hs
        have e0 : mo 0 0 = pz := funext fun i => by unfold mo pz; split <;> rfl
        rw [e0, pa_pz] at hs
        refine ⟨s, ⟨es, _, ds⟩, ?_⟩
        rw [he, hs, pm_assoc' h ⟨es, _, ds⟩, h.pm_comm (px (pts n'))]
      · rw [if_neg e]
        exact ⟨q, hq, he⟩
  obtain ⟨q, hq, he⟩ := main n (Nat.le_refl _)
  obtain ⟨k1, k2, k3⟩ := h.pvw_pol pts P n
  obtain ⟨N, dN⟩ := hq.2
  have q0 : q ≠ pz := fun e => h0 (by rw [he, e, h.pz_pm])
  obtain ⟨t, -, tt⟩ := tp_of dN q0
  have tp := h.tp_pm hq.1 k1 tt ⟨k2, by rw [k3]; decide⟩
  rw [← he] at tp
  have := tp.below df
  omega
/-- where a polynomial is near, Euclid's way finds it. -/
theorem Fld.near_found (h : Fld p d) {n k e A : Nat} {pts R a ua va b ub vb f : Nat → Nat} {P : Nat → Bool} (hl : ∀ i, i < n → pts i < 2 ^ d) (hinj : ∀ i j, i < n → j < n → pts i = pts j → i = j) (hR : El d R) (dR : Dg R n)
    (u : Euc p d n (pv p pts n) R a ua va b ub vb A) (hA : n - e ≤ A) (hb : Dg b (n - e)) (he : 2 * e + k ≤ n) (hk : 1 ≤ k) (hf : El d f) (df : Dg f k) (hP : ∀ i, i < n → P i = false → pe p (pts i) n f = pe p (pts i) n R) (hc : cnb P n ≤ e) :
    b = pm p vb f := by
  obtain ⟨k1, k2, k3⟩ := h.pvw_pol pts P n
  have pw : Pol d (pvw p pts P n) := ⟨k1, _, k2⟩
  have pf : Pol d f := ⟨hf, _, df⟩
  have pR : Pol d R := ⟨hR, _, dR⟩
  have pV := h.pol_pv pts n
  -- w * (R + f) is 0 at the points
  have dRf : Dg (pa R f) n := dR.pa (df.mono (by omega))
  obtain ⟨q, hq, hqe⟩ := h.dv_pv (n := n) (pts := pts) (f := pm p (pvw p pts P n) (pa R f)) (h.pol_pm pw (pR.pa pf)) hl hinj (fun i N hi hN => by
    have e1 := h.pe_pm (pts i) k2 dRf
    rw [h.pe_any (pts i) hN ((h.dg_pm k2 dRf).mono (by omega : cnb P n + 1 + n - 1 ≤ cnb P n + 1 + n)), e1]
    cases hp : P i with
    | true => rw [h.pvw_root n hl i hi hp, h.zero_fm]
    | false => rw [h.pe_pa, hP i hi hp, Nat.xor_self, h.fm_zero])
  -- w * b + w * vb * f is a multiple of V
  have key : pm p (pvw p pts P n) (pa b (pm p vb f)) = pm p (pa (pm p (pvw p pts P n) ub) (pm p vb q)) (pv p pts n) := by
    rw [u.eb, pa_assoc, ← h.pm_pa, h.pm_pa, h.pa_pm, pm_assoc' h pw, pm_assoc' h u.pvb, ← hqe, ← pm_assoc' h pw (g := vb), h.pm_comm (pvw p pts P n) vb, pm_assoc' h u.pvb]
  have dvb : Dg vb (e + 1) := u.dvb.mono (by have := u.an; omega)
  have d1 : Dg (pa b (pm p vb f)) (n - e) := hb.pa ((h.dg_pm dvb df).mono (by omega))
  have d2 : Dg (pm p (pvw p pts P n) (pa b (pm p vb f))) n := (h.dg_pm k2 d1).mono (by omega)
  have pz2 : pm p (pvw p pts P n) (pa b (pm p vb f)) = pz := by
    by_cases e0 : pa (pm p (pvw p pts P n) ub) (pm p vb q) = pz
    · rw [key, e0, h.pz_pm]
    · have pq : Pol d (pa (pm p (pvw p pts P n) ub) (pm p vb q)) := (h.pol_pm pw u.pub).pa (h.pol_pm u.pvb hq)
      obtain ⟨N, dN⟩ := pq.2
      obtain ⟨t, -, tt⟩ := tp_of dN e0
      have tp := h.tp_pm pq.1 pV.1 tt (h.pv_tp pts n)
      rw [← key] at tp
      have := tp.below d2
      omega
  rcases h.pm_eq_pz pw (u.pb_.pa (h.pol_pm u.pvb pf)) pz2 with e1 | e1
  · exact absurd (congrFun e1 (cnb P n)) (by rw [k3]; exact Nat.one_ne_zero)
  · exact pa_eq_pz e1
/-- what it finds is near. -/
theorem Fld.near_true (h : Fld p d) {n k e A : Nat} {pts R a ua va b ub vb f : Nat → Nat} (hl : ∀ i, i < n → pts i < 2 ^ d) (hinj : ∀ i j, i < n → j < n → pts i = pts j → i = j) (hR : El d R) (dR : Dg R n)
    (u : Euc p d n (pv p pts n) R a ua va b ub vb A) (hA : n - e ≤ A) (hf : El d f) (df : Dg f k) (hk : k ≤ n) (hen : e ≤ n) (hbf : b = pm p vb f) : cnb (fun i => decide (pe p (pts i) n f ≠ pe p (pts i) n R)) n ≤ e := by
  have pf : Pol d f := ⟨hf, _, df⟩
  have dvb : Dg vb (e + 1) := u.dvb.mono (by have := u.an; omega)
  refine h.few_roots (pts := pts) u.pvb (h.euc_ne u (h.pol_pv pts n) (h.pv_tp pts n)) dvb hl hinj (fun i hi hP => ?_)
  have hne : pe p (pts i) n f ≠ pe p (pts i) n R := by simpa using hP
  have hx := hl i hi
  -- at the point: b = vb * R, and b = vb * f
  obtain ⟨N, dN⟩ := u.pub.2
  have dn : Dg f n := df.mono hk
  have b1 : pe p (pts i) (N + (n + 1) + (e + 1 + n)) b = fm p (pe p (pts i) (e + 1) vb) (pe p (pts i) n R) := by
    rw [u.eb, h.pe_pa, h.pe_cut (pts i) ((h.dg_pm dN (h.pv_dg pts n)).mono (by omega : N + (n + 1) - 1 ≤ N + (n + 1))) (by omega), h.pe_pm (pts i) dN (h.pv_dg pts n),
      h.pe_cut (pts i) ((h.dg_pm dvb dR).mono (by omega : e + 1 + n - 1 ≤ e + 1 + n)) (by omega), h.pe_pm (pts i) dvb dR]
    have hz : pe p (pts i) (n + 1) (pv p pts n) = 0 := (h.pv_root hx n hl).2 (by
      have : ∀ m, i < m → 0 < cnt pts (pts i) m := by
        intro m
        induction m with
        | zero => intro h; omega
        | succ m ihm =>
          intro hm
          show 0 < cnt pts (pts i) m + _
          by_cases e : i = m
          · subst e; rw [if_pos rfl]; omega
          · have := ihm (by omega); omega
      exact this _ hi)
    rw [hz, h.fm_zero, Nat.zero_xor]
  have b2 : pe p (pts i) (N + (n + 1) + (e + 1 + n)) b = fm p (pe p (pts i) (e + 1) vb) (pe p (pts i) n f) := by
    rw [hbf, h.pe_cut (pts i) ((h.dg_pm dvb dn).mono (by omega : e + 1 + n - 1 ≤ e + 1 + n)) (by omega), h.pe_pm (pts i) dvb dn]
  by_cases e0 : pe p (pts i) (e + 1) vb = 0
  · exact e0
  · exact absurd (h.cancel (h.pe_lt _ _ _) (h.pe_lt _ _ _) (h.pe_lt _ _ _) e0 (b2.symm.trans b1)) hne
end Gf2
end Go.Proofs.YthofhphlfgmklaaGreat
namespace Go.Proofs.YthofhphlfgmklaaGreat
namespace Gf2
set_option linter.unusedVariables false

/-! determinants over the field of 256. -/
/-- the numbers but j. -/
def sk (j c : Nat) : Nat := if c < j then c else c + 1
/-- without row i and column j. -/
def mn (i j : Nat) (A : Nat → Nat → Nat) : Nat → Nat → Nat := fun r c => A (sk i r) (sk j c)
def D : Nat → (Nat → Nat → Nat) → Nat
  | 0, _ => 1
  | n + 1, A => sx (n + 1) (fun j => fm 285 (A 0 j) (D n (mn 0 j A)))
end Gf2
end Go.Proofs.YthofhphlfgmklaaGreat
namespace Go.Proofs.YthofhphlfgmklaaGreat
namespace Gf2
set_option linter.unusedVariables false

/-- products. -/
def pr : Nat → (Nat → Nat) → Nat
  | 0, _ => 1
  | n + 1, f => fm 285 (pr n f) (f n)
theorem pr_lt : ∀ n f, pr n f < 256
  | 0, _ => by unfold pr; decide
  | n + 1, f => fld8.fm_lt _ _
theorem pr_congr : ∀ n {f g : Nat → Nat}, (∀ i, i < n → f i = g i) → pr n f = pr n g
  | 0, _, _, _ => rfl
  | n + 1, f, g, h => by unfold pr; rw [pr_congr n (fun i hi => h i (by omega)), h n (by omega)]
/-- over all pairs j < i. -/
def pp (n : Nat) (g : Nat → Nat → Nat) : Nat := pr n (fun i => pr i (fun j => g i j))
/-! Vandermonde. -/
def van (x : Nat → Nat) : Nat → Nat → Nat := fun r c => fp 285 (x r) c
/-! Cauchy. -/
end Gf2
end Go.Proofs.YthofhphlfgmklaaGreat
namespace Go.Proofs.YthofhphlfgmklaaGreat
namespace Gf2
set_option linter.unusedVariables false

theorem pr_ne : ∀ n (f : Nat → Nat), (∀ i, i < n → f i < 256 ∧ f i ≠ 0) → pr n f ≠ 0
  | 0, _, _ => by unfold pr; decide
  | n + 1, f, h => fld8.fm_ne (pr_lt _ _) (h n (Nat.lt_succ_self n)).1 (pr_ne n f (fun i hi => h i (by omega))) (h n (Nat.lt_succ_self n)).2
theorem pr_zero : ∀ n (f : Nat → Nat) t, t < n → f t = 0 → pr n f = 0
  | 0, _, _, h, _ => absurd h (Nat.not_lt_zero _)
  | n + 1, f, t, h, h0 => by
    show fm 285 (pr n f) (f n) = 0
    by_cases e : t = n
    · subst e; rw [h0, fld8.fm_zero]
    · rw [pr_zero n f t (by omega) h0, fld8.zero_fm]
theorem pr_pull : ∀ n (f : Nat → Nat) i, i < n → pr n f = fm 285 (pr n (fun t => if t = i then 1 else f t)) (f i)
  | 0, _, _, h => absurd h (Nat.not_lt_zero _)
  | n + 1, f, i, h => by
    show fm 285 (pr n f) (f n) = fm 285 (fm 285 (pr n _) (if n = i then 1 else f n)) (f i)
    by_cases e : n = i
    · subst e
      rw [if_pos rfl, fld8.fm_one (pr_lt _ _), pr_congr n (g := fun t => if t = n then 1 else f t) (fun t ht => (if_neg (by omega)).symm)]
    · rw [if_neg e, pr_pull n f i (by omega), fld8.fm_assoc, fm_comm 285 (f i), ← fld8.fm_assoc]
theorem xor_ne {a b : Nat} (h : a ≠ b) : a ^^^ b ≠ 0 := fun e => h (by
  have : a ^^^ b ^^^ b = 0 ^^^ b := by rw [e]
  rwa [Nat.xor_assoc, Nat.xor_self, Nat.xor_zero, Nat.zero_xor] at this)
/-- the product of s + t over t below n but i. -/
def qq (i n s : Nat) : Nat := pr n (fun t => if t = i then 1 else s ^^^ t)
def dg (i n : Nat) : Nat := if i < n then n else n + 1
theorem poly (i : Nat) : ∀ n, ∃ a : Nat → Nat, (∀ c, a c < 256) ∧ (∀ c, dg i n ≤ c → a c = 0) ∧ ∀ s, s < 256 → qq i n s = sx (dg i n) (fun c => fm 285 (a c) (fp 285 s c))
  | 0 => ⟨fun c => if c = 0 then 1 else 0, fun c => by dsimp only; split <;> decide, fun c hc => by
      have hc : 1 ≤ c := hc
      exact if_neg (by omega), fun s hs => by
      show 1 = sx 1 (fun c => fm 285 (if c = 0 then 1 else 0) (fp 285 s c))
      rw [sx_one (k := 0) (by decide) (fun c h1 h2 => absurd h1 (by omega)), if_pos rfl, fld8.fp_zero]
      decide⟩
  | n + 1 => by
    obtain ⟨a, h1, h2, h3⟩ := poly i n
    by_cases e : n = i
    · subst e
      have d1 : dg n n = n + 1 := if_neg (Nat.lt_irrefl _)
      have d2 : dg n (n + 1) = n + 1 := if_pos (Nat.lt_succ_self _)
      refine ⟨a, h1, fun c hc => h2 c (by rw [d1]; rw [d2] at hc; exact hc), fun s hs => ?_⟩
      have e3 := h3 s hs
      rw [d1] at e3
      rw [d2, ← e3]
      show fm 285 (qq n n s) (if n = n then 1 else s ^^^ n) = qq n n s
      rw [if_pos rfl]
      exact fld8.fm_one (pr_lt _ _)
    · have d2 : dg i (n + 1) = dg i n + 1 := by
        unfold dg
        by_cases h : i < n
        · rw [if_pos h, if_pos (by omega)]
        · rw [if_neg h, if_neg (by omega)]
      refine ⟨fun c => (if c = 0 then 0 else a (c - 1)) ^^^ fm 285 (a c) n, fun c => xor_lt8 (by split; decide; exact h1 _) (fld8.fm_lt _ _), fun c hc => ?_, fun s hs => ?_⟩
      · rw [d2] at hc
        dsimp only
        rw [if_neg (by omega), h2 (c - 1) (by omega), h2 c (by omega), fld8.zero_fm]
        rfl
      · rw [d2]
        show fm 285 (qq i n s) (if n = i then 1 else s ^^^ n) = _
        rw [if_neg e, h3 s hs]
        have e1 : ∀ c, fm 285 ((if c = 0 then 0 else a (c - 1)) ^^^ fm 285 (a c) n) (fp 285 s c) = fm 285 (if c = 0 then 0 else a (c - 1)) (fp 285 s c) ^^^ fm 285 (fm 285 (a c) n) (fp 285 s c) := fun c => by rw [fm_comm 285 _ (fp 285 s c), fld8.fm_xor, fm_comm 285 (fp 285 s c), fm_comm 285 (fp 285 s c)]
        rw [sx_congr (fun c _ => e1 c), sx_xor, sx_first, if_pos rfl, fld8.zero_fm, Nat.zero_xor]
        have e2 : ∀ c, fm 285 (if c + 1 = 0 then 0 else a (c + 1 - 1)) (fp 285 s (c + 1)) = fm 285 (fm 285 (a c) (fp 285 s c)) s := fun c => by
          rw [if_neg (by omega), Nat.add_sub_cancel, fld8.fp_succ hs, fld8.fm_assoc]
        rw [sx_congr (fun c _ => e2 c), ← sx_fm]
        have e3 : sx (dg i n + 1) (fun c => fm 285 (fm 285 (a c) n) (fp 285 s c)) = fm 285 (sx (dg i n) (fun c => fm 285 (a c) (fp 285 s c))) n := by
          rw [sx_cut (m := dg i n) (Nat.le_succ _) (fun c hc _ => by rw [h2 c hc, fld8.zero_fm, fld8.zero_fm]), sx_fm]
          exact sx_congr (fun c _ => by rw [fld8.fm_assoc, fm_comm 285 n, ← fld8.fm_assoc])
        rw [e3, ← fld8.fm_xor]
end Gf2
end Go.Proofs.YthofhphlfgmklaaGreat
