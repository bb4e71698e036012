import Derived.Test.YtfhgamaakkoplaaMvae
namespace Go.Proofs.Ytfhgamaakkoplaa
namespace Gf2
set_option linter.unusedVariables false
variable {p d : Nat}

-- layer 19: mending by Euclid's way
/-- two of Euclid's remainders that follow one another, with their factors. -/
structure Euc (p d n : Nat) (V R a ua va b ub vb : Nat → Nat) (A : Nat) : Prop where
  pa_ : Pol d a
  pua : Pol d ua
  pva : Pol d va
  pb_ : Pol d b
  pub : Pol d ub
  pvb : Pol d vb
  ta : Tp a A
  an : A ≤ n
  db : Dg b A
  dva : Dg va (n - A + 1)
  dvb : Dg vb (n - A + 1)
  ea : a = pa (pm p ua V) (pm p va R)
  eb : b = pa (pm p ub V) (pm p vb R)
  unit : pa (pm p ua vb) (pm p ub va) = po
theorem Fld.euc_start (h : Fld p d) {n : Nat} {V R : Nat → Nat} (hV : Pol d V) (tV : Tp V n) (hR : El d R) (dR : Dg R n) : Euc p d n V R V po pz R pz po n :=
  ⟨hV, h.pol_po, Pol.pz d, ⟨hR, n, dR⟩, Pol.pz d, h.pol_po, tV, Nat.le_refl _, dR, (Dg.pz _), by rw [Nat.sub_self]; exact po_tp.1,
    by rw [h.po_pm hV.1, h.pz_pm, pa_pz], by rw [h.pz_pm, h.po_pm hR, pz_pa], by rw [h.po_pm h.el_po, h.pz_pm, pa_pz]⟩
theorem pm_assoc' (h : Fld p d) {f g k : Nat → Nat} (hf : Pol d f) : pm p (pm p f g) k = pm p f (pm p g k) := by
  obtain ⟨-, n, hn⟩ := hf
  exact h.pm_assoc f g k hn
theorem Fld.euc_step (h : Fld p d) {n A B : Nat} {V R a ua va b ub vb q m : Nat → Nat} (k : Euc p d n V R a ua va b ub vb A) (tb : Tp b B) (hq : Pol d q) (dq : Dg q (A - B + 1)) (hm : Pol d m) (dm : Dg m B) (he : a = pa (pm p q b) m) :
    Euc p d n V R b ub vb m (pa ua (pm p q ub)) (pa va (pm p q vb)) B := by
  have hBA : B < A := tb.below k.db
  have em : m = pa a (pm p q b) := pa_move (by rw [pa_comm]; exact he)
  refine ⟨k.pb_, k.pub, k.pvb, hm, k.pua.pa (h.pol_pm hq k.pub), k.pva.pa (h.pol_pm hq k.pvb), tb, by have := k.an; omega, dm, k.dvb.mono (by have := k.an; omega), ?_, k.eb, ?_, ?_⟩
  · exact (k.dva.mono (by have := k.an; omega)).pa ((h.dg_pm dq k.dvb).mono (by have := k.an; omega))
  · rw [em, h.pa_pm, h.pa_pm, pm_assoc' h hq, pm_assoc' h hq]
    have e1 : pm p q b = pa (pm p q (pm p ub V)) (pm p q (pm p vb R)) := by rw [← h.pm_pa, ← k.eb]
    rw [e1]
    conv => lhs; rw [k.ea]
    funext i
    show (_ ^^^ _) ^^^ (_ ^^^ _) = (_ ^^^ _) ^^^ (_ ^^^ _)
    rw [Nat.xor_assoc, Nat.xor_assoc]
    congr 1
    rw [← Nat.xor_assoc, ← Nat.xor_assoc, Nat.xor_comm (pm p va R i)]
  · have u := k.unit
    rw [h.pm_pa, h.pa_pm, h.pm_comm ub (pm p q vb), pm_assoc' h hq, h.pm_comm vb ub, pm_assoc' h hq]
    rw [h.pm_comm ub va] at u
    rw [h.pm_comm ub va, pa_comm (pm p ua vb), ← pa_assoc]
    have : pa (pa (pm p va ub) (pm p q (pm p ub vb))) (pm p q (pm p ub vb)) = pm p va ub := by rw [pa_assoc, pa_self, pa_pz]
    rw [this, pa_comm]
    exact u
/-- the second factor is not 0. -/
theorem Fld.euc_ne (h : Fld p d) {n A : Nat} {V R a ua va b ub vb : Nat → Nat} (k : Euc p d n V R a ua va b ub vb A) (hV : Pol d V) (tV : Tp V n) : vb ≠ pz := by
  intro e
  have e1 := k.eb
  rw [e, h.pz_pm, pa_pz] at e1
  have e2 : ub = pz := by
    by_cases hu : ub = pz
    · exact hu
    · obtain ⟨N, hN⟩ := k.pub.2
      obtain ⟨m, -, tm⟩ := tp_of hN hu
      have t := h.tp_pm k.pub.1 hV.1 tm tV
      rw [← e1] at t
      have := t.below (k.db.mono k.an)
      omega
  have u := k.unit
  rw [e, e2, h.pm_pz, h.pz_pm, pa_pz] at u
  have := congrFun u 0
  simp [pz, po] at this

/-- so many places below n at which P holds. -/
def cnb (P : Nat → Bool) : Nat → Nat
  | 0 => 0
  | n + 1 => cnb P n + (if P n then 1 else 0)
/-- the product of the X + pts i at the places that P names. -/
def pvw (p : Nat) (pts : Nat → Nat) (P : Nat → Bool) : Nat → Nat → Nat
  | 0 => po
  | n + 1 => if P n then pm p (pvw p pts P n) (px (pts n)) else pvw p pts P n
theorem Fld.pvw_pol (h : Fld p d) (pts : Nat → Nat) (P : Nat → Bool) : ∀ n, El d (pvw p pts P n) ∧ Dg (pvw p pts P n) (cnb P n + 1) ∧ pvw p pts P n (cnb P n) = 1
  | 0 => ⟨h.el_po, po_tp.1, rfl⟩
  | n + 1 => by
    obtain ⟨h1, h2, h3⟩ := h.pvw_pol pts P n
    unfold pvw cnb
    by_cases e : P n = true
    · rw [if_pos e, if_pos e]
      refine ⟨h.el_pm _ _, (h.dg_pm h2 (px_dg _)).mono (by omega), ?_⟩
      rw [h.top_pm h2 (px_dg _), h3]
      exact h.fm_one h.one_lt
    · rw [if_neg e, if_neg e]
      exact ⟨h1, h2, h3⟩
theorem Fld.pvw_root (h : Fld p d) {pts : Nat → Nat} {P : Nat → Bool} : ∀ n, (∀ i, i < n → pts i < 2 ^ d) → ∀ i, i < n → P i = true → pe p (pts i) (cnb P n + 1) (pvw p pts P n) = 0
  | 0, _ => fun i hi => absurd hi (Nat.not_lt_zero _)
  | n + 1, hl => fun i hi hP => by
    have k2 := (h.pvw_pol pts P n).2.1
    unfold pvw cnb
    by_cases e : P n = true
    · rw [if_pos e, if_pos e, h.pe_pm_px k2 (hl n (by omega)) (hl i hi)]
      by_cases ei : i = n
      · subst ei; rw [Nat.xor_self, h.fm_zero]
      · rw [h.pvw_root n (fun j hj => hl j (by omega)) i (by omega) hP, h.zero_fm]
    · rw [if_neg e, if_neg e]
      have : i ≠ n := fun ei => e (ei ▸ hP)
      exact h.pvw_root n (fun j hj => hl j (by omega)) i (by omega) hP
/-- a polynomial that is 0 at the points is divided by their product. -/
theorem Fld.dv_pv (h : Fld p d) : ∀ {n : Nat} {pts f : Nat → Nat}, Pol d f → (∀ i, i < n → pts i < 2 ^ d) → (∀ i j, i < n → j < n → pts i = pts j → i = j) → (∀ i N, i < n → Dg f N → pe p (pts i) N f = 0) → ∃ q, Pol d q ∧ f = pm p q (pv p pts n) := by
  intro n
  induction n with
  | zero =>
    intro pts f hf _ _ _
    exact ⟨f, hf, by show f = pm p f po; rw [h.pm_po hf.1]⟩
  | succ n ih =>
    intro pts f hf hl hinj hr
    obtain ⟨q, hq, he⟩ := ih hf (fun i hi => hl i (by omega)) (fun i j hi hj => hinj i j (by omega) (by omega)) (fun i N hi => hr i N (by omega))
    obtain ⟨N, dN⟩ := hq.2
    obtain ⟨M, dM⟩ := hf.2
    have hx := hl n (by omega)
    have e1 : fm p (pe p (pts n) N q) (pe p (pts n) (n + 1) (pv p pts n)) = 0 := by
      rw [← h.pe_pm (pts n) dN (h.pv_dg pts n), ← he]
      have dF : Dg f (N + (n + 1)) := by rw [he]; exact (h.dg_pm dN (h.pv_dg pts n)).mono (by omega)
      exact hr n _ (by omega) dF
    have e2 : pe p (pts n) (n + 1) (pv p pts n) ≠ 0 := fun e0 => by
      have c := (h.pv_root hx n (fun i hi => hl i (by omega))).1 e0
      have : ∀ m, m ≤ n → cnt pts (pts n) m = 0 := by
        intro m
        induction m with
        | zero => intro _; rfl
        | succ m ihm =>
          intro hm
          show cnt pts (pts n) m + _ = 0
          rw [ihm (by omega), if_neg (fun e => absurd (hinj m n (by omega) (by omega) e) (by omega))]
      rw [this n (Nat.le_refl _)] at c
      exact absurd c (Nat.lt_irrefl _)
    have e3 : pe p (pts n) N q = 0 := by
      rcases (h.fm_eq_zero (h.pe_lt _ _ _) (h.pe_lt _ _ _)).1 e1 with e | e
      · exact e
      · exact absurd e e2
    obtain ⟨s, es, ds, hs⟩ := h.div_px hx hq.1 dN
    rw [e3] at hs
    have e0 : mo 0 0 = pz := funext fun i => by unfold mo pz; split <;> rfl
    rw [e0, pa_pz] at hs
    refine ⟨s, ⟨es, _, ds⟩, ?_⟩
    show f = pm p s (pm p (pv p pts n) (px (pts n)))
    rw [he, hs, pm_assoc' h ⟨es, _, ds⟩, h.pm_comm (px (pts n))]
/-- as many roots at most as its degree. -/
theorem Fld.few_roots (h : Fld p d) {pts : Nat → Nat} {n m : Nat} {f : Nat → Nat} (hf : Pol d f) (h0 : f ≠ pz) (df : Dg f (m + 1)) (hl : ∀ i, i < n → pts i < 2 ^ d) (hinj : ∀ i j, i < n → j < n → pts i = pts j → i = j) {P : Nat → Bool} (hP : ∀ i, i < n → P i = true → pe p (pts i) (m + 1) f = 0) : cnb P n ≤ m := by
  have main : ∀ n', n' ≤ n → ∃ q, Pol d q ∧ f = pm p q (pvw p pts P n') := by
    intro n'
    induction n' with
    | zero => intro _; exact ⟨f, hf, by show f = pm p f po; rw [h.pm_po hf.1]⟩
    | succ n' ih =>
      intro hn
      obtain ⟨q, hq, he⟩ := ih (by omega)
      unfold pvw
      by_cases e : P n' = true
      · rw [if_pos e]
        obtain ⟨N, dN⟩ := hq.2
        have hx := hl n' (by omega)
        obtain ⟨k1, k2, k3⟩ := h.pvw_pol pts P n'
        have e1 : fm p (pe p (pts n') N q) (pe p (pts n') (cnb P n' + 1) (pvw p pts P n')) = 0 := by
          rw [← h.pe_pm (pts n') dN k2, ← he, ← hP n' (by omega) e]
          exact h.pe_any _ (by rw [he]; exact (h.dg_pm dN k2).mono (by omega)) df
        have e2 : pe p (pts n') (cnb P n' + 1) (pvw p pts P n') ≠ 0 := by
          have : ∀ t, t ≤ n' → pe p (pts n') (cnb P t + 1) (pvw p pts P t) ≠ 0 := by
            intro t
            induction t with
            | zero =>
              intro _
              show pe p (pts n') 1 po ≠ 0
              have : po = mo 1 0 := funext fun i => rfl
              rw [this, h.pe_mo (by omega), h.fp_zero, h.fm_one h.one_lt]
              decide
            | succ t iht =>
              intro ht
              unfold pvw cnb
              by_cases et : P t = true
              · rw [if_pos et, if_pos et, h.pe_pm_px (h.pvw_pol pts P t).2.1 (hl t (by omega)) hx]
                exact h.fm_ne (h.pe_lt _ _ _) (Nat.xor_lt_two_pow (hl t (by omega)) hx) (iht (by omega)) (xor_nep fun ex => absurd (hinj t n' (by omega) (by omega) ex) (by omega))
              · rw [if_neg et, if_neg et]
                exact iht (by omega)
          exact this n' (Nat.le_refl _)
        have e3 : pe p (pts n') N q = 0 := by
          rcases (h.fm_eq_zero (h.pe_lt _ _ _) (h.pe_lt _ _ _)).1 e1 with e | e
          · exact e
          · exact absurd e e2
        obtain ⟨s, es, ds, hs⟩ := h.div_px hx hq.1 dN
        rw [e3] at hs
        have e0 : mo 0 0 = pz := funext fun i => by unfold mo pz; split <;> rfl
        rw [e0, pa_pz] at hs
        refine ⟨s, ⟨es, _, ds⟩, ?_⟩
        rw [he, hs, pm_assoc' h ⟨es, _, ds⟩, h.pm_comm (px (pts n'))]
      · rw [if_neg e]
        exact ⟨q, hq, he⟩
  obtain ⟨q, hq, he⟩ := main n (Nat.le_refl _)
  obtain ⟨k1, k2, k3⟩ := h.pvw_pol pts P n
  obtain ⟨N, dN⟩ := hq.2
  have q0 : q ≠ pz := fun e => h0 (by rw [he, e, h.pz_pm])
  obtain ⟨t, -, tt⟩ := tp_of dN q0
  have tp := h.tp_pm hq.1 k1 tt ⟨k2, by rw [k3]; decide⟩
  rw [← he] at tp
  have := tp.below df
  omega
/-- where a polynomial is near, Euclid's way finds it. -/
theorem Fld.near_found (h : Fld p d) {n k e A : Nat} {pts R a ua va b ub vb f : Nat → Nat} {P : Nat → Bool} (hl : ∀ i, i < n → pts i < 2 ^ d) (hinj : ∀ i j, i < n → j < n → pts i = pts j → i = j) (hR : El d R) (dR : Dg R n)
    (u : Euc p d n (pv p pts n) R a ua va b ub vb A) (hA : n - e ≤ A) (hb : Dg b (n - e)) (he : 2 * e + k ≤ n) (hk : 1 ≤ k) (hf : El d f) (df : Dg f k) (hP : ∀ i, i < n → P i = false → pe p (pts i) n f = pe p (pts i) n R) (hc : cnb P n ≤ e) :
    b = pm p vb f := by
  obtain ⟨k1, k2, k3⟩ := h.pvw_pol pts P n
  have pw : Pol d (pvw p pts P n) := ⟨k1, _, k2⟩
  have pf : Pol d f := ⟨hf, _, df⟩
  have pR : Pol d R := ⟨hR, _, dR⟩
  have pV := h.pol_pv pts n
  -- w * (R + f) is 0 at the points
  have dRf : Dg (pa R f) n := dR.pa (df.mono (by omega))
  obtain ⟨q, hq, hqe⟩ := h.dv_pv (n := n) (pts := pts) (f := pm p (pvw p pts P n) (pa R f)) (h.pol_pm pw (pR.pa pf)) hl hinj (fun i N hi hN => by
    have e1 := h.pe_pm (pts i) k2 dRf
    rw [h.pe_any (pts i) hN ((h.dg_pm k2 dRf).mono (by omega : cnb P n + 1 + n - 1 ≤ cnb P n + 1 + n)), e1]
    cases hp : P i with
    | true => rw [h.pvw_root n hl i hi hp, h.zero_fm]
    | false => rw [h.pe_pa, hP i hi hp, Nat.xor_self, h.fm_zero])
  -- w * b + w * vb * f is a multiple of V
  have key : pm p (pvw p pts P n) (pa b (pm p vb f)) = pm p (pa (pm p (pvw p pts P n) ub) (pm p vb q)) (pv p pts n) := by
    rw [u.eb, pa_assoc, ← h.pm_pa, h.pm_pa, h.pa_pm, pm_assoc' h pw, pm_assoc' h u.pvb, ← hqe, ← pm_assoc' h pw (g := vb), h.pm_comm (pvw p pts P n) vb, pm_assoc' h u.pvb]
  have dvb : Dg vb (e + 1) := u.dvb.mono (by have := u.an; omega)
  have d1 : Dg (pa b (pm p vb f)) (n - e) := hb.pa ((h.dg_pm dvb df).mono (by omega))
  have d2 : Dg (pm p (pvw p pts P n) (pa b (pm p vb f))) n := (h.dg_pm k2 d1).mono (by omega)
  have pz2 : pm p (pvw p pts P n) (pa b (pm p vb f)) = pz := by
    by_cases e0 : pa (pm p (pvw p pts P n) ub) (pm p vb q) = pz
    · rw [key, e0, h.pz_pm]
    · have pq : Pol d (pa (pm p (pvw p pts P n) ub) (pm p vb q)) := (h.pol_pm pw u.pub).pa (h.pol_pm u.pvb hq)
      obtain ⟨N, dN⟩ := pq.2
      obtain ⟨t, -, tt⟩ := tp_of dN e0
      have tp := h.tp_pm pq.1 pV.1 tt (h.pv_tp pts n)
      rw [← key] at tp
      have := tp.below d2
      omega
  rcases h.pm_eq_pz pw (u.pb_.pa (h.pol_pm u.pvb pf)) pz2 with e1 | e1
  · exact absurd (congrFun e1 (cnb P n)) (by rw [k3]; exact Nat.one_ne_zero)
  · exact pa_eq_pz e1
/-- what it finds is near. -/
theorem Fld.near_true (h : Fld p d) {n k e A : Nat} {pts R a ua va b ub vb f : Nat → Nat} (hl : ∀ i, i < n → pts i < 2 ^ d) (hinj : ∀ i j, i < n → j < n → pts i = pts j → i = j) (hR : El d R) (dR : Dg R n)
    (u : Euc p d n (pv p pts n) R a ua va b ub vb A) (hA : n - e ≤ A) (hf : El d f) (df : Dg f k) (hk : k ≤ n) (hen : e ≤ n) (hbf : b = pm p vb f) : cnb (fun i => decide (pe p (pts i) n f ≠ pe p (pts i) n R)) n ≤ e := by
  have pf : Pol d f := ⟨hf, _, df⟩
  have dvb : Dg vb (e + 1) := u.dvb.mono (by have := u.an; omega)
  refine h.few_roots (pts := pts) u.pvb (h.euc_ne u (h.pol_pv pts n) (h.pv_tp pts n)) dvb hl hinj (fun i hi hP => ?_)
  have hne : pe p (pts i) n f ≠ pe p (pts i) n R := by simpa using hP
  have hx := hl i hi
  -- at the point: b = vb * R, and b = vb * f
  obtain ⟨N, dN⟩ := u.pub.2
  have dn : Dg f n := df.mono hk
  have b1 : pe p (pts i) (N + (n + 1) + (e + 1 + n)) b = fm p (pe p (pts i) (e + 1) vb) (pe p (pts i) n R) := by
    rw [u.eb, h.pe_pa, h.pe_cut (pts i) ((h.dg_pm dN (h.pv_dg pts n)).mono (by omega : N + (n + 1) - 1 ≤ N + (n + 1))) (by omega), h.pe_pm (pts i) dN (h.pv_dg pts n),
      h.pe_cut (pts i) ((h.dg_pm dvb dR).mono (by omega : e + 1 + n - 1 ≤ e + 1 + n)) (by omega), h.pe_pm (pts i) dvb dR]
    have hz : pe p (pts i) (n + 1) (pv p pts n) = 0 := (h.pv_root hx n hl).2 (by
      have : ∀ m, i < m → 0 < cnt pts (pts i) m := by
        intro m
        induction m with
        | zero => intro h; omega
        | succ m ihm =>
          intro hm
          show 0 < cnt pts (pts i) m + _
          by_cases e : i = m
          · subst e; rw [if_pos rfl]; omega
          · have := ihm (by omega); omega
      exact this _ hi)
    rw [hz, h.fm_zero, Nat.zero_xor]
  have b2 : pe p (pts i) (N + (n + 1) + (e + 1 + n)) b = fm p (pe p (pts i) (e + 1) vb) (pe p (pts i) n f) := by
    rw [hbf, h.pe_cut (pts i) ((h.dg_pm dvb dn).mono (by omega : e + 1 + n - 1 ≤ e + 1 + n)) (by omega), h.pe_pm (pts i) dvb dn]
  by_cases e0 : pe p (pts i) (e + 1) vb = 0
  · exact e0
  · exact absurd (h.cancel (h.pe_lt _ _ _) (h.pe_lt _ _ _) (h.pe_lt _ _ _) e0 (b2.symm.trans b1)) hne
end Gf2
end Go.Proofs.Ytfhgamaakkoplaa
namespace Go.Proofs.Ytfhgamaakkoplaa
namespace Gf2
set_option linter.unusedVariables false

/-! determinants over the field of 256. -/
/-- the numbers but j. -/
def sk (j c : Nat) : Nat := if c < j then c else c + 1
/-- without row i and column j. -/
def mn (i j : Nat) (A : Nat → Nat → Nat) : Nat → Nat → Nat := fun r c => A (sk i r) (sk j c)
def D : Nat → (Nat → Nat → Nat) → Nat
  | 0, _ => 1
  | n + 1, A => sx (n + 1) (fun j => fm 285 (A 0 j) (D n (mn 0 j A)))
end Gf2
end Go.Proofs.Ytfhgamaakkoplaa
namespace Go.Proofs.Ytfhgamaakkoplaa
namespace Gf2
set_option linter.unusedVariables false

/-- products. -/
def pr : Nat → (Nat → Nat) → Nat
  | 0, _ => 1
  | n + 1, f => fm 285 (pr n f) (f n)
/-- over all pairs j < i. -/
def pp (n : Nat) (g : Nat → Nat → Nat) : Nat := pr n (fun i => pr i (fun j => g i j))
/-! Vandermonde. -/
def van (x : Nat → Nat) : Nat → Nat → Nat := fun r c => fp 285 (x r) c
/-! Cauchy. -/
end Gf2
end Go.Proofs.Ytfhgamaakkoplaa
namespace Go.Proofs.Ytfhgamaakkoplaa
namespace Gf2
set_option linter.unusedVariables false

/-! null vectors of a reduced form, and the rank of the transposed. -/
/-- the vector that is 1 at f, behind r pivots. -/
def nvs (P : Nat → Nat) (M : Nat → Nat → Nat) (f : Nat) : Nat → Nat → Nat
  | 0 => fun j => if j = f then 1 else 0
  | r + 1 => fun j => if j = P r then M r f else nvs P M f r j
theorem nvs_else {P : Nat → Nat} {M : Nat → Nat → Nat} {f j : Nat} : ∀ r, (∀ k, k < r → P k ≠ j) → nvs P M f r j = if j = f then 1 else 0
  | 0, _ => rfl
  | r + 1, h => by
    unfold nvs
    rw [if_neg (fun e => h r (Nat.lt_succ_self r) e.symm)]
    exact nvs_else r (fun k hk => h k (by omega))
theorem nvs_at {P : Nat → Nat} {M : Nat → Nat → Nat} {f k : Nat} : ∀ r, (∀ i, i < r → i ≠ k → P i ≠ P k) → k < r → nvs P M f r (P k) = M k f
  | 0, _, h => absurd h (Nat.not_lt_zero _)
  | r + 1, h, hk => by
    unfold nvs
    by_cases e : k = r
    · subst e; rw [if_pos rfl]
    · rw [if_neg (fun e' => h r (Nat.lt_succ_self r) (fun x => e x.symm) e'.symm)]
      exact nvs_at r (fun i hi => h i (by omega)) (by omega)
end Gf2
end Go.Proofs.Ytfhgamaakkoplaa
namespace Go.Proofs.Ytfhgamaakkoplaa
namespace Gf2
set_option linter.unusedVariables false

def dg (i n : Nat) : Nat := if i < n then n else n + 1
end Gf2
end Go.Proofs.Ytfhgamaakkoplaa
namespace Go.Proofs.Ytfhgamaakkoplaa
namespace Gf2
set_option linter.unusedVariables false

-- row by row elimination (the document's): rows with pivots, each new row cleared, made 1 at its pivot, and taken off the others
/-- the product of a row and a vector. -/
def rdt (w : Nat) (x u : Nat → Nat) : Nat := sx w (fun c => fm 285 (x c) (u c))
theorem rdt_lt (w : Nat) (x u : Nat → Nat) : rdt w x u < 256 := sx_lt (d := 8) (fun _ _ => fld8.fm_lt _ _)
theorem rdt_congr {w : Nat} {x y u v : Nat → Nat} (h : ∀ c, c < w → x c = y c) (k : ∀ c, c < w → u c = v c) : rdt w x u = rdt w y v := sx_congr (fun c hc => by rw [h c hc, k c hc])
theorem rdt_scale (w k : Nat) (x u : Nat → Nat) : rdt w (fun c => fm 285 (x c) k) u = fm 285 (rdt w x u) k := by
  unfold rdt
  rw [sx_fm]
  exact sx_congr (fun c _ => by rw [fld8.fm_assoc, fm_comm 285 k (u c), ← fld8.fm_assoc])
theorem rdt_add (w k : Nat) (x y u : Nat → Nat) : rdt w (fun c => x c ^^^ fm 285 (y c) k) u = rdt w x u ^^^ fm 285 (rdt w y u) k := by
  rw [← rdt_scale]
  unfold rdt
  rw [← sx_xor]
  exact sx_congr (fun c _ => fld8.xor_fm _ _ _)
theorem sx_twor {w a b : Nat} {g : Nat → Nat} (ha : a < w) (hb : b < w) (hab : a ≠ b) (h : ∀ c, c < w → c ≠ a → c ≠ b → g c = 0) : sx w g = g a ^^^ g b := by
  have e : sx w g = sx w (fun c => (if c = a then g c else 0) ^^^ (if c = b then g c else 0)) := sx_congr (fun c hc => by
    by_cases e1 : c = a
    · rw [if_pos e1, if_neg (fun e => hab (e1.symm.trans e)), Nat.xor_zero]
    · by_cases e2 : c = b
      · rw [if_neg e1, if_pos e2, Nat.zero_xor]
      · rw [if_neg e1, if_neg e2, h c hc e1 e2]; rfl)
  rw [e, sx_xor, sx_one ha (fun c _ hc => if_neg hc), sx_one hb (fun c _ hc => if_neg hc), if_pos rfl, if_pos rfl]
/-- rows with their pivots, in whatever order. -/
structure Rdu (w m : Nat) (R : Nat → Nat → Nat) (p : Nat → Nat) : Prop where
  lt : ∀ i, i < m → p i < w
  one : ∀ i j, i < m → j < m → R i (p j) = if i = j then 1 else 0
  left : ∀ i c, i < m → c < p i → R i c = 0
  byt : ∀ i c, i < m → c < w → R i c < 256
def Nul (w m : Nat) (R : Nat → Nat → Nat) (u : Nat → Nat) : Prop := ∀ i, i < m → rdt w (R i) u = 0
theorem Rdu.inj {w m : Nat} {R : Nat → Nat → Nat} {p : Nat → Nat} (h : Rdu w m R p) {i j : Nat} (hi : i < m) (hj : j < m) (e : p i = p j) : i = j := by
  have h1 := h.one i j hi hj
  have h2 := h.one i i hi hi
  rw [if_pos rfl, e, h1] at h2
  by_cases e2 : i = j
  · exact e2
  · rw [if_neg e2] at h2; cases h2
/-- a row, its places at the first pivots made 0. -/
def cle (R : Nat → Nat → Nat) (p a : Nat → Nat) : Nat → Nat → Nat
  | 0 => a
  | i + 1 => fun c => cle R p a i c ^^^ fm 285 (R i c) (cle R p a i (p i))
section
variable {w m : Nat} {R : Nat → Nat → Nat} {p a : Nat → Nat}
theorem cle_lt (h : Rdu w m R p) (ha : ∀ c, c < w → a c < 256) : ∀ i, i ≤ m → ∀ c, c < w → cle R p a i c < 256
  | 0, _, c, hc => ha c hc
  | i + 1, hi, c, hc => Nat.xor_lt_two_pow (n := 8) (cle_lt h ha i (by omega) c hc) (fld8.fm_lt _ _)
theorem cle_piv (h : Rdu w m R p) (ha : ∀ c, c < w → a c < 256) : ∀ i, i ≤ m → ∀ j, j < m → cle R p a i (p j) = if j < i then 0 else a (p j)
  | 0, _, j, hj => (if_neg (Nat.not_lt_zero _)).symm
  | i + 1, hi, j, hj => by
    show cle R p a i (p j) ^^^ fm 285 (R i (p j)) (cle R p a i (p i)) = _
    rw [h.one i j (by omega) hj]
    by_cases e : i = j
    · subst e
      rw [if_pos rfl, if_pos (by omega), fld8.one_fm (cle_lt h ha i (by omega) _ (h.lt i hj)), Nat.xor_self]
    · rw [if_neg e, fld8.zero_fm, Nat.xor_zero, cle_piv h ha i (by omega) j hj]
      by_cases e2 : j < i
      · rw [if_pos e2, if_pos (by omega)]
      · rw [if_neg e2, if_neg (by omega)]
theorem cle_rdt (u : Nat → Nat) (hn : Nul w m R u) : ∀ i, i ≤ m → rdt w (cle R p a i) u = rdt w a u
  | 0, _ => rfl
  | i + 1, hi => by
    show rdt w (fun c => cle R p a i c ^^^ fm 285 (R i c) (cle R p a i (p i))) u = _
    rw [rdt_add, hn i (by omega), fld8.zero_fm, Nat.xor_zero, cle_rdt u hn i (by omega)]
/-- the cleared row, 1 at its pivot q. -/
def nrmr (R : Nat → Nat → Nat) (p a : Nat → Nat) (m q c : Nat) : Nat := fm 285 (cle R p a m c) (fi 285 (cle R p a m q))
/-- the rows behind it, and itself. -/
def insr (R : Nat → Nat → Nat) (p a : Nat → Nat) (m q i c : Nat) : Nat := if i < m then R i c ^^^ fm 285 (nrmr R p a m q c) (R i q) else nrmr R p a m q c
def inspr (p : Nat → Nat) (m q i : Nat) : Nat := if i < m then p i else q
theorem insr_rdu (h : Rdu w m R p) (ha : ∀ c, c < w → a c < 256) {q : Nat} (hq : q < w) (hz : ∀ c, c < q → cle R p a m c = 0) (hq0 : cle R p a m q ≠ 0) : Rdu w (m + 1) (insr R p a m q) (inspr p m q) := by
  have hl : cle R p a m q < 2 ^ 8 := cle_lt h ha m (Nat.le_refl _) q hq
  have n1 : nrmr R p a m q q = 1 := by
    unfold nrmr
    exact fld8.fi_mul hl hq0
  have n0 : ∀ j, j < m → nrmr R p a m q (p j) = 0 := fun j hj => by
    unfold nrmr
    rw [cle_piv h ha m (Nat.le_refl _) j hj, if_pos hj, fld8.zero_fm]
  have nl : ∀ c, c < q → nrmr R p a m q c = 0 := fun c hc => by
    unfold nrmr
    rw [hz c hc, fld8.zero_fm]
  have nb : ∀ c, nrmr R p a m q c < 256 := fun c => fld8.fm_lt _ _
  refine ⟨fun i hi => ?_, fun i j hi hj => ?_, fun i c hi hc => ?_, fun i c hi hc => ?_⟩
  · unfold inspr
    split
    · exact h.lt i (by assumption)
    · exact hq
  · unfold insr inspr
    by_cases e1 : i < m
    · rw [if_pos e1]
      by_cases e2 : j < m
      · rw [if_pos e2, n0 j e2, fld8.zero_fm, Nat.xor_zero, h.one i j e1 e2]
      · rw [if_neg e2, n1, fld8.one_fm (h.byt i q e1 hq), Nat.xor_self, if_neg (by omega)]
    · rw [if_neg e1]
      by_cases e2 : j < m
      · rw [if_pos e2, n0 j e2, if_neg (by omega)]
      · rw [if_neg e2, n1, if_pos (by omega)]
  · unfold insr
    unfold inspr at hc
    by_cases e1 : i < m
    · rw [if_pos e1] at hc ⊢
      rw [h.left i c e1 hc, Nat.zero_xor]
      by_cases e2 : c < q
      · rw [nl c e2, fld8.zero_fm]
      · rw [h.left i q e1 (by omega), fld8.fm_zero]
    · rw [if_neg e1] at hc ⊢
      exact nl c hc
  · unfold insr
    split
    · exact Nat.xor_lt_two_pow (n := 8) (h.byt i c (by assumption) hc) (fld8.fm_lt _ _)
    · exact nb c
theorem insr_nul (h : Rdu w m R p) (ha : ∀ c, c < w → a c < 256) {q : Nat} (hq : q < w) (hq0 : cle R p a m q ≠ 0) (u : Nat → Nat) : Nul w (m + 1) (insr R p a m q) u ↔ Nul w m R u ∧ rdt w a u = 0 := by
  have hl : cle R p a m q < 2 ^ 8 := cle_lt h ha m (Nat.le_refl _) q hq
  have en : rdt w (nrmr R p a m q) u = fm 285 (rdt w (cle R p a m) u) (fi 285 (cle R p a m q)) := rdt_scale w _ _ _
  have eR : ∀ i, i < m → rdt w (insr R p a m q i) u = rdt w (R i) u ^^^ fm 285 (rdt w (nrmr R p a m q) u) (R i q) := fun i hi => by
    rw [← rdt_add]
    exact rdt_congr (fun c _ => by unfold insr; rw [if_pos hi]) (fun _ _ => rfl)
  have em : rdt w (insr R p a m q m) u = rdt w (nrmr R p a m q) u := rdt_congr (fun c _ => by unfold insr; rw [if_neg (Nat.lt_irrefl _)]) (fun _ _ => rfl)
  have back : rdt w (nrmr R p a m q) u = 0 → rdt w (cle R p a m) u = 0 := fun e => by
    have e2 : fm 285 (fm 285 (rdt w (cle R p a m) u) (fi 285 (cle R p a m q))) (cle R p a m q) = rdt w (cle R p a m) u := by
      rw [fld8.fm_assoc, fm_comm 285 (fi 285 (cle R p a m q)), fld8.fi_mul hl hq0, fld8.fm_one (rdt_lt _ _ _)]
    rw [← e2, ← en, e, fld8.zero_fm]
  constructor
  · intro hN
    have e0 : rdt w (nrmr R p a m q) u = 0 := by rw [← em]; exact hN m (by omega)
    have hR : Nul w m R u := fun i hi => by
      have h9 := hN i (by omega)
      rw [eR i hi, e0, fld8.zero_fm, Nat.xor_zero] at h9
      exact h9
    exact ⟨hR, by rw [← cle_rdt (p := p) u hR m (Nat.le_refl _)]; exact back e0⟩
  · rintro ⟨hR, h0⟩
    have e0 : rdt w (nrmr R p a m q) u = 0 := by rw [en, cle_rdt u hR m (Nat.le_refl _), h0, fld8.zero_fm]
    intro i hi
    by_cases e1 : i < m
    · rw [eR i e1, e0, fld8.zero_fm, Nat.xor_zero]; exact hR i e1
    · obtain rfl : i = m := by omega
      rw [em]; exact e0
/-- a row that is cleared to noughts asks nothing new. -/
theorem skip_nul (hz : ∀ c, c < w → cle R p a m c = 0) (u : Nat → Nat) (hn : Nul w m R u) : rdt w a u = 0 := by
  rw [← cle_rdt (p := p) (a := a) u hn m (Nat.le_refl _)]
  exact sx_zero (fun c hc => by rw [hz c hc, fld8.zero_fm])
/-- the vector of a free column f. -/
theorem free_nul (h : Rdu w m R p) {f : Nat} (hf : f < w) (hfp : ∀ i, i < m → p i ≠ f) {v : Nat → Nat} (v1 : v f = 1) (v2 : ∀ i, i < m → v (p i) = R i f) (v3 : ∀ c, c < w → c ≠ f → (∀ i, i < m → c ≠ p i) → v c = 0) : Nul w m R v := by
  intro i hi
  unfold rdt
  rw [sx_twor (a := p i) (b := f) (h.lt i hi) hf (hfp i hi) (fun c hc e1 e2 => ?_)]
  · rw [h.one i i hi hi, if_pos rfl, v2 i hi, v1, fld8.one_fm (h.byt i f hi hf), fld8.fm_one (h.byt i f hi hf), Nat.xor_self]
  · by_cases e3 : ∃ j, j < m ∧ c = p j
    · obtain ⟨j, hj, rfl⟩ := e3
      rw [h.one i j hi hj, if_neg (fun e => e1 (by rw [e])), fld8.zero_fm]
    · rw [v3 c hc e2 (fun j hj e => e3 ⟨j, hj, e⟩), fld8.fm_zero]
/-- where each column is a pivot, 0 alone is null. -/
theorem full_nul (h : Rdu w m R p) (hf : ∀ c, c < w → ∃ i, i < m ∧ p i = c) {u : Nat → Nat} (hu : ∀ c, c < w → u c < 256) (hn : Nul w m R u) : ∀ c, c < w → u c = 0 := by
  intro c hc
  obtain ⟨i, hi, rfl⟩ := hf c hc
  have h9 := hn i hi
  unfold rdt at h9
  rw [sx_one (h.lt i hi) (fun d hd e => ?_), h.one i i hi hi, if_pos rfl, fld8.one_fm (hu _ hc)] at h9
  · exact h9
  · obtain ⟨j, hj, rfl⟩ := hf d hd
    rw [h.one i j hi hj, if_neg (fun e2 => e (by rw [e2])), fld8.zero_fm]
end
end Gf2
end Go.Proofs.Ytfhgamaakkoplaa
namespace Go.Proofs.Ytfhgamaakkoplaa
namespace Gf2
set_option linter.unusedVariables false

-- the rows in another order; the last one taken down to its place
theorem Rdu.perm {w m : Nat} {R : Nat → Nat → Nat} {p s : Nat → Nat} (h : Rdu w m R p) (hs : ∀ i, i < m → s i < m) (hi : ∀ i j, i < m → j < m → s i = s j → i = j) : Rdu w m (fun i => R (s i)) (fun i => p (s i)) :=
  ⟨fun i h1 => h.lt _ (hs i h1), fun i j h1 h2 => by
    rw [h.one _ _ (hs i h1) (hs j h2)]
    by_cases e : i = j
    · rw [if_pos e, if_pos (by rw [e])]
    · rw [if_neg e, if_neg (fun e2 => e (hi i j h1 h2 e2))], fun i c h1 hc => h.left _ c (hs i h1) hc, fun i c h1 hc => h.byt _ c (hs i h1) hc⟩
theorem Nul.perm {w m : Nat} {R : Nat → Nat → Nat} {s u : Nat → Nat} (hs : ∀ i, i < m → s i < m) (hu : ∀ j, j < m → ∃ i, i < m ∧ s i = j) : Nul w m (fun i => R (s i)) u ↔ Nul w m R u :=
  ⟨fun h j hj => by
    obtain ⟨i, hi, e⟩ := hu j hj
    rw [← e]; exact h i hi, fun h i hi => h _ (hs i hi)⟩
/-- place i is the last row's, those behind it move on. -/
def sg (m i j : Nat) : Nat := if j < i then j else if j = i then m else j - 1
theorem sg_lt {m i : Nat} (hi : i ≤ m) : ∀ j, j < m + 1 → sg m i j < m + 1 := fun j hj => by
  unfold sg
  split
  · exact hj
  · split <;> omega
theorem sg_inj {m i : Nat} (hi : i ≤ m) : ∀ a b, a < m + 1 → b < m + 1 → sg m i a = sg m i b → a = b := fun a b ha hb e => by
  unfold sg at e
  by_cases a1 : a < i
  · rw [if_pos a1] at e
    by_cases b1 : b < i
    · rw [if_pos b1] at e; exact e
    · rw [if_neg b1] at e
      by_cases b2 : b = i
      · rw [if_pos b2] at e; omega
      · rw [if_neg b2] at e; omega
  · rw [if_neg a1] at e
    by_cases a2 : a = i
    · rw [if_pos a2] at e
      by_cases b1 : b < i
      · rw [if_pos b1] at e; omega
      · rw [if_neg b1] at e
        by_cases b2 : b = i
        · omega
        · rw [if_neg b2] at e; omega
    · rw [if_neg a2] at e
      by_cases b1 : b < i
      · rw [if_pos b1] at e; omega
      · rw [if_neg b1] at e
        by_cases b2 : b = i
        · rw [if_pos b2] at e; omega
        · rw [if_neg b2] at e; omega
theorem sg_sur {m i : Nat} (hi : i ≤ m) : ∀ j, j < m + 1 → ∃ a, a < m + 1 ∧ sg m i a = j := fun j hj => by
  by_cases h1 : j < i
  · exact ⟨j, hj, if_pos h1⟩
  · by_cases h2 : j = m
    · exact ⟨i, by omega, by unfold sg; rw [if_neg (Nat.lt_irrefl _), if_pos rfl, h2]⟩
    · exact ⟨j + 1, by omega, by unfold sg; rw [if_neg (by omega), if_neg (by omega)]; omega⟩
/-- one step down: the neighbours change places. -/
theorem sg_down {m i j : Nat} (hi : i + 1 ≤ m) : sg m i j = if j = i then sg m (i + 1) (i + 1) else if j = i + 1 then sg m (i + 1) i else sg m (i + 1) j := by
  unfold sg
  by_cases h1 : j < i
  · rw [if_pos h1, if_neg (by omega), if_neg (by omega), if_pos (by omega)]
  · by_cases h2 : j = i
    · rw [if_neg h1, if_pos h2, if_pos h2, if_neg (Nat.lt_irrefl _), if_pos rfl]
    · by_cases h3 : j = i + 1
      · rw [if_neg h1, if_neg h2, if_neg h2, if_pos h3, if_pos (by omega)]; omega
      · rw [if_neg h1, if_neg h2, if_neg h2, if_neg h3, if_neg (by omega), if_neg h3]
/-- at its place, the pivots rise. -/
theorem sg_up {m i q : Nat} {p : Nat → Nat} (hi : i ≤ m) (up : ∀ a b, a < b → b < m → p a < p b) (h1 : ∀ j, j < i → p j < q) (h2 : ∀ j, i ≤ j → j < m → q < p j) : ∀ a b, a < b → b < m + 1 → inspr p m q (sg m i a) < inspr p m q (sg m i b) := fun a b hab hb => by
  unfold sg inspr
  by_cases b1 : b < i
  · rw [if_pos (show a < i by omega), if_pos b1, if_pos (by omega), if_pos (by omega)]
    exact up a b hab (by omega)
  · by_cases b2 : b = i
    · rw [if_pos (show a < i by omega), if_neg b1, if_pos b2, if_pos (show a < m by omega), if_neg (Nat.lt_irrefl _)]
      exact h1 a (by omega)
    · rw [if_neg b1, if_neg b2, if_pos (show b - 1 < m by omega)]
      by_cases a1 : a < i
      · rw [if_pos a1, if_pos (show a < m by omega)]
        exact up a (b - 1) (by omega) (by omega)
      · rw [if_neg a1]
        by_cases a2 : a = i
        · rw [if_pos a2, if_neg (Nat.lt_irrefl _)]
          exact h2 (b - 1) (by omega) (by omega)
        · rw [if_neg a2, if_pos (show a - 1 < m by omega)]
          exact up (a - 1) (b - 1) (by omega) (by omega)
end Gf2
end Go.Proofs.Ytfhgamaakkoplaa
namespace Go.Proofs.Ytfhgamaakkoplaa
namespace Gf2
set_option linter.unusedVariables false

-- the document's reduced, row by row: behind r rows there are k, their pivots rising
structure Rin (n : Nat) (S : Nat → Nat → Nat) (r k : Nat) (R : Nat → Nat → Nat) (p : Nat → Nat) : Prop where
  rdu : Rdu n k R p
  up : ∀ a b, a < b → b < k → p a < p b
  nul : ∀ u, Nul n k R u ↔ ∀ x, x < r → rdt n (S x) u = 0
  le : k ≤ r
theorem Rin.start (n : Nat) (S : Nat → Nat → Nat) (R : Nat → Nat → Nat) (p : Nat → Nat) : Rin n S 0 0 R p :=
  ⟨⟨fun i hi => absurd hi (Nat.not_lt_zero _), fun i j hi => absurd hi (Nat.not_lt_zero _), fun i c hi => absurd hi (Nat.not_lt_zero _), fun i c hi => absurd hi (Nat.not_lt_zero _)⟩, fun a b _ hb => absurd hb (Nat.not_lt_zero _), fun u => ⟨fun _ x hx => absurd hx (Nat.not_lt_zero _), fun _ i hi => absurd hi (Nat.not_lt_zero _)⟩, Nat.le_refl _⟩
section
variable {n r k : Nat} {S R : Nat → Nat → Nat} {p : Nat → Nat}
theorem Rin.skip (h : Rin n S r k R p) (hz : ∀ c, c < n → cle R p (S r) k c = 0) : Rin n S (r + 1) k R p :=
  ⟨h.rdu, h.up, fun u => ⟨fun hn x hx => by
    by_cases e : x = r
    · rw [e]; exact skip_nul hz u hn
    · exact (h.nul u).1 hn x (by omega), fun hn => (h.nul u).2 (fun x hx => hn x (by omega))⟩, by have := h.le; omega⟩
theorem Rin.ne (h : Rin n S r k R p) (hS : ∀ x c, S x c < 256) {q : Nat} (hq0 : cle R p (S r) k q ≠ 0) : ∀ j, j < k → p j ≠ q := fun j hj e => by
  apply hq0
  rw [← e, cle_piv h.rdu (fun c _ => hS r c) k (Nat.le_refl _) j hj, if_pos hj]
theorem Rin.put (h : Rin n S r k R p) (hS : ∀ x c, S x c < 256) {q i : Nat} (hq : q < n) (hz : ∀ c, c < q → cle R p (S r) k c = 0) (hq0 : cle R p (S r) k q ≠ 0) (hi : i ≤ k) (h1 : i = 0 ∨ p (i - 1) < q) (h2 : ∀ j, i ≤ j → j < k → q < p j) :
    Rin n S (r + 1) (k + 1) (fun j => insr R p (S r) k q (sg k i j)) (fun j => inspr p k q (sg k i j)) := by
  refine ⟨(insr_rdu h.rdu (fun c _ => hS r c) hq hz hq0).perm (sg_lt hi) (sg_inj hi), fun a b hab hb => sg_up hi h.up (fun j hj => ?_) h2 a b hab hb, fun u => ?_, by have := h.le; omega⟩
  · rcases h1 with h1 | h1
    · omega
    · by_cases e : j = i - 1
      · rw [e]; exact h1
      · have := h.up j (i - 1) (by omega) (by omega); omega
  · rw [Nul.perm (s := sg k i) (sg_lt hi) (sg_sur hi), insr_nul h.rdu (fun c _ => hS r c) hq hq0 u, h.nul u]
    constructor
    · rintro ⟨a, b⟩ x hx
      by_cases e : x = r
      · rw [e]; exact b
      · exact a x (by omega)
    · exact fun a => ⟨fun x hx => a x (by omega), a r (by omega)⟩
end
theorem sg_id {m j : Nat} (hj : j < m + 1) : sg m m j = j := by
  unfold sg
  by_cases h : j < m
  · rw [if_pos h]
  · rw [if_neg h, if_pos (by omega)]; omega
end Gf2
end Go.Proofs.Ytfhgamaakkoplaa
namespace Go.Proofs.Ytfhgamaakkoplaa
namespace Gf2
set_option linter.unusedVariables false

-- the null vectors of the document's reduced, column by column
/-- x pivots lie ahead of column c. -/
def PxR (t : Nat) (P : Nat → Nat) (c x : Nat) : Prop := x ≤ t ∧ (∀ i, i < x → P i < c) ∧ ∀ i, x ≤ i → i < t → c ≤ P i
theorem PxR.start (t : Nat) (P : Nat → Nat) : PxR t P 0 0 := ⟨Nat.zero_le _, fun i hi => absurd hi (Nat.not_lt_zero _), fun _ _ _ => Nat.zero_le _⟩
theorem PxR.hit {t : Nat} {P : Nat → Nat} {c x : Nat} (h : PxR t P c x) (up : ∀ i k, i < k → k < t → P i < P k) (hx : x < t) (e : P x = c) : PxR t P (c + 1) (x + 1) :=
  ⟨hx, fun i hi => by
    by_cases e' : i = x
    · subst e'; omega
    · have := h.2.1 i (by omega); omega, fun i h1 h2 => by have := up x i (by omega) h2; omega⟩
theorem PxR.miss {t : Nat} {P : Nat → Nat} {c x : Nat} (h : PxR t P c x) (up : ∀ i k, i < k → k < t → P i < P k) (hx : x < t → P x ≠ c) : PxR t P (c + 1) x ∧ ∀ k, k < t → P k ≠ c := by
  have hlt : ∀ i, x ≤ i → i < t → c < P i := fun i h1 h2 => by
    have a := h.2.2 x (Nat.le_refl _) (by omega)
    have b := hx (by omega)
    by_cases e : i = x
    · subst e; omega
    · have := up x i (by omega) h2; omega
  refine ⟨⟨h.1, fun i hi => by have := h.2.1 i hi; omega, fun i h1 h2 => hlt i h1 h2⟩, fun k hk e => ?_⟩
  by_cases e2 : k < x
  · have := h.2.1 k e2; omega
  · have := hlt k (by omega) hk; omega
theorem PxR.far {t : Nat} {P : Nat → Nat} {f c x y : Nat} (hf : PxR t P f x) (hc : PxR t P c y) (up : ∀ i k, i < k → k < t → P i < P k) (hfree : ∀ k, k < t → P k ≠ f) (hlt : f < c) : f + y < c + x := by
  by_cases hxy : y ≤ x
  · omega
  · have cl : ∀ j, x + j < y → f + 1 + j ≤ P (x + j) := by
      intro j
      induction j with
      | zero => intro hj; have := hf.2.2 x (Nat.le_refl _) (by have := hc.1; omega); have := hfree x (by have := hc.1; omega); show f + 1 + 0 ≤ P x; omega
      | succ j ih => intro hj; have := ih (by omega); have := up (x + j) (x + (j + 1)) (by omega) (by have := hc.1; omega); omega
    have a := cl (y - 1 - x) (by omega)
    have b := hc.2.1 (x + (y - 1 - x)) (by omega)
    omega
theorem PxR.last {t : Nat} {P : Nat → Nat} {n x : Nat} (h : PxR t P n x) (hP : ∀ i, i < t → P i < n) : x = t := by
  apply Nat.le_antisymm h.1
  apply Nat.le_of_not_lt
  intro hlt
  have := h.2.2 x (Nat.le_refl _) hlt
  have := hP x hlt
  omega
/-- the vectors of the free columns ahead of c. -/
def NlR (t : Nat) (P : Nat → Nat) (M : Nat → Nat → Nat) (c : Nat) (S : Nat → Nat → Nat) : Prop := ∀ f x y, f < c → y + x = f → PxR t P f x → (∀ k, k < t → P k ≠ f) → S y = nvs P M f t
theorem NlR.start (t : Nat) (P : Nat → Nat) (M : Nat → Nat → Nat) (S : Nat → Nat → Nat) : NlR t P M 0 S := fun f _ _ hf => absurd hf (Nat.not_lt_zero _)
theorem NlR.hit {t : Nat} {P : Nat → Nat} {M : Nat → Nat → Nat} {c x : Nat} {S : Nat → Nat → Nat} (h : NlR t P M c S) (hx : x < t) (e : P x = c) : NlR t P M (c + 1) S := fun f a y h1 h2 h3 h4 => by
  by_cases e' : f = c
  · exact absurd e (e' ▸ h4 x hx)
  · exact h f a y (by omega) h2 h3 h4
theorem PxR.uniq {t : Nat} {P : Nat → Nat} {c x y : Nat} (h : PxR t P c x) (k : PxR t P c y) : x = y := by
  rcases Nat.lt_trichotomy x y with a | a | a
  · have := k.2.1 x a; have := h.2.2 x (Nat.le_refl _) (by have := k.1; omega); omega
  · exact a
  · have := h.2.1 y a; have := k.2.2 y (Nat.le_refl _) (by have := h.1; omega); omega
theorem NlR.miss {t : Nat} {P : Nat → Nat} {M : Nat → Nat → Nat} {c x k : Nat} {S : Nat → Nat → Nat} (h : NlR t P M c S) (up : ∀ i k, i < k → k < t → P i < P k) (hx : PxR t P c x) (hk : k + x = c) : NlR t P M (c + 1) (fun y => if y = k then nvs P M c t else S y) := fun f a y h1 h2 h3 h4 => by
  by_cases e' : f = c
  · subst e'
    have := h3.uniq hx
    subst this
    have : y = k := by omega
    subst this
    exact if_pos rfl
  · have := h3.far hx up h4 (by omega)
    have e9 : y ≠ k := by omega
    show (if y = k then nvs P M c t else S y) = _
    rw [if_neg e9]
    exact h f a y (by omega) h2 h3 h4

theorem nvs_rin {n k f : Nat} {R : Nat → Nat → Nat} {p : Nat → Nat} (h : Rdu n k R p) (hf : f < n) (hp : ∀ i, i < k → p i ≠ f) : Nul n k R (nvs p R f k) :=
  free_nul h hf hp (by rw [nvs_else k hp, if_pos rfl]) (fun i hi => nvs_at k (fun j hj e e2 => e (h.inj hj hi e2)) hi) (fun c hc e e2 => by rw [nvs_else k (fun i hi e3 => e2 i hi e3.symm), if_neg e])
theorem nvs_byt {n k f : Nat} {R : Nat → Nat → Nat} {p : Nat → Nat} (h : Rdu n k R p) (hf : f < n) : ∀ t, t ≤ k → ∀ c, nvs p R f t c < 256
  | 0, _, c => by unfold nvs; split <;> decide
  | t + 1, ht, c => by
    unfold nvs
    split
    · exact h.byt t f (by omega) hf
    · exact nvs_byt h hf t (by omega) c
end Gf2
end Go.Proofs.Ytfhgamaakkoplaa
