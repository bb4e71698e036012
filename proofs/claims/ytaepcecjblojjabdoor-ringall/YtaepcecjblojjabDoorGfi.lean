import Derived.Test.YtaepcecjblojjabDoorGfg
import Derived.Test.YtaepcecjblojjabDoorGfh
namespace Go.Proofs.YtaepcecjblojjabDoor
namespace Gf2

/-- one step of the elimination. -/
def stp (q c : Nat × Nat) : Nat × Nat := if q.1 / 2 ^ (len c.1 - 1) % 2 = 1 then (q.1 ^^^ c.1, q.2 ^^^ c.2) else q
def red (L : List (Nat × Nat)) (q : Nat × Nat) : Nat × Nat := L.foldl stp q
/-- what has been gathered behind i rounds. -/
def elim (a p : Nat) : Nat → List (Nat × Nat)
  | 0 => []
  | i + 1 => if (red (elim a p i) (pmod (mul (2 ^ i) a) p, 2 ^ i)).1 = 0 then elim a p i else elim a p i ++ [red (elim a p i) (pmod (mul (2 ^ i) a) p, 2 ^ i)]
def comb (a want p n : Nat) : Nat × Nat := red (elim a p n) (pmod want p, 0)

theorem red_snoc (L : List (Nat × Nat)) (c q : Nat × Nat) : red (L ++ [c]) q = stp (red L q) c := by simp [red, List.foldl_append]

/-- linear. -/
def add2 (q r : Nat × Nat) : Nat × Nat := (q.1 ^^^ r.1, q.2 ^^^ r.2)
theorem stp_add (q r c : Nat × Nat) : stp (add2 q r) c = add2 (stp q c) (stp r c) := by
  unfold stp add2
  simp only
  rw [bit_xor]
  rcases Nat.mod_two_eq_zero_or_one (q.1 / 2 ^ (len c.1 - 1)) with h1 | h1 <;> rcases Nat.mod_two_eq_zero_or_one (r.1 / 2 ^ (len c.1 - 1)) with h2 | h2
  · simp [h1, h2]
  · simp [h1, h2, Nat.xor_assoc]
  · simp only [h1, h2]
    rw [if_pos (by decide), if_pos trivial, if_neg (by decide)]
    exact Prod.ext (by simp only; ac_rfl) (by simp only; ac_rfl)
  · simp only [h1, h2]
    rw [if_neg (by decide), if_pos trivial, if_pos trivial]
    apply Prod.ext
    · simp only
      have : q.1 ^^^ c.1 ^^^ (r.1 ^^^ c.1) = q.1 ^^^ r.1 ^^^ (c.1 ^^^ c.1) := by ac_rfl
      rw [this, Nat.xor_self, Nat.xor_zero]
    · simp only
      have : q.2 ^^^ c.2 ^^^ (r.2 ^^^ c.2) = q.2 ^^^ r.2 ^^^ (c.2 ^^^ c.2) := by ac_rfl
      rw [this, Nat.xor_self, Nat.xor_zero]
theorem red_add (L : List (Nat × Nat)) : ∀ q r, red L (add2 q r) = add2 (red L q) (red L r) := by
  induction L with
  | nil => intros; rfl
  | cons c L ih => intro q r; simp only [red, List.foldl_cons]; rw [stp_add]; exact ih _ _

theorem stp_fst (q r c : Nat × Nat) (h : q.1 = r.1) : (stp q c).1 = (stp r c).1 := by
  unfold stp; rw [h]; split <;> simp [h]
theorem red_fst (L : List (Nat × Nat)) : ∀ q r, q.1 = r.1 → (red L q).1 = (red L r).1 := by
  induction L with
  | nil => intro q r h; exact h
  | cons c L ih => intro q r h; simp only [red, List.foldl_cons]; exact ih _ _ (stp_fst q r c h)

theorem bit_top_self {s : Nat} (h : s ≠ 0) : s / 2 ^ (len s - 1) % 2 = 1 := by
  have := len_pos.2 h
  rw [bit_eq, testBit_top (by omega)]; rfl
theorem stp_self {q c : Nat × Nat} (h : q.1 = c.1) (hc : c.1 ≠ 0) : (stp q c).1 = 0 := by
  unfold stp
  rw [h, if_pos (bit_top_self hc)]
  simp
theorem stp_zero {q c : Nat × Nat} (h : q.1 = 0) : (stp q c).1 = 0 := by
  unfold stp
  rw [h, if_neg (by simp)]
  exact h

/-- each pair belongs together. -/
def Fits (a p i : Nat) (q : Nat × Nat) : Prop := q.1 = pmod (mul q.2 a) p ∧ len q.2 ≤ i
theorem Fits.mono {a p i j : Nat} {q : Nat × Nat} (h : Fits a p i q) (hj : i ≤ j) : Fits a p j q := ⟨h.1, by have := h.2; omega⟩
theorem Fits.add {a p i : Nat} {q r : Nat × Nat} (hp : p ≠ 0) (hq : Fits a p i q) (hr : Fits a p i r) : Fits a p i (q.1 ^^^ r.1, q.2 ^^^ r.2) := by
  refine ⟨?_, len_xor_lt hq.2 hr.2⟩
  simp only
  rw [xor_mul, pmod_xor_dist _ _ hp, ← hq.1, ← hr.1]
theorem red_fits {a p i : Nat} (hp : p ≠ 0) : ∀ (L : List (Nat × Nat)) q, (∀ c ∈ L, Fits a p i c) → Fits a p i q → Fits a p i (red L q) := by
  intro L
  induction L with
  | nil => intro q _ h; exact h
  | cons c L ih =>
    intro q hL hq
    simp only [red, List.foldl_cons]
    apply ih _ (fun d hd => hL d (by simp [hd]))
    unfold stp
    split
    · exact hq.add hp (hL c (by simp))
    · exact hq
theorem elim_fits {a p : Nat} (hp : p ≠ 0) : ∀ i, ∀ c ∈ elim a p i, Fits a p i c ∧ c.1 ≠ 0 := by
  intro i
  induction i with
  | zero => intro c hc; simp [elim] at hc
  | succ i ih =>
    intro c hc
    simp only [elim] at hc
    split at hc
    · exact ⟨(ih c hc).1.mono (by omega), (ih c hc).2⟩
    · rename_i h0
      rcases List.mem_append.1 hc with h | h
      · exact ⟨(ih c h).1.mono (by omega), (ih c h).2⟩
      · simp at h
        subst h
        exact ⟨red_fits hp _ _ (fun d hd => ((ih d hd).1.mono (by omega))) ⟨rfl, by rw [len_two_pow]; omega⟩, h0⟩
theorem elim_length (a p : Nat) : ∀ i, (elim a p i).length ≤ i := by
  intro i
  induction i with
  | zero => simp [elim]
  | succ i ih =>
    simp only [elim]
    split
    · omega
    · simp; omega

/-- what has been gone through falls to 0. -/
theorem elim_kills {a p : Nat} : ∀ i t, t < i → (red (elim a p i) (pmod (mul (2 ^ t) a) p, 0)).1 = 0 := by
  intro i
  induction i with
  | zero => intro t h; omega
  | succ i ih =>
    intro t ht
    simp only [elim]
    by_cases h : t < i
    · split
      · exact ih t h
      · rw [red_snoc]; exact stp_zero (ih t h)
    · have : t = i := by omega
      subst this
      split
      · rename_i h0
        exact (red_fst _ (pmod (mul (2 ^ t) a) p, 0) (pmod (mul (2 ^ t) a) p, 2 ^ t) rfl).trans h0
      · rename_i h0
        rw [red_snoc]
        exact stp_self (red_fst _ _ _ rfl) h0

theorem elim_kills_all {a p : Nat} (hp : p ≠ 0) (n : Nat) : ∀ k u, k ≤ n → len u ≤ k → (red (elim a p n) (pmod (mul u a) p, 0)).1 = 0 := by
  intro k
  induction k with
  | zero =>
    intro u _ h
    have : u = 0 := len_eq_zero.1 (by omega)
    subst this
    rw [zero_mul, show pmod 0 p = 0 from pmod_small (by rw [len_zero]; exact len_pos.2 hp)]
    generalize elim a p n = L
    induction L with
    | nil => rfl
    | cons c L ih => simp only [red, List.foldl_cons]; rw [show stp (0, 0) c = (0, 0) by simp [stp]]; exact ih
  | succ k ih =>
    intro u hk hu
    by_cases h : len u ≤ k
    · exact ih u (by omega) h
    · have e : u = 2 ^ k ^^^ (u ^^^ 2 ^ k) := by
        rw [Nat.xor_comm u, ← Nat.xor_assoc, Nat.xor_self, Nat.zero_xor]
      have hl : len (u ^^^ 2 ^ k) ≤ k := by
        have := len_xor_eq (a := u) (b := 2 ^ k) (by rw [len_two_pow]; omega) (by have := Nat.two_pow_pos k; omega)
        rw [len_two_pow] at this; omega
      have h1 := elim_kills (a := a) (p := p) n k (by omega)
      have h2 := ih (u ^^^ 2 ^ k) (by omega) hl
      have e2 : (pmod (mul u a) p, 0) = add2 (pmod (mul (2 ^ k) a) p, 0) (pmod (mul (u ^^^ 2 ^ k) a) p, 0) := by
        unfold add2
        simp only [Nat.xor_self]
        rw [← pmod_xor_dist _ _ hp, ← xor_mul, ← e]
      rw [e2, red_add]
      unfold add2
      simp only
      rw [h1, h2]; rfl

theorem comb_fits {a want p n : Nat} (hp : p ≠ 0) : (comb a want p n).1 ^^^ pmod want p = pmod (mul (comb a want p n).2 a) p ∧ len (comb a want p n).2 ≤ n := by
  have h1 : add2 (pmod want p, 0) (0, 0) = (pmod want p, 0) := by simp [add2]
  -- red L (v, 0) and red of nothing differ by a pair that fits
  have key : ∀ (L : List (Nat × Nat)) (v u : Nat), (∀ c ∈ L, Fits a p n c) → Fits a p n (v ^^^ pmod want p, u) → Fits a p n ((red L (v, u)).1 ^^^ pmod want p, (red L (v, u)).2) := by
    intro L
    induction L with
    | nil => intro v u _ h; exact h
    | cons c L ih =>
      intro v u hL h
      simp only [red, List.foldl_cons]
      unfold stp
      split
      · apply ih _ _ (fun d hd => hL d (by simp [hd]))
        have := h.add hp (hL c (by simp))
        simp only at this
        have e : v ^^^ c.1 ^^^ pmod want p = v ^^^ pmod want p ^^^ c.1 := by ac_rfl
        rw [e]; exact this
      · exact ih _ _ (fun d hd => hL d (by simp [hd])) h
  have h := key (elim a p n) (pmod want p) 0 (fun c hc => (elim_fits hp n c hc).1) ⟨by simp only [Nat.xor_self]; rw [zero_mul, pmod_small (by rw [len_zero]; exact len_pos.2 hp)], by rw [len_zero]; omega⟩
  exact ⟨h.1, h.2⟩

theorem comb_solves {a want p n : Nat} (hp : p ≠ 0) (h : (comb a want p n).1 = 0) : pmod (mul (comb a want p n).2 a) p = pmod want p := by
  have := (comb_fits (a := a) (want := want) (n := n) hp).1
  rw [h, Nat.zero_xor] at this
  exact this.symm
theorem comb_finds {a want p n u : Nat} (hp : p ≠ 0) (hu : len u ≤ n) (h : pmod (mul u a) p = pmod want p) : (comb a want p n).1 = 0 := by
  unfold comb
  rw [← h]
  exact elim_kills_all hp n n u (Nat.le_refl _) hu

/-- the cofactor is the only one of its length. -/
theorem cof_unique {a b u : Nat} (hb : b ≠ 0) (h64 : len b ≤ 64) (hl : len u + len (pgcd a b) ≤ len b) (h : dv b (mul u a ^^^ pgcd a b)) : u = cof a b := by
  obtain ⟨-, c1, c2⟩ := cof_spec (a := a) hb h64
  have hg0 : pgcd a b ≠ 0 := pgcd_ne_zero (Or.inr hb)
  obtain ⟨⟨x, hx⟩, ⟨y, hy⟩⟩ := pgcd_dv a b
  have hy0 : y ≠ 0 := by rintro rfl; rw [zero_mul] at hy; exact hb hy
  have h1 := dv_xor h c2
  have e : mul u a ^^^ pgcd a b ^^^ (mul (cof a b) a ^^^ pgcd a b) = mul (u ^^^ cof a b) a ^^^ (pgcd a b ^^^ pgcd a b) := by rw [xor_mul]; ac_rfl
  rw [e, Nat.xor_self, Nat.xor_zero] at h1
  obtain ⟨z, hz⟩ := h1
  have hlen : len b = len y + len (pgcd a b) - 1 := by
    have := len_mul hy0 hg0
    rw [← hy] at this; exact this
  generalize hg : pgcd a b = g at *
  -- (u + cof) * x = z * y
  have h2 : mul (u ^^^ cof a b) x = mul z y := by
    apply mul_right_cancel hg0
    rw [mul_assoc, mul_assoc, ← hx, ← hy]; exact hz
  have hxy : pgcd x y = 1 := by
    have := pgcd_mul hg0 x y
    rw [← hx, ← hy, hg] at this
    have h3 : mul 1 g = mul (pgcd x y) g := by rw [one_mul]; exact this
    exact (mul_right_cancel hg0 h3).symm
  have hy64 : len y ≤ 64 := by have := len_pos.2 hg0; omega
  have h4 : dv y (mul x (u ^^^ cof a b) ^^^ mul x 0) := by
    rw [mul_zero, Nat.xor_zero, mul_comm]; exact ⟨z, h2⟩
  have h5 := cancel hy0 hy64 hxy h4
  rw [Nat.xor_zero] at h5
  by_cases hz0 : u ^^^ cof a b = 0
  · exact xor_eq_zero hz0
  · exfalso
    have h6 := (dv_len h5 hz0).2
    have h7 := len_xor_le u (cof a b)
    have := len_pos.2 hg0
    omega

end Gf2
end Go.Proofs.YtaepcecjblojjabDoor
