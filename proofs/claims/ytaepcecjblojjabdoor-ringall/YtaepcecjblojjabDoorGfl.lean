
namespace Go.Proofs.YtaepcecjblojjabDoor
namespace Gf2

/-! texts, as lists of numbers -/
def dec (e : Nat) : List Nat := if e < 10 then [48 + e] else [48 + e / 10, 48 + e % 10]
def trm (e : Nat) : List Nat := if e = 0 then [49] else if e = 1 then [120] else 120 :: 94 :: dec e
def tl : List Nat → List Nat
  | [] => []
  | [e] => trm e
  | e :: f :: es => trm e ++ 43 :: tl (f :: es)
/-- falling exponents below i. -/
def Desc : Nat → List Nat → Prop
  | _, [] => True
  | i, e :: es => e < i ∧ Desc e es
def val : List Nat → Nat
  | [] => 0
  | e :: es => 2 ^ e + val es

theorem Desc.mono {es : List Nat} {i j : Nat} (h : Desc i es) (hij : i ≤ j) : Desc j es := by
  cases es with
  | nil => trivial
  | cons e es => exact ⟨by have := h.1; omega, h.2⟩

theorem val_lt : ∀ (es : List Nat) (i : Nat), Desc i es → val es < 2 ^ i := by
  intro es
  induction es with
  | nil => intro i _; exact Nat.two_pow_pos i
  | cons e es ih =>
    intro i h
    have h1 := ih e h.2
    have h2 : 2 ^ (e + 1) ≤ 2 ^ i := Nat.pow_le_pow_right (by omega) h.1
    rw [Nat.pow_succ] at h2
    simp only [val]; omega

theorem trm_ne (e : Nat) : trm e ≠ [] := by
  unfold trm; split
  · simp
  · split <;> simp
theorem dec_no {e x : Nat} (he : e < 100) (h : x ∈ dec e) : x ≠ 43 := by
  unfold dec at h
  split at h
  · simp at h; omega
  · simp at h; omega
theorem trm_no {e x : Nat} (he : e < 100) (h : x ∈ trm e) : x ≠ 43 := by
  unfold trm at h
  split at h
  · simp at h; omega
  · split at h
    · simp at h; omega
    · simp at h
      rcases h with h | h | h
      · omega
      · omega
      · exact dec_no he h
theorem trm_inj {e f : Nat} (he : e < 64) (hf : f < 64) (h : trm e = trm f) : e = f := by
  have key : ∀ e f : Fin 64, trm e.val = trm f.val → e = f := by decide +kernel
  have := key ⟨e, he⟩ ⟨f, hf⟩ h
  simpa using this

/-! the document's parser -/
/-- the rest behind a term, if it is there whole: 'none': it isn't. -/
def cutT (t r : List Nat) : Option (List Nat) := if t.isPrefixOf r then some (r.drop t.length) else none
def refP : Nat → List Nat → Nat → Option Nat
  | 0, r, n => if r = [] then some n else none
  | i + 1, r, n =>
    if (trm i).isPrefixOf r = true ∧ (r.drop (trm i).length = [] ∨ (r.drop (trm i).length).head? = some 43) then
      (if r.drop (trm i).length = [] then refP i [] (2 * n + 1)
       else if (r.drop (trm i).length).tail = [] then none else refP i (r.drop (trm i).length).tail (2 * n + 1))
    else refP i r (2 * n)

theorem seg_of {t r : List Nat} (ht : ∀ x ∈ t, x ≠ 43) (hr : r = [] ∨ r.head? = some 43) : (t ++ r).takeWhile (fun x => decide (x ≠ 43)) = t := by
  rw [List.takeWhile_append_of_pos (by simpa using ht)]
  rcases hr with rfl | hr
  · simp
  · cases r with
    | nil => simp at hr
    | cons x r => simp at hr; subst hr; simp

theorem refP_sound : ∀ (i : Nat) (r : List Nat) (n v : Nat), i ≤ 64 → refP i r n = some v → ∃ es, Desc i es ∧ r = tl es ∧ v = n * 2 ^ i + val es := by
  intro i
  induction i with
  | zero =>
    intro r n v _ h
    simp only [refP] at h
    split at h
    · rename_i h0; subst h0
      simp at h; subst h
      exact ⟨[], trivial, rfl, by simp [val]⟩
    · cases h
  | succ i ih =>
    intro r n v hi h
    simp only [refP] at h
    split at h
    · rename_i hc
      obtain ⟨hp, hh⟩ := hc
      obtain ⟨q, rfl⟩ := List.isPrefixOf_iff_prefix.1 hp
      rw [List.drop_left] at h hh
      split at h
      · rename_i hq
        subst hq
        obtain ⟨es, h1, h2, h3⟩ := ih [] (2 * n + 1) v (by omega) h
        have : es = [] := by
          cases es with
          | nil => rfl
          | cons e es =>
            exfalso
            cases es with
            | nil => exact trm_ne e h2.symm
            | cons f es => simp [tl] at h2
        subst this
        refine ⟨[i], ⟨by omega, trivial⟩, by simp [tl], ?_⟩
        simp only [val] at h3 ⊢
        rw [h3, Nat.pow_succ, Nat.add_mul, Nat.mul_comm 2 n, Nat.mul_assoc, Nat.mul_comm 2 (2 ^ i)]; omega
      · rename_i hq
        split at h
        · cases h
        · rename_i ht
          obtain ⟨es, h1, h2, h3⟩ := ih _ (2 * n + 1) v (by omega) h
          cases es with
          | nil => exact absurd h2 ht
          | cons e es =>
            refine ⟨i :: e :: es, ⟨by omega, h1⟩, ?_, ?_⟩
            · simp only [tl]
              rw [← h2]
              cases q with
              | nil => exact absurd rfl hq
              | cons x q =>
                have hx : x = 43 := by simpa using hh
                rw [hx]; rfl
            · simp only [val] at h3 ⊢
              rw [h3, Nat.pow_succ, Nat.add_mul, Nat.mul_comm 2 n, Nat.mul_assoc, Nat.mul_comm 2 (2 ^ i)]; omega
    · obtain ⟨es, h1, h2, h3⟩ := ih r (2 * n) v (by omega) h
      refine ⟨es, h1.mono (by omega), h2, ?_⟩
      rw [h3, Nat.pow_succ, Nat.mul_comm 2 n, Nat.mul_assoc, Nat.mul_comm 2 (2 ^ i)]

theorem tl_form (e : Nat) (es : List Nat) : ∃ r, tl (e :: es) = trm e ++ r ∧ (r = [] ∨ r.head? = some 43) ∧ (es = [] → r = []) ∧ (∀ f fs, es = f :: fs → r = 43 :: tl es) := by
  cases es with
  | nil => exact ⟨[], by simp [tl], Or.inl rfl, fun _ => rfl, fun f fs h => (by cases h)⟩
  | cons f fs => exact ⟨43 :: tl (f :: fs), rfl, Or.inr rfl, fun h => (by cases h), fun _ _ _ => rfl⟩
theorem tl_ne (e : Nat) (es : List Nat) : tl (e :: es) ≠ [] := by
  obtain ⟨r, h, -⟩ := tl_form e es
  rw [h]
  intro h2
  exact trm_ne e (List.append_eq_nil_iff.1 h2).1

theorem refP_complete : ∀ (i : Nat) (es : List Nat) (n : Nat), i ≤ 64 → Desc i es → refP i (tl es) n = some (n * 2 ^ i + val es) := by
  intro i
  induction i with
  | zero =>
    intro es n _ h
    cases es with
    | nil => simp [refP, tl, val]
    | cons e es => exact absurd h.1 (by omega)
  | succ i ih =>
    intro es n hi h
    have ar : ∀ v, (2 * n) * 2 ^ i + v = n * 2 ^ (i + 1) + v := by
      intro v; rw [Nat.pow_succ, Nat.mul_comm 2 n, Nat.mul_assoc, Nat.mul_comm 2 (2 ^ i)]
    have ar1 : ∀ v, (2 * n + 1) * 2 ^ i + v = n * 2 ^ (i + 1) + (2 ^ i + v) := by
      intro v; rw [Nat.add_mul, Nat.pow_succ, Nat.mul_comm 2 n, Nat.mul_assoc, Nat.mul_comm 2 (2 ^ i)]; omega
    cases es with
    | nil =>
      rw [show tl [] = [] from rfl]
      simp only [refP]
      rw [if_neg]
      · have := ih [] (2 * n) (by omega) trivial
        simp only [tl] at this
        rw [this, ar]
      · rintro ⟨h1, -⟩
        obtain ⟨q, hq⟩ := List.isPrefixOf_iff_prefix.1 h1
        exact trm_ne i (List.append_eq_nil_iff.1 hq).1
    | cons e es =>
      obtain ⟨r, h1, h2, h3, h4⟩ := tl_form e es
      by_cases hei : e = i
      · subst hei
        simp only [refP]
        rw [h1, List.drop_left, if_pos ⟨List.isPrefixOf_iff_prefix.2 ⟨r, rfl⟩, h2⟩]
        cases es with
        | nil =>
          rw [h3 rfl, if_pos rfl]
          have := ih [] (2 * n + 1) (by omega) trivial
          simp only [tl] at this
          rw [this, ar1]; rfl
        | cons f fs =>
          rw [h4 f fs rfl, if_neg (by simp), List.tail_cons, if_neg (tl_ne f fs), ih (f :: fs) (2 * n + 1) (by omega) h.2, ar1]
          rfl
      · simp only [refP]
        rw [if_neg]
        · rw [ih (e :: es) (2 * n) (by omega) ⟨by have := h.1; omega, h.2⟩, ar]
        · rintro ⟨g1, g2⟩
          obtain ⟨q, hq⟩ := List.isPrefixOf_iff_prefix.1 g1
          rw [← hq, List.drop_left] at g2
          have s1 := seg_of (t := trm i) (r := q) (fun x hx => trm_no (by omega) hx) g2
          have s2 := seg_of (t := trm e) (r := r) (fun x hx => trm_no (by have := h.1; omega) hx) h2
          rw [hq, h1, s2] at s1
          exact hei (trm_inj (by have := h.1; omega) (by omega) s1)

/-! the program's reader -/
/-- the exponents of what has been read; the place in a term; its exponent so far. -/
structure St where
  poly : Nat
  place : Nat
  exp : Nat

def tz (p : Nat) : Nat → Nat
  | 0 => 64
  | f + 1 => if p / 2 ^ (63 - f) % 2 = 1 then 63 - f else tz p f
/-- how many noughts at the end; 64 of 0. -/
def tz64 (p : Nat) : Nat := tz p 64

def endT (s : St) : Option St :=
  if (s.place = 1 ∨ s.place = 2 ∨ (s.place = 4 ∧ 2 ≤ s.exp)) ∧ s.exp < tz64 s.poly then some ⟨s.poly ||| 2 ^ s.exp, 0, s.exp⟩ else none
def take1 (s : St) (c : Nat) : Option St :=
  if c = 43 then endT s
  else if s.place = 0 ∧ c = 49 then some ⟨s.poly, 1, 0⟩
  else if s.place = 0 ∧ c = 120 then some ⟨s.poly, 2, 1⟩
  else if s.place = 2 ∧ c = 94 then some ⟨s.poly, 3, 0⟩
  else if (s.place = 3 ∧ 49 ≤ c ∧ c ≤ 57) ∨ (s.place = 4 ∧ 48 ≤ c ∧ c ≤ 57) then (if 10 * s.exp + (c - 48) ≤ 63 then some ⟨s.poly, 4, 10 * s.exp + (c - 48)⟩ else none)
  else none
def runR : List Nat → St → Option St
  | [], s => some s
  | c :: cs, s => (take1 s c).bind (runR cs)
def progP (r : List Nat) : Option Nat := ((runR r ⟨0, 0, 0⟩).bind endT).map (·.poly)

theorem runR_append (a b : List Nat) : ∀ s, runR (a ++ b) s = (runR a s).bind (runR b) := by
  induction a with
  | nil => intro s; rfl
  | cons c a ih =>
    intro s
    simp only [List.cons_append, runR]
    cases take1 s c with
    | none => rfl
    | some t => exact ih t


theorem tz_spec (p : Nat) : ∀ f, f ≤ 64 → (∀ i, 64 - f ≤ i → i < 64 → p / 2 ^ i % 2 = 0) → tz p f = 64 := by
  intro f
  induction f with
  | zero => intros; rfl
  | succ f ih =>
    intro hf h
    simp only [tz]
    rw [if_neg (by rw [h (63 - f) (by omega) (by omega)]; decide), ih (by omega) (fun i h1 h2 => h i (by omega) h2)]
theorem tz_at (p e : Nat) (he : e < 64) (hb : p / 2 ^ e % 2 = 1) (hl : ∀ i, i < e → p / 2 ^ i % 2 = 0) : ∀ f, 64 - e ≤ f → f ≤ 64 → tz p f = e := by
  intro f
  induction f with
  | zero => intro h; omega
  | succ f ih =>
    intro h1 h2
    simp only [tz]
    by_cases h3 : 63 - f = e
    · rw [h3, if_pos hb]
    · rw [if_neg (by rw [hl (63 - f) (by omega)]; decide)]
      exact ih (by omega) (by omega)
theorem tz64_zero : tz64 0 = 64 := tz_spec 0 64 (by omega) (fun i _ _ => by simp)

/-- every exponent above e. -/
def Above (e : Nat) (es : List Nat) : Prop := ∀ f ∈ es, e < f
theorem Above.dvd {e : Nat} : ∀ {es : List Nat}, Above e es → ∃ q, val es = 2 ^ (e + 1) * q := by
  intro es
  induction es with
  | nil => intro _; exact ⟨0, by simp [val]⟩
  | cons f es ih =>
    intro h
    obtain ⟨q, hq⟩ := ih (fun g hg => h g (by simp [hg]))
    have hf := h f (by simp)
    refine ⟨2 ^ (f - (e + 1)) + q, ?_⟩
    simp only [val]
    rw [hq, Nat.mul_add, ← Nat.pow_add, show e + 1 + (f - (e + 1)) = f by omega]

theorem val_snoc (es : List Nat) (e : Nat) : val (es ++ [e]) = val es + 2 ^ e := by
  induction es with
  | nil => simp [val]
  | cons f es ih => simp only [List.cons_append, val, ih]; omega

theorem bit_mul (q e i : Nat) (h : i < e) : (2 ^ e * q) / 2 ^ i % 2 = 0 := by
  obtain ⟨s, rfl⟩ : ∃ s, e = i + 1 + s := ⟨e - i - 1, by omega⟩
  rw [Nat.pow_add, Nat.pow_succ, Nat.mul_assoc, Nat.mul_assoc, Nat.mul_div_cancel_left _ (Nat.two_pow_pos i)]
  omega
theorem tz_snoc {es : List Nat} {e : Nat} (h : Above e es) (he : e < 64) : tz64 (val (es ++ [e])) = e := by
  obtain ⟨q, hq⟩ := h.dvd
  rw [val_snoc, hq]
  have e1 : 2 ^ (e + 1) * q + 2 ^ e = 2 ^ e * (2 * q + 1) := by rw [Nat.pow_succ, Nat.mul_add, Nat.mul_assoc]; omega
  rw [e1]
  apply tz_at _ _ he
  · rw [Nat.mul_div_cancel_left _ (Nat.two_pow_pos e)]; omega
  · intro i hi; exact bit_mul _ _ _ hi
  · omega
  · omega
theorem or_snoc {es : List Nat} {e : Nat} (h : Above e es) : val es ||| 2 ^ e = val (es ++ [e]) := by
  obtain ⟨q, hq⟩ := h.dvd
  rw [val_snoc, hq]
  have := Nat.two_pow_add_eq_or_of_lt (i := e + 1) (b := 2 ^ e) (by rw [Nat.pow_succ]; have := Nat.two_pow_pos e; omega) q
  rw [this]

/-- falling, below 64. -/
theorem desc_snoc : ∀ {es : List Nat} {i e : Nat}, Desc i es → e < i → Above e es → Desc i (es ++ [e]) := by
  intro es
  induction es with
  | nil => intro i e _ h _; exact ⟨h, trivial⟩
  | cons f es ih => intro i e h1 h2 h3; exact ⟨h1.1, ih h1.2 (h3 f (by simp)) (fun g hg => h3 g (by simp [hg]))⟩

/-- the last exponent is the number of noughts. -/
theorem above_of_tz {es : List Nat} {e : Nat} (hd : Desc 64 es) (h : e < tz64 (val es)) : Above e es := by
  suffices H : ∀ (es : List Nat) (i : Nat), i ≤ 64 → Desc i es → ∀ pre, Desc 64 (pre ++ es) → e < tz64 (val (pre ++ es)) → Above e es by
    exact H es 64 (Nat.le_refl _) hd [] hd h
  intro es
  induction es with
  | nil => intro i _ _ pre _ _ f hf; cases hf
  | cons f es ih =>
    intro i hi h1 pre h2 h3
    have key : Above e es := ih f (by have := h1.1; omega) h1.2 (pre ++ [f]) (by simpa using h2) (by simpa using h3)
    intro g hg
    rcases List.mem_cons.1 hg with rfl | hg
    · cases es with
      | nil =>
        have hab : Above g pre := by
          intro x hx
          have : ∀ (l : List Nat) (i : Nat), Desc i (l ++ [g]) → ∀ y ∈ l, g < y := by
            intro l
            induction l with
            | nil => intro i _ y hy; cases hy
            | cons z l ihl =>
              intro i hz y hy
              rcases List.mem_cons.1 hy with rfl | hy
              · cases l with
                | nil => exact hz.2.1
                | cons z2 l => have := ihl _ hz.2 z2 (by simp); have := hz.2.1; omega
              · exact ihl _ hz.2 y hy
          exact this pre 64 h2 x hx
        rw [tz_snoc hab (by have := h1.1; omega)] at h3
        exact h3
      | cons f2 es =>
        have := key f2 (by simp)
        have := h1.2.1
        omega
    · exact key g hg


def pre (es : List Nat) : List Nat := if es = [] then [] else tl es ++ [43]

theorem tl_snoc : ∀ (es : List Nat) (e : Nat), tl (es ++ [e]) = pre es ++ trm e := by
  intro es
  induction es with
  | nil => intro e; simp [pre, tl]
  | cons f es ih =>
    intro e
    cases es with
    | nil => simp [pre, tl]
    | cons g es =>
      have := ih e
      simp only [List.cons_append] at this ⊢
      simp only [tl]
      rw [this]
      simp [pre, tl]

/-- where in a term. -/
def Part (place exp : Nat) (prt : List Nat) : Prop :=
  (place = 0 ∧ prt = []) ∨ (place = 1 ∧ exp = 0 ∧ prt = [49]) ∨ (place = 2 ∧ exp = 1 ∧ prt = [120]) ∨ (place = 3 ∧ exp = 0 ∧ prt = [120, 94]) ∨ (place = 4 ∧ 1 ≤ exp ∧ exp ≤ 63 ∧ prt = 120 :: 94 :: dec exp)
def RelS (u : List Nat) (s : St) : Prop := ∃ es prt, Desc 64 es ∧ s.poly = val es ∧ u = pre es ++ prt ∧ Part s.place s.exp prt

theorem endT_sound {u : List Nat} {s t : St} (h : RelS u s) (he : endT s = some t) : ∃ es, es ≠ [] ∧ Desc 64 es ∧ u = tl es ∧ t.poly = val es ∧ t.place = 0 := by
  obtain ⟨es, prt, h1, h2, h3, h4⟩ := h
  unfold endT at he
  split at he
  · rename_i hc
    obtain ⟨hw, hz⟩ := hc
    simp at he
    subst he
    rw [h2] at hz
    have hab := above_of_tz h1 hz
    have hp : prt = trm s.exp ∧ s.exp < 64 := by
      rcases h4 with ⟨a, b⟩ | ⟨a, b, c⟩ | ⟨a, b, c⟩ | ⟨a, b, c⟩ | ⟨a, b, b', c⟩
      · omega
      · rw [b, c]; exact ⟨rfl, by decide⟩
      · rw [b, c]; exact ⟨rfl, by decide⟩
      · omega
      · have : 2 ≤ s.exp := by omega
        refine ⟨?_, by omega⟩
        unfold trm
        rw [if_neg (by omega), if_neg (by omega), c]
    refine ⟨es ++ [s.exp], by simp, desc_snoc h1 hp.2 hab, ?_, ?_, rfl⟩
    · rw [h3, hp.1, tl_snoc]
    · simp only; rw [h2, or_snoc hab]
  · cases he

theorem take_sound {u : List Nat} {s t : St} {c : Nat} (h : RelS u s) (hc : take1 s c = some t) : RelS (u ++ [c]) t := by
  unfold take1 at hc
  split at hc
  · rename_i h43
    obtain ⟨es, e1, e2, e3, e4, e5⟩ := endT_sound h hc
    refine ⟨es, [], e2, e4, ?_, Or.inl ⟨e5, rfl⟩⟩
    rw [e3, h43]; simp [pre, e1]
  · obtain ⟨es, prt, h1, h2, h3, h4⟩ := h
    split at hc
    · rename_i hh; simp at hc; subst hc
      rcases h4 with ⟨a, b⟩ | ⟨a, b, d⟩ | ⟨a, b, d⟩ | ⟨a, b, d⟩ | ⟨a, b, b', d⟩ <;> try omega
      exact ⟨es, [49], h1, h2, by rw [h3, b, hh.2]; simp, Or.inr (Or.inl ⟨rfl, rfl, rfl⟩)⟩
    · split at hc
      · rename_i hh; simp at hc; subst hc
        rcases h4 with ⟨a, b⟩ | ⟨a, b, d⟩ | ⟨a, b, d⟩ | ⟨a, b, d⟩ | ⟨a, b, b', d⟩ <;> try omega
        exact ⟨es, [120], h1, h2, by rw [h3, b, hh.2]; simp, Or.inr (Or.inr (Or.inl ⟨rfl, rfl, rfl⟩))⟩
      · split at hc
        · rename_i hh; simp at hc; subst hc
          rcases h4 with ⟨a, b⟩ | ⟨a, b, d⟩ | ⟨a, b, d⟩ | ⟨a, b, d⟩ | ⟨a, b, b', d⟩ <;> try omega
          exact ⟨es, [120, 94], h1, h2, by rw [h3, d, hh.2]; simp, Or.inr (Or.inr (Or.inr (Or.inl ⟨rfl, rfl, rfl⟩)))⟩
        · split at hc
          · rename_i hh
            split at hc
            · rename_i h63
              simp at hc; subst hc
              refine ⟨es, 120 :: 94 :: dec (10 * s.exp + (c - 48)), h1, h2, ?_, Or.inr (Or.inr (Or.inr (Or.inr ⟨rfl, ?_, h63, rfl⟩)))⟩
              · rw [h3]
                rcases h4 with ⟨a, b⟩ | ⟨a, b, d⟩ | ⟨a, b, d⟩ | ⟨a, b, d⟩ | ⟨a, b, b', d⟩ <;> try omega
                · rw [d, b, List.append_assoc]
                  have e : dec (10 * 0 + (c - 48)) = [c] := by
                    unfold dec; rw [if_pos (by omega)]; congr 1; omega
                  rw [e]; rfl
                · rw [d, List.append_assoc]
                  have e : dec (10 * s.exp + (c - 48)) = dec s.exp ++ [c] := by
                    unfold dec
                    rw [if_neg (by omega), if_pos (by omega)]
                    simp only [List.cons_append, List.nil_append]
                    congr 1
                    · omega
                    · congr 1; omega
                  rw [e]; rfl
              · simp only; rcases hh with hh | hh
                · omega
                · rcases h4 with ⟨a, b⟩ | ⟨a, b, d⟩ | ⟨a, b, d⟩ | ⟨a, b, d⟩ | ⟨a, b, b', d⟩ <;> omega
            · cases hc
          · cases hc

theorem runR_sound : ∀ (r u : List Nat) (s t : St), RelS u s → runR r s = some t → RelS (u ++ r) t := by
  intro r
  induction r with
  | nil => intro u s t h hr; simp [runR] at hr; subst hr; simpa using h
  | cons c r ih =>
    intro u s t h hr
    simp only [runR] at hr
    cases hc : take1 s c with
    | none => rw [hc] at hr; cases hr
    | some s2 =>
      rw [hc] at hr
      have := ih (u ++ [c]) s2 t (take_sound h hc) hr
      simpa using this

theorem progP_sound {r : List Nat} {v : Nat} (h : progP r = some v) : ∃ es, es ≠ [] ∧ Desc 64 es ∧ r = tl es ∧ v = val es := by
  unfold progP at h
  cases hr : runR r ⟨0, 0, 0⟩ with
  | none => rw [hr] at h; cases h
  | some s =>
    rw [hr] at h
    simp only [Option.bind_some] at h
    cases he : endT s with
    | none => rw [he] at h; cases h
    | some t =>
      rw [he] at h
      simp at h
      have h0 : RelS [] ⟨0, 0, 0⟩ := ⟨[], [], trivial, rfl, by simp [pre], Or.inl ⟨rfl, rfl⟩⟩
      have h1 := runR_sound r [] _ _ h0 hr
      obtain ⟨es, e1, e2, e3, e4, -⟩ := endT_sound h1 he
      exact ⟨es, e1, e2, by simpa using e3, by rw [← h, e4]⟩

def placeOf (e : Nat) : Nat := if e = 0 then 1 else if e = 1 then 2 else 4

theorem feed (q x e : Nat) (he : e < 64) : runR (trm e) ⟨q, 0, x⟩ = some ⟨q, placeOf e, e⟩ := by
  unfold trm placeOf
  by_cases h0 : e = 0
  · subst h0; rfl
  · by_cases h1 : e = 1
    · subst h1; rfl
    · rw [if_neg h0, if_neg h1, if_neg h0, if_neg h1]
      unfold dec
      have s1 : take1 ⟨q, 0, x⟩ 120 = some ⟨q, 2, 1⟩ := by unfold take1; rfl
      have s2 : take1 ⟨q, 2, 1⟩ 94 = some ⟨q, 3, 0⟩ := by unfold take1; rfl
      by_cases h10 : e < 10
      · rw [if_pos h10]
        have s3 : take1 ⟨q, 3, 0⟩ (48 + e) = some ⟨q, 4, e⟩ := by
          unfold take1
          simp only
          rw [if_neg (by omega), if_neg (by omega), if_neg (by omega), if_neg (by omega), if_pos (by first | (left; exact ⟨by trivial, by omega, by omega⟩) | (right; exact ⟨by trivial, by omega, by omega⟩)), if_pos (by omega)]
          congr 2; omega
        simp [runR, s1, s2, s3]
      · rw [if_neg h10]
        have s3 : take1 ⟨q, 3, 0⟩ (48 + e / 10) = some ⟨q, 4, e / 10⟩ := by
          unfold take1
          simp only
          rw [if_neg (by omega), if_neg (by omega), if_neg (by omega), if_neg (by omega), if_pos (by first | (left; exact ⟨by trivial, by omega, by omega⟩) | (right; exact ⟨by trivial, by omega, by omega⟩)), if_pos (by omega)]
          congr 2; omega
        have s4 : take1 ⟨q, 4, e / 10⟩ (48 + e % 10) = some ⟨q, 4, e⟩ := by
          unfold take1
          simp only
          rw [if_neg (by omega), if_neg (by omega), if_neg (by omega), if_neg (by omega), if_pos (by first | (left; exact ⟨by trivial, by omega, by omega⟩) | (right; exact ⟨by trivial, by omega, by omega⟩)), if_pos (by omega)]
          congr 2; omega
        simp [runR, s1, s2, s3, s4]

theorem endT_at {q e : Nat} (h : e < tz64 q) : endT ⟨q, placeOf e, e⟩ = some ⟨q ||| 2 ^ e, 0, e⟩ := by
  unfold endT placeOf
  simp only
  rw [if_pos]
  refine ⟨?_, h⟩
  by_cases h0 : e = 0
  · simp [h0]
  · by_cases h1 : e = 1
    · simp [h1]
    · simp [h0, h1]; omega

theorem prog_from : ∀ (es ps : List Nat) (x : Nat), es ≠ [] → Desc 64 (ps ++ es) → (∀ e ∈ es, e < tz64 (val ps)) → ∃ t, (runR (tl es) ⟨val ps, 0, x⟩).bind endT = some t ∧ t.poly = val (ps ++ es) := by
  intro es
  induction es with
  | nil => intro ps x h; exact absurd rfl h
  | cons e es ih =>
    intro ps x _ hd hz
    have hdp : Desc 64 ps := by
      have : ∀ (l m : List Nat) (i : Nat), Desc i (l ++ m) → Desc i l := by
        intro l
        induction l with
        | nil => intros; trivial
        | cons y l ihl => intro m i h; exact ⟨h.1, ihl m _ h.2⟩
      exact this ps _ 64 hd
    have hab : Above e ps := above_of_tz hdp (hz e (by simp))
    have he64 : e < 64 := by
      have : ∀ (l : List Nat) (i : Nat), i ≤ 64 → Desc i (l ++ e :: es) → e < 64 := by
        intro l
        induction l with
        | nil => intro i hi h; have := h.1; omega
        | cons y l ihl => intro i hi h; exact ihl y (by have := h.1; omega) h.2
      exact this ps 64 (Nat.le_refl _) hd
    cases es with
    | nil =>
      simp only [tl]
      rw [feed _ _ _ he64]
      simp only [Option.bind_some]
      rw [endT_at (hz e (by simp))]
      exact ⟨_, rfl, by simp only; rw [or_snoc hab]⟩
    | cons f fs =>
      simp only [tl]
      rw [runR_append, feed _ _ _ he64]
      simp only [Option.bind_some, runR]
      have s43 : take1 ⟨val ps, placeOf e, e⟩ 43 = some ⟨val (ps ++ [e]), 0, e⟩ := by
        unfold take1
        rw [if_pos rfl, endT_at (hz e (by simp)), or_snoc hab]
      rw [s43]
      simp only [Option.bind_some]
      have hd2 : Desc 64 ((ps ++ [e]) ++ (f :: fs)) := by simpa using hd
      obtain ⟨t, t1, t2⟩ := ih (ps ++ [e]) e (by simp) hd2 (by
        rw [tz_snoc hab he64]
        intro g hg
        have : ∀ (l : List Nat) (i : Nat), Desc i (l ++ e :: f :: fs) → Desc e (f :: fs) := by
          intro l
          induction l with
          | nil => intro i h; exact h.2
          | cons y l ihl => intro i h; exact ihl _ h.2
        have hde := this ps 64 hd
        have all : ∀ (l : List Nat) (i : Nat), Desc i l → ∀ y ∈ l, y < i := by
          intro l
          induction l with
          | nil => intro i _ y hy; cases hy
          | cons y l ihl =>
            intro i h z hz
            rcases List.mem_cons.1 hz with rfl | hz
            · exact h.1
            · have := ihl _ h.2 z hz; have := h.1; omega
        exact all _ _ hde g hg)
      exact ⟨t, t1, by rw [t2]; simp⟩

theorem progP_complete {es : List Nat} (h0 : es ≠ []) (h : Desc 64 es) : progP (tl es) = some (val es) := by
  obtain ⟨t, t1, t2⟩ := prog_from es [] 0 h0 h (by
    rw [show val [] = 0 from rfl, tz64_zero]
    have all : ∀ (l : List Nat) (i : Nat), Desc i l → ∀ y ∈ l, y < i := by
      intro l
      induction l with
      | nil => intro i _ y hy; cases hy
      | cons y l ihl =>
        intro i h z hz
        rcases List.mem_cons.1 hz with rfl | hz
        · exact h.1
        · have := ihl _ h.2 z hz; have := h.1; omega
    exact all es 64 h)
  unfold progP
  rw [show (⟨0, 0, 0⟩ : St) = ⟨val [], 0, 0⟩ from rfl, t1]
  simp [t2]

/-- both parsers answer alike. -/
theorem parse_agree {r : List Nat} (h : r ≠ []) : progP r = refP 64 r 0 := by
  cases hp : progP r with
  | some v =>
    obtain ⟨es, e1, e2, e3, e4⟩ := progP_sound hp
    rw [e3, refP_complete 64 es 0 (Nat.le_refl _) e2, e4]; simp
  | none =>
    cases hr : refP 64 r 0 with
    | none => rfl
    | some v =>
      obtain ⟨es, e1, e2, e3⟩ := refP_sound 64 r 0 v (Nat.le_refl _) hr
      have hes : es ≠ [] := by rintro rfl; exact h e2
      rw [e2, progP_complete hes e1] at hp
      cases hp

theorem and_compl (q n : Nat) (h : q < 2 ^ n) : q &&& (2 ^ n - 1 - q) = 0 := by
  apply Nat.eq_of_testBit_eq
  intro i
  rw [Nat.testBit_and, show 2 ^ n - 1 - q = 2 ^ n - (q + 1) by omega, Nat.testBit_two_pow_sub_succ h]
  cases q.testBit i <;> simp
theorem and_odd (a b : Nat) : (2 * a + 1) &&& (2 * b + 1) = 2 * (a &&& b) + 1 := by
  apply Nat.eq_of_testBit_eq
  intro i
  cases i with
  | zero => simp [Nat.testBit_zero]
  | succ i =>
    rw [Nat.testBit_and, Nat.testBit_succ, Nat.testBit_succ, Nat.testBit_succ,
      show (2 * a + 1) / 2 = a by omega, show (2 * b + 1) / 2 = b by omega, show (2 * (a &&& b) + 1) / 2 = a &&& b by omega, Nat.testBit_and]
theorem and_pow (e a b : Nat) : (2 ^ e * a) &&& (2 ^ e * b) = 2 ^ e * (a &&& b) := by
  have := Nat.shiftLeft_and_distrib (a := a) (b := b) (i := e)
  simp only [Nat.shiftLeft_eq] at this
  rw [Nat.mul_comm (2 ^ e) a, Nat.mul_comm (2 ^ e) b, Nat.mul_comm (2 ^ e), this]

/-- the lowest bit. -/
theorem low_bit {x e q : Nat} (hx : x < 2 ^ 64) (he : x = 2 ^ e * (2 * q + 1)) (h64 : e < 64) : x &&& (2 ^ 64 - x) = 2 ^ e := by
  obtain ⟨m, hm⟩ : ∃ m, 64 = e + (m + 1) := ⟨63 - e, by omega⟩
  have e1 : 2 ^ 64 = 2 ^ e * (2 * 2 ^ m) := by rw [show (2 : Nat) ^ 64 = 2 ^ (e + (m + 1)) by rw [← hm], Nat.pow_add, Nat.pow_succ, Nat.mul_comm (2 ^ m) 2]
  have hq : q < 2 ^ m := by
    rw [he, e1] at hx
    have := Nat.lt_of_mul_lt_mul_left hx
    omega
  have e2 : 2 ^ 64 - x = 2 ^ e * (2 * (2 ^ m - 1 - q) + 1) := by
    rw [e1, he, ← Nat.mul_sub]
    congr 1; omega
  rw [e2, he, and_pow, and_odd, and_compl q m hq]; simp

/-- every number but 0 is a power of 2 times an odd one. -/
theorem tz_form {x : Nat} (hx : x < 2 ^ 64) (h0 : x ≠ 0) : ∃ e q, e < 64 ∧ x = 2 ^ e * (2 * q + 1) ∧ tz64 x = e := by
  have key : ∀ n x, x ≠ 0 → x < 2 ^ n → ∃ e q, e < n ∧ x = 2 ^ e * (2 * q + 1) := by
    intro n
    induction n with
    | zero => intro x h1 h2; simp at h2; omega
    | succ n ih =>
      intro x h1 h2
      by_cases ho : x % 2 = 1
      · exact ⟨0, x / 2, by omega, by simp; omega⟩
      · obtain ⟨e, q, h3, h4⟩ := ih (x / 2) (by omega) (by rw [Nat.pow_succ] at h2; omega)
        refine ⟨e + 1, q, by omega, ?_⟩
        rw [Nat.pow_succ, Nat.mul_comm (2 ^ e) 2, Nat.mul_assoc, ← h4]; omega
  obtain ⟨e, q, h1, h2⟩ := key 64 x h0 hx
  refine ⟨e, q, h1, h2, ?_⟩
  apply tz_at _ _ h1
  · rw [h2, Nat.mul_div_cancel_left _ (Nat.two_pow_pos e)]; omega
  · intro i hi; rw [h2]; exact bit_mul _ _ _ hi
  · omega
  · omega

def deB : List Nat := [0, 1, 56, 2, 57, 49, 28, 3, 61, 58, 42, 50, 38, 29, 17, 4, 62, 47, 59, 36, 45, 43, 51, 22, 53, 39, 33, 30, 24, 18, 12, 5, 63, 55, 48, 27, 60, 41, 37, 16, 46, 35, 44, 21, 52, 32, 23, 11, 54, 26, 40, 15, 34, 20, 31, 10, 25, 14, 19, 9, 13, 8, 7, 6]
theorem deB_at : ∀ e : Fin 64, deB.getD (2 ^ e.val * 285870213051353865 % 18446744073709551616 / 288230376151711744) 99 = e.val ∧ 2 ^ e.val * 285870213051353865 % 18446744073709551616 / 288230376151711744 < 64 := by decide +kernel
end Gf2
end Go.Proofs.YtaepcecjblojjabDoor
