import Derived.Test.YtidcdbjhkgpjcaaDoorTj1
namespace Go.Proofs.YtidcdbjhkgpjcaaDoor
namespace Gf2

/-- the images and what they are images of, behind each round. -/
def IMs : List (List Nat) := [[0, 0, 0, 0, 0, 0, 0, 0, 0, 0, 0, 0, 0, 0, 0, 0], [0, 0, 6, 0, 0, 0, 0, 0, 0, 0, 0, 0, 0, 0, 0, 0], [0, 0, 6, 0, 20, 0, 0, 0, 0, 0, 0, 0, 0, 0, 0, 0], [0, 0, 6, 0, 20, 0, 72, 0, 0, 0, 0, 0, 0, 0, 0, 0], [0, 0, 6, 0, 20, 0, 72, 0, 272, 0, 0, 0, 0, 0, 0, 0], [0, 0, 6, 0, 20, 0, 72, 0, 272, 0, 1056, 0, 0, 0, 0, 0], [0, 0, 6, 0, 20, 0, 72, 0, 272, 0, 1056, 0, 4160, 0, 0, 0], [0, 0, 6, 0, 20, 0, 72, 0, 272, 0, 1056, 0, 4160, 0, 16512, 0], [0, 0, 6, 0, 20, 61, 72, 0, 272, 0, 1056, 0, 4160, 0, 16512, 0], [0, 0, 6, 0, 20, 61, 72, 0, 272, 692, 1056, 0, 4160, 0, 16512, 0], [0, 0, 6, 12, 20, 61, 72, 0, 272, 692, 1056, 0, 4160, 0, 16512, 0], [0, 0, 6, 12, 20, 61, 72, 228, 272, 692, 1056, 0, 4160, 0, 16512, 0], [0, 0, 6, 12, 20, 61, 72, 228, 272, 692, 1056, 0, 4160, 15616, 16512, 0], [0, 0, 6, 12, 20, 61, 72, 228, 272, 692, 1056, 0, 4160, 15616, 16512, 37888], [0, 3, 6, 12, 20, 61, 72, 228, 272, 692, 1056, 0, 4160, 15616, 16512, 37888], [1, 3, 6, 12, 20, 61, 72, 228, 272, 692, 1056, 0, 4160, 15616, 16512, 37888]]
def FRs : List (List Nat) := [[0, 0, 0, 0, 0, 0, 0, 0, 0, 0, 0, 0, 0, 0, 0, 0], [0, 0, 2, 0, 0, 0, 0, 0, 0, 0, 0, 0, 0, 0, 0, 0], [0, 0, 2, 0, 4, 0, 0, 0, 0, 0, 0, 0, 0, 0, 0, 0], [0, 0, 2, 0, 4, 0, 8, 0, 0, 0, 0, 0, 0, 0, 0, 0], [0, 0, 2, 0, 4, 0, 8, 0, 16, 0, 0, 0, 0, 0, 0, 0], [0, 0, 2, 0, 4, 0, 8, 0, 16, 0, 32, 0, 0, 0, 0, 0], [0, 0, 2, 0, 4, 0, 8, 0, 16, 0, 32, 0, 64, 0, 0, 0], [0, 0, 2, 0, 4, 0, 8, 0, 16, 0, 32, 0, 64, 0, 128, 0], [0, 0, 2, 0, 4, 272, 8, 0, 16, 0, 32, 0, 64, 0, 128, 0], [0, 0, 2, 0, 4, 272, 8, 0, 16, 512, 32, 0, 64, 0, 128, 0], [0, 0, 2, 1576, 4, 272, 8, 0, 16, 512, 32, 0, 64, 0, 128, 0], [0, 0, 2, 1576, 4, 272, 8, 2576, 16, 512, 32, 0, 64, 0, 128, 0], [0, 0, 2, 1576, 4, 272, 8, 2576, 16, 512, 32, 0, 64, 4096, 128, 0], [0, 0, 2, 1576, 4, 272, 8, 2576, 16, 512, 32, 0, 64, 4096, 128, 8192], [0, 26384, 2, 1576, 4, 272, 8, 2576, 16, 512, 32, 0, 64, 4096, 128, 8192], [44234, 26384, 2, 1576, 4, 272, 8, 2576, 16, 512, 32, 0, 64, 4096, 128, 8192]]
def IM (j h : Nat) : Nat := (IMs.getD j []).getD h 0
def FR (j h : Nat) : Nat := (FRs.getD j []).getD h 0
/-- one element is brought in: the place where it lies, and what lies there. -/
def ins (j : Nat) : Nat → Nat → Nat → Option (Nat × Nat × Nat)
  | 0, _, _ => none
  | h + 1, v, y => if v / 2 ^ h % 2 = 0 then ins j h v y else if IM j h = 0 then some (h, v, y) else ins j h (v ^^^ IM j h) (y ^^^ FR j h)
/-- a round's table out of the one before. -/
def nxt (j : Nat) (r : Option (Nat × Nat × Nat)) (h : Nat) : Nat × Nat := match r with
  | none => (IM j h, FR j h)
  | some (g, v, y) => if h = g then (v, y) else (IM j h, FR j h)
theorem ins_all : ∀ j, j < 15 → ∀ h, h < 16 → nxt j (ins j 16 (hs 65581 (2 ^ (j + 1))) (2 ^ (j + 1))) h = (IM (j + 1) h, FR (j + 1) h) := by decide +kernel
theorem im_lt : ∀ j, j < 16 → ∀ h, h < 16 → IM j h < 65536 ∧ FR j h < 65536 := by decide +kernel
theorem im_zero : ∀ h, h < 16 → IM 0 h = 0 ∧ FR 0 h = 0 := by decide +kernel
theorem im_top : ∀ h, h < 16 → h ≠ 11 → len (IM 15 h) = h + 1 ∧ hs 65581 (FR 15 h) = IM 15 h ∧ FR 15 h % 2 = 0 := by decide +kernel
theorem im_none : IM 15 11 = 0 := by decide +kernel
theorem tr_low {x : Nat} (hx : x < 2048) : tr 65581 16 x = 0 :=
  lin_ext (f := tr 65581 16) (g := fun _ => 0) (fun x y => fld16.tr_xor x y) (fun _ _ => rfl) 11 (by decide +kernel) x hx
theorem tr_top {A : Nat} (h1 : A < 2 ^ 12) (h2 : A / 2 ^ 11 % 2 = 1) : tr 65581 16 A = 1 := by
  have hl : len A = 12 := len_eq (n := 11) (by omega) h1
  have hs1 : len (A ^^^ 2 ^ 11) < 12 := by
    have := len_xor_eq (a := A) (b := 2 ^ 11) (by rw [hl, len_two_pow]) (by decide)
    rwa [len_two_pow] at this
  have hx : A ^^^ 2 ^ 11 < 2 ^ 11 := len_le.1 (by omega)
  have e : A = (A ^^^ 2 ^ 11) ^^^ 2 ^ 11 := by rw [Nat.xor_assoc, Nat.xor_self, Nat.xor_zero]
  rw [e, fld16.tr_xor, tr_low hx, show tr 65581 16 (2 ^ 11) = 1 by decide +kernel]
  rfl
theorem drop_top {A k : Nat} (hk : k < 16) (h11 : k ≠ 11) (hA : A < 2 ^ (k + 1)) (hb : A / 2 ^ k % 2 = 1) : A ^^^ IM 15 k < 2 ^ k := by
  have hlA : len A = k + 1 := by
    refine len_eq ?_ hA
    rcases Nat.lt_or_ge A (2 ^ k) with h | h
    · rw [Nat.div_eq_of_lt h] at hb; omega
    · exact h
  obtain ⟨h1, -, -⟩ := im_top k hk h11
  have := len_xor_eq (a := A) (b := IM 15 k) (by omega) (by intro e; rw [e, len_zero] at h1; omega)
  exact len_le.1 (by omega)
theorem low_half {A k : Nat} (hA : A < 2 ^ (k + 1)) (hb : A / 2 ^ k % 2 = 0) : A < 2 ^ k := by
  rcases Nat.lt_or_ge A (2 ^ k) with h | h
  · exact h
  · have h1 : A / 2 ^ k < 2 := Nat.div_lt_of_lt_mul (by rw [Nat.pow_succ] at hA; omega)
    have h2 : 1 ≤ A / 2 ^ k := (Nat.one_le_div_iff (Nat.two_pow_pos k)).2 h
    omega
/-- what Root answers. -/
def rr (a : Nat) : Nat := if tr 65581 16 a = 0 then rt16 a else 0
def re (a : Nat) : Nat := if tr 65581 16 a = 0 then 0 else 30
theorem rr_yes {a : Nat} (h : tr 65581 16 a = 0) : rr a = rt16 a ∧ re a = 0 := by unfold rr re; rw [if_pos h, if_pos h]; exact ⟨rfl, rfl⟩
theorem rr_no {a : Nat} (h : tr 65581 16 a = 1) : rr a = 0 ∧ re a = 30 := by unfold rr re; rw [if_neg (by omega), if_neg (by omega)]; exact ⟨rfl, rfl⟩
theorem rr_lt (a : Nat) : rr a < 65536 := by
  unfold rr; split
  · exact rt16_lt a
  · decide
theorem lin_snoc (l : List Nat) (c : Nat) : ∀ x, lin (l ++ [c]) x = lin l x ^^^ (if x / 2 ^ l.length % 2 = 1 then c else 0) := by
  induction l with
  | nil => intro x; simp [lin]
  | cons d l ih =>
    intro x
    simp only [List.cons_append, lin, List.length_cons]
    rw [ih, Nat.div_div_eq_div_mul, ← Nat.pow_succ', Nat.xor_assoc]
/-- the basis, one by one. -/
def cbn (i : Nat) : Nat := cb.getD i 0
theorem cbn_lt : ∀ i, i < 16 → cbn i < 65536 := by decide +kernel
theorem cbn_next : ∀ i, i < 15 → rr (cbn i) = cbn (i + 1) := by decide +kernel
def cbt (n : Nat) : List Nat := (List.range n).map cbn
theorem cbt_all : cbt 16 = cb := by decide +kernel
theorem cbt_succ (n : Nat) : cbt (n + 1) = cbt n ++ [cbn n] := by unfold cbt; rw [List.range_succ, List.map_append]; rfl
theorem cbt_len (n : Nat) : (cbt n).length = n := by simp [cbt]
theorem cbt_step (n x : Nat) : lin (cbt (n + 1)) x = lin (cbt n) x ^^^ (if x / 2 ^ n % 2 = 1 then cbn n else 0) := by
  rw [cbt_succ, lin_snoc, cbt_len]
theorem cbt_lt (n x : Nat) (hn : n ≤ 16) : lin (cbt n) x < 65536 :=
  lin_lt (n := 16) _ (fun c hc => by
    obtain ⟨i, hi, rfl⟩ := List.mem_map.1 hc
    exact cbn_lt i (by have := List.mem_range.1 hi; omega)) x
theorem we_cbt (x : Nat) : we x = lin (cbt 16) x := by rw [cbt_all]; rfl
theorem cbt_get {n i : Nat} (h : i < n) : (cbt n)[i]? = some (cbn i) := by simp [cbt, h]
theorem we_pow : ∀ t, t < 16 → we (2 ^ t) = cbn t := by decide +kernel
theorem add_xor {t i : Nat} (h : i < 2 ^ t) : 2 ^ t + i = i ^^^ 2 ^ t := by
  apply Nat.eq_of_testBit_eq
  intro j
  rw [Nat.testBit_xor, Nat.testBit_two_pow]
  by_cases e : j = t
  · subst e
    rw [Nat.testBit_two_pow_add_eq, Nat.testBit_lt_two_pow h]
    simp
  · rcases Nat.lt_or_ge j t with h1 | h1
    · rw [Nat.testBit_two_pow_add_gt h1]
      simp [show ¬ t = j by omega]
    · have h2 : 2 ^ t + i < 2 ^ j := by
        have : 2 ^ (t + 1) ≤ 2 ^ j := Nat.pow_le_pow_right (by decide) (by omega)
        rw [Nat.pow_succ] at this
        omega
      have h3 : i < 2 ^ j := by omega
      rw [Nat.testBit_lt_two_pow h2, Nat.testBit_lt_two_pow h3]
      simp [show ¬ t = j by omega]
theorem we_add {t i : Nat} (ht : t < 16) (h : i < 2 ^ t) : we (2 ^ t + i) = we i ^^^ cbn t := by
  rw [add_xor h, we_xor, we_pow t ht]
/-- the elements of the indices below n. -/
def wes (n : Nat) : List Nat := (List.range n).map we
theorem wes_succ (n : Nat) : wes (n + 1) = wes n ++ [we n] := by unfold wes; rw [List.range_succ, List.map_append]; rfl
theorem wes_len (n : Nat) : (wes n).length = n := by simp [wes]
theorem wes_get {n i : Nat} (h : i < n) : (wes n)[i]? = some (we i) := by simp [wes, h]
end Gf2
end Go.Proofs.YtidcdbjhkgpjcaaDoor
