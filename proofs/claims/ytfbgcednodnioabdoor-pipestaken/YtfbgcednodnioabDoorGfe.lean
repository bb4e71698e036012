import Derived.Test.YtfbgcednodnioabDoorGfd
namespace Go.Proofs.YtfbgcednodnioabDoor
namespace Gf2

/-- the order. -/
def IsOrd (a p n : Nat) : Prop := 1 ≤ n ∧ pmod (pw a n) p = 1 ∧ ∀ m, 1 ≤ m → m < n → pmod (pw a m) p ≠ 1

theorem length_le_of_nodup : ∀ {l l' : List Nat}, l.Nodup → (∀ x, x ∈ l → x ∈ l') → l.length ≤ l'.length := by
  intro l
  induction l with
  | nil => intro l' _ _; simp
  | cons x l ih =>
    intro l' hn hs
    have hx : x ∈ l' := hs x (by simp)
    have hp := List.perm_cons_erase hx
    have hlen := hp.length_eq
    have h2 : l.length ≤ (l'.erase x).length := by
      apply ih (List.nodup_cons.1 hn).2
      intro y hy
      have hyx : y ≠ x := by
        rintro rfl; exact (List.nodup_cons.1 hn).1 hy
      exact (List.mem_erase_of_ne hyx).2 (hs y (by simp [hy]))
    simp at hlen ⊢; omega

theorem pgcd_mul_one {a b p : Nat} (hp : p ≠ 0) (h64 : len p ≤ 64) (ha : pgcd a p = 1) (hb : pgcd b p = 1) : pgcd (mul a b) p = 1 := by
  apply Eq.symm
  apply pgcd_unique (one_dv _) (one_dv _)
  intro e h1 h2
  obtain ⟨ia, -⟩ := inv_exists hp h64 ha
  obtain ⟨ib, -⟩ := inv_exists hp h64 hb
  have j1 := dv_trans h2 ia
  have j2 := dv_trans h2 ib
  -- (ca a + 1) (cb b) + (cb b + 1) = ca cb a b + 1
  have j3 := dv_mul_right (mul (cof b p) b) j1
  rw [xor_mul, one_mul] at j3
  have j4 := dv_xor j3 j2
  have e1 : mul (mul (cof a p) a) (mul (cof b p) b) ^^^ mul (cof b p) b ^^^ (mul (cof b p) b ^^^ 1) = mul (mul (cof a p) a) (mul (cof b p) b) ^^^ 1 ^^^ (mul (cof b p) b ^^^ mul (cof b p) b) := by ac_rfl
  rw [e1, Nat.xor_self, Nat.xor_zero] at j4
  have e2 : mul (mul (cof a p) a) (mul (cof b p) b) = mul (mul (cof a p) (cof b p)) (mul a b) := by
    rw [mul_assoc, mul_assoc, ← mul_assoc a, mul_comm a (cof b p), mul_assoc]
  rw [e2] at j4
  have j5 := dv_xor j4 (dv_mul_left (mul (cof a p) (cof b p)) h1)
  have e3 : mul (mul (cof a p) (cof b p)) (mul a b) ^^^ 1 ^^^ mul (mul (cof a p) (cof b p)) (mul a b) = 1 ^^^ (mul (mul (cof a p) (cof b p)) (mul a b) ^^^ mul (mul (cof a p) (cof b p)) (mul a b)) := by ac_rfl
  rwa [e3, Nat.xor_self, Nat.xor_zero] at j5

theorem pgcd_pw {a p : Nat} (hp : p ≠ 0) (h64 : len p ≤ 64) (ha : pgcd a p = 1) (n : Nat) : pgcd (pw a n) p = 1 := by
  induction n with
  | zero =>
    apply Eq.symm
    exact pgcd_unique (one_dv _) (one_dv _) (fun e h1 _ => h1)
  | succ n ih => exact pgcd_mul_one hp h64 ha ih

theorem pow_unit {a p : Nat} (h2 : 2 ≤ len p) (h64 : len p ≤ 64) (ha : pgcd a p = 1) : ∃ n, 1 ≤ n ∧ n ≤ 2 ^ (len p - 1) - 1 ∧ pmod (pw a n) p = 1 := by
  have hp : p ≠ 0 := len_pos.1 (by omega)
  have hq : 2 ≤ 2 ^ (len p - 1) := by
    have : 2 ^ 1 ≤ 2 ^ (len p - 1) := Nat.pow_le_pow_right (by omega) (by omega)
    omega
  apply Classical.byContradiction
  intro hn
  have hinj : ∀ i j, i < j → j < 2 ^ (len p - 1) → pmod (pw a i) p ≠ pmod (pw a j) p := by
    intro i j hij hj e
    apply hn
    refine ⟨j - i, by omega, by omega, ?_⟩
    have h1 := (pmod_eq_iff hp).1 e
    have e2 : pw a j = mul (pw a i) (pw a (j - i)) := by rw [← pw_add]; congr 1; omega
    rw [e2] at h1
    have h3 : dv p (mul (pw a i) 1 ^^^ mul (pw a i) (pw a (j - i))) := by rw [mul_one]; exact h1
    have := (pmod_eq_iff hp).2 (cancel hp h64 (pgcd_pw hp h64 ha i) h3)
    rw [← this]
    exact pmod_small (by rw [len_one]; omega)
  have hlen := length_le_of_nodup (l := (List.range (2 ^ (len p - 1))).map fun i => pmod (pw a i) p) (l' := List.range' 1 (2 ^ (len p - 1) - 1)) (by
      apply nodup_map_inj List.nodup_range
      intro x y hx hy e
      have hx := List.mem_range.1 hx
      have hy := List.mem_range.1 hy
      rcases Nat.lt_trichotomy x y with h | h | h
      · exact absurd e (hinj x y h hy)
      · exact h
      · exact absurd e.symm (hinj y x h hx)) (by
      intro z hz
      obtain ⟨i, -, rfl⟩ := List.mem_map.1 hz
      have hl := len_pmod (pw a i) hp
      have h0 : pmod (pw a i) p ≠ 0 := by
        intro h0
        have h1 := (pmod_eq_zero hp).1 h0
        have h2' := dv_pgcd h1 (dv_refl p)
        rw [pgcd_pw hp h64 ha] at h2'
        have := dv_one h2'
        rw [this, len_one] at h2; omega
      have := len_le.1 (show len (pmod (pw a i) p) ≤ len p - 1 by omega)
      rw [List.mem_range'_1]
      omega)
  simp at hlen
  omega

theorem least_exists {P : Nat → Prop} : ∀ n, P n → ∃ m, P m ∧ m ≤ n ∧ ∀ k, k < m → ¬ P k := by
  intro n
  induction n using Nat.strongRecOn with
  | _ n ih =>
    intro h
    by_cases hk : ∃ k, k < n ∧ P k
    · obtain ⟨k, hk1, hk2⟩ := hk
      obtain ⟨m, m1, m2, m3⟩ := ih k hk1 hk2
      exact ⟨m, m1, by omega, m3⟩
    · exact ⟨n, h, Nat.le_refl _, fun k h1 h2 => hk ⟨k, h1, h2⟩⟩

theorem ord_exists {a p : Nat} (h2 : 2 ≤ len p) (h64 : len p ≤ 64) (ha : pgcd a p = 1) : ∃ n, IsOrd a p n ∧ n ≤ 2 ^ (len p - 1) - 1 := by
  obtain ⟨n, n1, n2, n3⟩ := pow_unit h2 h64 ha
  obtain ⟨m, m1, m2, m3⟩ := least_exists (P := fun n => 1 ≤ n ∧ pmod (pw a n) p = 1) n ⟨n1, n3⟩
  exact ⟨m, ⟨m1.1, m1.2, fun k k1 k2 k3 => m3 k k2 ⟨k1, k3⟩⟩, by omega⟩

theorem ord_dvd {a p n m : Nat} (hp : p ≠ 0) (h2 : 2 ≤ len p) (h : IsOrd a p n) (hm : pmod (pw a m) p = 1) : m % n = 0 := by
  obtain ⟨n1, n2, n3⟩ := h
  apply Classical.byContradiction
  intro h0
  apply n3 (m % n) (by omega) (Nat.mod_lt _ (by omega))
  have e : m = n * (m / n) + m % n := (Nat.div_add_mod m n).symm
  rw [e, pw_add, pw_mul, ← pmod_mul_left _ _ hp, ← pmod_pw _ _ hp, n2, one_pw] at hm
  rw [show pmod 1 p = 1 from pmod_small (by rw [len_one]; omega), one_mul] at hm
  exact hm

theorem ord_unique {a p n m : Nat} (h : IsOrd a p n) (h' : IsOrd a p m) : n = m := by
  rcases Nat.lt_trichotomy n m with h1 | h1 | h1
  · exact absurd h.2.1 (h'.2.2 n h.1 h1)
  · exact h1
  · exact absurd h'.2.1 (h.2.2 m h'.1 h1)

theorem pw_dvd {a p n m : Nat} (h2 : 2 ≤ len p) (h : pmod (pw a n) p = 1) (hd : m % n = 0) : pmod (pw a m) p = 1 := by
  have hp : p ≠ 0 := len_pos.1 (by omega)
  have e : m = n * (m / n) := by have := Nat.div_add_mod m n; omega
  rw [e, pw_mul, ← pmod_pw _ _ hp, h, one_pw]
  exact pmod_small (by rw [len_one]; omega)

/-- of 65535: every divisor but itself divides one of the four. -/
theorem div_65535 {n : Nat} (h1 : 1 ≤ n) (h : 65535 % n = 0) (hn : n ≠ 65535) : 21845 % n = 0 ∨ 13107 % n = 0 ∨ 3855 % n = 0 ∨ 255 % n = 0 := by
  have hk : n * (65535 / n) = 65535 := by have := Nat.div_add_mod 65535 n; omega
  generalize hkk : 65535 / n = k at hk
  have small : ∀ k : Fin 256, 65535 % k.val = 0 → k.val ≤ 1 ∨ k.val % 3 = 0 ∨ k.val % 5 = 0 ∨ k.val % 17 = 0 := by decide +kernel
  have big : ∀ n : Fin 256, n.val ≠ 0 → 65535 % n.val = 0 → 21845 % n.val = 0 ∨ 13107 % n.val = 0 ∨ 3855 % n.val = 0 ∨ 255 % n.val = 0 := by decide +kernel
  by_cases hs : n < 256
  · exact big ⟨n, hs⟩ (by simp only; omega) h
  · have hk2 : k < 256 := by
      apply Classical.byContradiction
      intro hc
      have : 256 * 256 ≤ n * k := Nat.mul_le_mul (by omega) (by omega)
      omega
    have hdk : 65535 % k = 0 := by rw [← hk]; exact Nat.mul_mod_left n k
    rcases small ⟨k, hk2⟩ hdk with e | e | e | e
    · simp only at e
      have : k = 0 ∨ k = 1 := by omega
      rcases this with rfl | rfl
      · omega
      · omega
    · left
      have e3 : k = 3 * (k / 3) := by simp only at e; omega
      have : 21845 = n * (k / 3) := by rw [e3] at hk; rw [Nat.mul_left_comm] at hk; omega
      rw [this]; exact Nat.mul_mod_right _ _
    · right; left
      have e3 : k = 5 * (k / 5) := by simp only at e; omega
      have : 13107 = n * (k / 5) := by rw [e3] at hk; rw [Nat.mul_left_comm] at hk; omega
      rw [this]; exact Nat.mul_mod_right _ _
    · right; right; left
      have e3 : k = 17 * (k / 17) := by simp only at e; omega
      have : 3855 = n * (k / 17) := by rw [e3] at hk; rw [Nat.mul_left_comm] at hk; omega
      rw [this]; exact Nat.mul_mod_right _ _

theorem ord_16 : IsOrd 2 65581 65535 := by
  have hl : len 65581 = 17 := by decide
  obtain ⟨n, hn, hb⟩ := ord_exists (a := 2) (p := 65581) (by omega) (by omega) (by decide)
  have key : ∀ m, powM 2 m 65581 = pmod (pw 2 m) 65581 := powM_spec (by omega) (by omega) 2
  have h1 : pmod (pw 2 65535) 65581 = 1 := by rw [← key]; decide +kernel
  have hd := ord_dvd (by decide) (by omega) hn h1
  by_cases e : n = 65535
  · rw [← e]; exact hn
  · exfalso
    rcases div_65535 hn.1 hd e with h | h | h | h
    · have := pw_dvd (by omega) hn.2.1 h
      rw [← key] at this; revert this; decide +kernel
    · have := pw_dvd (by omega) hn.2.1 h
      rw [← key] at this; revert this; decide +kernel
    · have := pw_dvd (by omega) hn.2.1 h
      rw [← key] at this; revert this; decide +kernel
    · have := pw_dvd (by omega) hn.2.1 h
      rw [← key] at this; revert this; decide +kernel

theorem div_255 {n : Nat} (h1 : 1 ≤ n) (h : 255 % n = 0) (hn : n ≠ 255) : 85 % n = 0 ∨ 51 % n = 0 ∨ 15 % n = 0 := by
  have hs : n < 256 := by
    apply Classical.byContradiction
    intro hc
    rw [Nat.mod_eq_of_lt (by omega)] at h; omega
  have big : ∀ n : Fin 256, n.val ≠ 0 → n.val ≠ 255 → 255 % n.val = 0 → 85 % n.val = 0 ∨ 51 % n.val = 0 ∨ 15 % n.val = 0 := by decide +kernel
  exact big ⟨n, hs⟩ (by simp only; omega) hn h

theorem ord_8 : IsOrd 2 285 255 := by
  have hl : len 285 = 9 := by decide
  obtain ⟨n, hn, hb⟩ := ord_exists (a := 2) (p := 285) (by omega) (by omega) (by decide)
  have key : ∀ m, powM 2 m 285 = pmod (pw 2 m) 285 := powM_spec (by omega) (by omega) 2
  have h1 : pmod (pw 2 255) 285 = 1 := by rw [← key]; decide +kernel
  have hd := ord_dvd (by decide) (by omega) hn h1
  by_cases e : n = 255
  · rw [← e]; exact hn
  · exfalso
    rcases div_255 hn.1 hd e with h | h | h
    · have := pw_dvd (by omega) hn.2.1 h
      rw [← key] at this; revert this; decide +kernel
    · have := pw_dvd (by omega) hn.2.1 h
      rw [← key] at this; revert this; decide +kernel
    · have := pw_dvd (by omega) hn.2.1 h
      rw [← key] at this; revert this; decide +kernel

end Gf2
end Go.Proofs.YtfbgcednodnioabDoor
