import Derived.Test.YtemjodlhpelbaaaDoorLrb
namespace Go.Proofs.YtemjodlhpelbaaaDoor
open Go.RowKit Gf2
set_option linter.unusedVariables false

-- Eval
/-- the basis polynomial of number j at x. -/
def xx (x j : Nat) : Nat := bsv j x 16
theorem xx_lt (x j : Nat) : xx x j < 65536 := bsv_lt _ _ _
theorem bsv_0 (x T : Nat) : bsv 0 x T = 1 := by
  induction T with
  | zero => rfl
  | succ T ih => rw [bsv, if_neg (by simp), ih]
theorem bsv_more {j i : Nat} (hj : j < 2 ^ i) (x : Nat) : ∀ d, bsv j x (i + d) = bsv j x i := by
  intro d
  induction d with
  | zero => rfl
  | succ d ih =>
    rw [show i + (d + 1) = (i + d) + 1 from rfl, bsv, if_neg, ih]
    have : j / 2 ^ (i + d) = 0 := Nat.div_eq_of_lt (Nat.lt_of_lt_of_le hj (Nat.pow_le_pow_right (by decide) (Nat.le_add_right i d)))
    rw [this]
    decide
theorem bit_low {j i t : Nat} (ht : t < i) : (2 ^ i + j) / 2 ^ t % 2 = j / 2 ^ t % 2 := by
  obtain ⟨d, rfl⟩ : ∃ d, i = t + (d + 1) := ⟨i - t - 1, by omega⟩
  rw [Nat.pow_add, Nat.mul_add_div (Nat.two_pow_pos t), Nat.pow_succ]
  omega
theorem bsv_low {j i : Nat} (x : Nat) : ∀ t, t ≤ i → bsv (2 ^ i + j) x t = bsv j x t := by
  intro t
  induction t with
  | zero => intro _; rfl
  | succ t ih =>
    intro ht
    rw [bsv, bsv, ih (by omega), bit_low (by omega)]
theorem xx_add {j i : Nat} (hi : i < 16) (hj : j < 2 ^ i) (x : Nat) : xx x (2 ^ i + j) = fm 65581 (xx x j) (sv i x) := by
  unfold xx
  have h1 : 2 ^ i + j < 2 ^ (i + 1) := by rw [Nat.pow_succ]; omega
  have e1 := bsv_more h1 x (16 - (i + 1))
  rw [show i + 1 + (16 - (i + 1)) = 16 by omega] at e1
  have e2 := bsv_more hj x (16 - i)
  rw [show i + (16 - i) = 16 by omega] at e2
  have hb : (2 ^ i + j) / 2 ^ i % 2 = 1 := by
    rw [Nat.add_div_left _ (Nat.two_pow_pos i), Nat.div_eq_of_lt hj]
  rw [e1, e2, bsv, if_pos hb, bsv_low x i (Nat.le_refl _)]
theorem xx_0 (x : Nat) : xx x 0 = 1 := bsv_0 x 16
/-- the sum of the first n products. -/
def sxx (x : Nat) (F : Nat → Nat) : Nat → Nat
  | 0 => 0
  | n + 1 => sxx x F n ^^^ fm 65581 (F n) (xx x n)
theorem sxx_lt (x : Nat) (F : Nat → Nat) (n : Nat) : sxx x F n < 65536 := by
  induction n with
  | zero => exact Nat.zero_lt_succ _
  | succ n ih => exact Nat.xor_lt_two_pow (n := 16) ih (fm16_lt _ _)
theorem sxx_split {i : Nat} (hi : i < 16) (x : Nat) (F : Nat → Nat) : ∀ m, m ≤ 2 ^ i → sxx x F (2 ^ i + m) = sxx x F (2 ^ i) ^^^ fm 65581 (sv i x) (sxx x (fun j => F (2 ^ i + j)) m) := by
  intro m
  induction m with
  | zero => intro _; rw [show sxx x (fun j => F (2 ^ i + j)) 0 = 0 from rfl, fld16.fm_zero, Nat.xor_zero]; rfl
  | succ m ih =>
    intro hm
    rw [show 2 ^ i + (m + 1) = (2 ^ i + m) + 1 from rfl, sxx, ih (by omega), xx_add hi (by omega), sxx, fld16.fm_xor, Nat.xor_assoc]
    congr 2
    rw [← fld16.fm_assoc, fm_comm 65581 _ (sv i x)]
theorem sxx_one {x : Nat} {F : Nat → Nat} (h : F 0 < 65536) : sxx x F 1 = F 0 := by
  show 0 ^^^ fm 65581 (F 0) (xx x 0) = F 0
  rw [xx_0, fld16.fm_one h, Nat.zero_xor]
theorem sxx_congr {x n : Nat} {F G : Nat → Nat} (h : ∀ i, i < n → F i = G i) : sxx x F n = sxx x G n := by
  induction n with
  | zero => rfl
  | succ n ih => rw [sxx, sxx, ih (fun i hi => h i (by omega)), h n (Nat.lt_succ_self n)]
/-- how value cuts a list. -/
theorem cut_nums {n i : Nat} (hn : 1 < n) (hn2 : n ≤ 65536) (hi : i + 1 = len (n - 1)) : i < 16 ∧ 2 ^ i < n ∧ n ≤ 2 ^ i + 2 ^ i := by
  have h1 : n - 1 < 2 ^ (i + 1) := len_le.1 (by omega)
  have h2 : 2 ^ i ≤ n - 1 := by
    apply Decidable.byContradiction
    intro h
    have : len (n - 1) ≤ i := len_le.2 (by omega)
    omega
  rw [Nat.pow_succ] at h1
  refine ⟨?_, by omega, by omega⟩
  apply Decidable.byContradiction
  intro h
  have : 2 ^ 16 ≤ 2 ^ i := Nat.pow_le_pow_right (by decide) (by omega)
  omega
theorem len_up (m : Nat) (h : m ≠ 0) : ∃ i, i + 1 = len m := by
  have := len_pos.2 h
  exact ⟨len m - 1, by omega⟩
set_option maxHeartbeats 2000000 in
set_option maxRecDepth 100000 in
theorem bitlen13 (m : Nat) (w : World) (hm : m ≤ 65536) :
    Calls Tryd.prog 48 #[.int .u64 (m : Int)] w fun e w' => e = .returned (.int .i64 ((len m : Nat) : Int)) ∧ w' = w := by
  have c := len64_int (m : Int) w (by omega) (by omega)
  rw [show ((m : Int).toNat) = m from rfl] at c
  clear hm
  go_enter Tryd.func48, Tryd.ntmps48
  go_wp2_with (go_at_call 57; ((with_reducible refine (c).mono ?_); rintro e w' ⟨rfl, rfl⟩))
  go_ret
  exact ⟨rfl, rfl⟩
/-- the table of the s_i. -/
def At13 (w : World) (g x : Nat) : Prop := g < w.heap.size ∧ ∀ i, i < 16 → w.cell? ⟨g, i, none⟩ = some (.int .u16 (sv i x : Nat))
theorem wrap_sub1 {n : Nat} (h : 1 < n) (hn : n ≤ 65536) : ∃ m : Nat, m = n - 1 ∧ wrap64 ((n : Int) - 1) = (m : Int) ∧ (m : Int) ≤ 65536 := ⟨n - 1, rfl, by unfold wrap64; omega, by omega⟩
theorem wrap_len1 {i m : Nat} (h : i + 1 = len m) (hi : i < 16) : wrap64 (((len m : Nat) : Int) - 1) = (i : Int) := by rw [← h]; unfold wrap64; omega
set_option maxHeartbeats 4000000 in
set_option maxRecDepth 100000 in
theorem value13 (g x : Nat) : ∀ (n b o cap : Nat) (F : Nat → Nat) (w : World), 0 < n → n ≤ 65536 → n ≤ cap → b < w.heap.size → (∀ j, j < n → F j < 65536 ∧ w.cell? ⟨b, o + j, none⟩ = some (.int .u16 (F j : Nat))) → At13 w g x →
    Calls Tryd.prog 32 #[.slice (some ⟨b, o, none⟩) n cap, .pointer (some ⟨g, 0, none⟩)] w fun e w' => e = .returned (.int .u16 (sxx x F n : Nat)) ∧ ∃ m, w' = w.drewN m := by
  intro n
  induction n using Nat.strongRecOn with
  | _ n ih =>
    intro b o cap F w h0 hn hcap hbl hF hA
    by_cases h1 : n = 1
    · subst h1
      rw [sxx_one (hF 0 (by decide)).1]
      have q : w.cell? ⟨b, o, none⟩ = some (.int .u16 (F 0 : Nat)) := (hF 0 (by decide)).2
      clear ih hF hA hn hcap
      go_enter Tryd.func32, Tryd.ntmps32
      go_wp2
      go_ret
      exact ⟨rfl, 0, rfl⟩
    · have hn1 : 1 < n := by omega
      obtain ⟨m, hm, W1, hm2⟩ := wrap_sub1 hn1 hn
      obtain ⟨i, hi⟩ := len_up m (by omega)
      obtain ⟨hi16, hp1, hp2⟩ := cut_nums hn1 hn (hm ▸ hi)
      obtain ⟨P, hP⟩ : ∃ P, P = 2 ^ i := ⟨_, rfl⟩
      have hP0 : 0 < P := by rw [hP]; exact Nat.two_pow_pos i
      have c1 := fun w => bitlen13 m w (by omega)
      have W2 := wrap_len1 hi hi16
      have hs := sxx_split hi16 x F (n - P) (by rw [hP]; omega)
      rw [← hP] at hs hp1 hp2
      rw [show P + (n - P) = n by omega] at hs
      have cA := fun k => ih P (by omega) b o cap F (w.drewN k) hP0 (by omega) (by omega) hbl (fun j hj => hF j (by omega)) hA
      have cB := fun k => ih (n - P) (by omega) b (o + P) (cap - P) (fun j => F (P + j)) (w.drewN k) (by omega) (by omega) (by omega) hbl (fun j hj => by rw [Nat.add_assoc]; exact hF (P + j) (by omega)) hA
      have lA := sxx_lt x F P
      have lB := sxx_lt x (fun j => F (P + j)) (n - P)
      have c3 := fun w => hmul_nat (sv i x) (sxx x (fun j => F (P + j)) (n - P)) w (sv_lt _ _) lB
      have X := u16_xor_nat (sxx x F P) (fm 65581 (sv i x) (sxx x (fun j => F (P + j)) (n - P))) lA (fm16_lt _ _)
      rw [hs]
      have q := hA.2 i hi16
      have hh := fun W => head6 b o n cap P (by omega) W
      have hf := fun W => from6 b o n cap P hp1 hcap W
      have E1 := pow_cast hP (by omega)
      have E2 := wrap_k E1
      have M : min i 64 = i := by omega
      have ib : ((i : Nat) : Int) < 16 := by omega
      have D1 : ((n : Int) == 1) = false := by simp; omega
      obtain ⟨A, hA9⟩ : ∃ A, A = sxx x F P := ⟨_, rfl⟩
      obtain ⟨B, hB9⟩ : ∃ B, B = sxx x (fun j => F (P + j)) (n - P) := ⟨_, rfl⟩
      obtain ⟨V, hV9⟩ : ∃ V, V = sv i x := ⟨_, rfl⟩
      obtain ⟨L, hL9⟩ : ∃ L, L = len m := ⟨_, rfl⟩
      obtain ⟨N2, hN2⟩ : ∃ N2, N2 = n - P := ⟨_, rfl⟩
      obtain ⟨C2, hC2⟩ : ∃ C2, C2 = cap - P := ⟨_, rfl⟩
      rw [← hA9] at cA X ⊢
      rw [← hB9] at cB c3 X ⊢
      rw [← hV9] at c3 X q ⊢
      rw [← hL9] at c1 W2
      rw [← hN2] at cB hf
      rw [← hC2] at cB hf
      clear ih hF hA hn hcap hbl hs hp1 hp2 hP hP0 hi hm h0 h1 hA9 hB9 hV9 hL9 hN2 hC2 lA lB hn1
      go_enter Tryd.func32, Tryd.ntmps32
      go_wp2_with (go_at_call 48; ((with_reducible refine (c1 _).mono ?_); (rintro e w9 ⟨rfl, hw9⟩; have hw9 := hw9.symm; subst hw9)))
      go_quiet (first | (go_at_call 32; first | with_reducible exact Calls.quiet_of (cA _) | with_reducible exact Calls.quiet_of (cB _)) | (go_at_call 15; with_reducible exact Calls.quiet_of_same (c3 _)))
      go_wp2
      go_ret
      exact ⟨rfl, nq, rfl⟩
end Go.Proofs.YtemjodlhpelbaaaDoor
