import Derived.Test.YtldacjpkblffbabYhi
namespace Go.Proofs.Ytldacjpkblffbab
open Go.RowKit Gf2
set_option linter.unusedVariables false

-- layer 16: Split
theorem split_nums {k m l : Nat} (h : k + m ≤ 65536) (hl : l ≤ 1099511627777) : ∃ s p : Nat, Hid (s = k + m ∧ p = (k + m) * l) ∧ wrap64 ((k : Int) + (m : Int)) = (s : Int) ∧ wrap64 ((s : Int) * (l : Int)) = (p : Int) := by
  refine ⟨k + m, (k + m) * l, ⟨rfl, rfl⟩, ?_, ?_⟩
  · unfold wrap64; omega
  · have h1 : (k + m) * l ≤ 65536 * 1099511627777 := Nat.mul_le_mul h hl
    have h2 : (((k + m : Nat) : Int) * (l : Int)) = (((k + m) * l : Nat) : Int) := by rw [Int.natCast_mul]
    rw [h2]
    generalize (k + m) * l = p at h1
    unfold wrap64
    omega
set_option maxHeartbeats 2000000 in
set_option maxRecDepth 100000 in
theorem split16_no (f k m : Int) (v : Value) (n : Nat) (D : Nat → Nat) (w : World) (hk : I64 k) (hv : Rb w v n D) (h : lne f k m n ≠ 0) :
    Calls Try.prog 9 #[.int .i64 f, .int .i64 k, .int .i64 m, v] w fun e w' => e = .returned (.tuple #[.slice none 0 0, .int .i64 (lne f k m n)]) ∧ w' = w := by
  have c1 := fun x => length16 f k m n x hk
  unfold lnv at c1
  rw [if_neg h] at c1
  generalize lne f k m n = z at *
  have D1 : (z != 0) = true := by simpa using h
  have D2 : (z == 0) = false := by simpa using h
  obtain ⟨-, -, a, cap, rfl, -, -, -⟩ := hv
  clear h hk
  go_enter Try.func9, Try.ntmps9
  go_wp2_with (go_at_call 8; ((with_reducible refine (c1 _).mono ?_); rintro e w' ⟨rfl, rfl⟩))
  go_ret2
  exact ⟨rfl, rfl⟩
set_option maxHeartbeats 2000000 in
set_option maxRecDepth 100000 in
theorem split16_big (f : Int) (k m : Nat) (v : Value) (n : Nat) (D : Nat → Nat) (w : World) (hk : I64 k) (hv : Rb w v n D) (h : lne f k m n = 0) (hb : 67108864 < (k + m) * ln16 f k n) :
    Calls Try.prog 9 #[.int .i64 f, .int .i64 (k : Int), .int .i64 (m : Int), v] w fun e w' => e = .returned (.tuple #[.slice none 0 0, .int .i64 5]) ∧ w' = w := by
  have c1 := fun x => length16 f k m n x hk
  unfold lnv at c1
  rw [if_pos h, h] at c1
  obtain ⟨hp, hn1, hn2⟩ := lne_ok h
  have hv' := prm_ok.1 hp
  have hll := ln16_le f (k := k) (n := n) (by have := hv'.hk; omega)
  have c1 : ∀ x, Calls Try.prog 8 #[.int .i64 f, .int .i64 (k : Int), .int .i64 (m : Int), .int .i64 (n : Int)] x fun e w' => e = .returned (.tuple #[.int .i64 (ln16 f k n : Nat), .int .i64 0]) ∧ w' = x := c1
  obtain ⟨l, hl⟩ : ∃ l, l = ln16 f k n := ⟨_, rfl⟩
  rw [← hl] at c1 hb hll
  obtain ⟨s, p, HS, W1, W2⟩ := split_nums (k := k) (m := m) (l := l) (by have := hv'.sum; omega) (by omega)
  have D1 : decide ((67108864 : Int) < (p : Int)) = true := by have := HS.out.2; simp; omega
  obtain ⟨-, -, a, cap, rfl, -, -, -⟩ := hv
  clear h hk hb hll hl hv' hp hn1 hn2
  go_enter Try.func9, Try.ntmps9
  go_wp2_with (go_at_call 8; ((with_reducible refine (c1 _).mono ?_); rintro e w' ⟨rfl, rfl⟩))
  go_ret2
  exact ⟨rfl, rfl⟩
theorem split_step {l n i : Nat} : min (i * l) n + min l (n - min (i * l) n) = min ((i + 1) * l) n := by
  rw [Nat.add_mul, Nat.one_mul]
  generalize i * l = x
  omega
/-- what Split answers: m rows of l bytes each, in new memory. -/
structure An16 (w w' : World) (u : Value) (m l : Nat) (S : Nat → Nat → Nat) : Prop where
  cs : ∃ B, Cs w.heap.size w'.heap.size w' u m (fun _ => l) (fun _ => l) B S
  bel : Below w.heap.size w w'
set_option maxHeartbeats 4000000 in
set_option maxRecDepth 100000 in
theorem split16_yes (f : Int) (k m : Nat) (v : Value) (n : Nat) (D : Nat → Nat) (w : World) (hk : I64 k) (hv : Rb w v n D) (h : lne f k m n = 0) (hb : (k + m) * ln16 f k n ≤ 67108864) :
    Calls Try.prog 9 #[.int .i64 f, .int .i64 (k : Int), .int .i64 (m : Int), v] w fun e w' => ∃ u, e = .returned (.tuple #[u, .int .i64 0]) ∧ An16 w w' u (k + m) (ln16 f k n) (spl (ln16 f k n) n D) := by
  have c1 := fun x => length16 f k m n x hk
  unfold lnv at c1
  rw [if_pos h, h] at c1
  obtain ⟨hp, hn1, hn2⟩ := lne_ok h
  have hv' := prm_ok.1 hp
  have hll := ln16_le f (k := k) (n := n) (by have := hv'.hk; omega)
  have c1 : ∀ x, Calls Try.prog 8 #[.int .i64 f, .int .i64 (k : Int), .int .i64 (m : Int), .int .i64 (n : Int)] x fun e w' => e = .returned (.tuple #[.int .i64 (ln16 f k n : Nat), .int .i64 0]) ∧ w' = x := c1
  obtain ⟨l, hl⟩ : ∃ l, l = ln16 f k n := ⟨_, rfl⟩
  rw [← hl] at c1 hb hll
  rw [← hl]
  obtain ⟨s, p, HS, W1, W2⟩ := split_nums (k := k) (m := m) (l := l) (by have := hv'.sum; omega) (by omega)
  have D1 : decide ((67108864 : Int) < (p : Int)) = false := by have := HS.out.2; simp; omega
  have hs6 : s ≤ 65536 := by have := HS.out.1; have := hv'.sum; omega
  have hl6 : l ≤ 67108864 := by
    have : 1 * l ≤ (k + m) * l := Nat.mul_le_mul_right _ (by have := hv'.hk; omega)
    omega
  rw [← HS.out.1]
  have hmk := make_rows s (by omega)
  have hm8 := make_u8 l (by omega)
  have HN : Hid (s ≤ 65536 ∧ l ≤ 67108864) := ⟨hs6, hl6⟩
  obtain ⟨a, cap, rfl⟩ : ∃ a cap, v = .slice a n cap := by obtain ⟨-, -, a, cap, e, -⟩ := hv; exact ⟨a, cap, e⟩
  have HV : Hid (Rb w (.slice a n cap) n D) := hv
  clear h hk hb hll hl hv' hp hn1 hn2 hv hs6 hl6
  go_enter Try.func9, Try.ntmps9
  go_wp2_with (go_at_call 8; ((with_reducible refine (c1 _).mono ?_); (rintro e w9 ⟨rfl, hw9⟩; have hw9 := hw9.symm; subst hw9)))
  clear hmk c1 W1 W2 D1
  go_loopw [3, 38] (fun d i wr => ∃ (t : Nat) (B : Nat → Nat), t ≤ s ∧ i = .int .i64 t ∧ Rb w d (n - min (t * l) n) (fun j => D (min (t * l) n + j)) ∧ Fl w wr w.heap.size s t (fun _ => l) (fun _ => l) B (spl l n D)) (fun _ i _ => s - (intOf i).toNat)
  case atStart => exact ⟨0, fun _ => 0, Nat.zero_le _, rfl, by simpa using HV.out, Fl.start _ _ _ _ _ _⟩
  case round =>
    obtain ⟨t, B, ht, rfl, hd, hF⟩ := hrel
    by_cases hlt : t < s
    · have q0 := hF.bare hlt
      have q1 := hF.froz t
      obtain ⟨x, cx, rfl⟩ : ∃ x cx, u3 = .slice x (n - min (t * l) n) cx := by obtain ⟨-, -, a, cap, e, -⟩ := hd; exact ⟨a, cap, e⟩
      have r0 := made_rw l (by have := HN.out; omega) wr
      have bA : Below wr.heap.size wr (wr.alloc (.cells (madeCells #[.int .u8 0] l) 5)) := (Below.refl _ _).alloc (Nat.le_refl _) _
      have qa : (wr.alloc (.cells (madeCells #[.int .u8 0] l) 5)).frozen? ⟨w.heap.size, t, none⟩ = false := (hF.below bA).froz t
      have qb := (hF.below bA).bare hlt
      have hF1 := hF.next hlt bA (Nat.le_refl _) r0 (Nat.le_refl _)
      obtain ⟨X, hX⟩ : ∃ X, X = (wr.alloc (.cells (madeCells #[.int .u8 0] l) 5)).setCell ⟨w.heap.size, t, none⟩ (.slice (some ⟨wr.heap.size, 0, none⟩) l l) := ⟨_, rfl⟩
      rw [← hX] at hF1
      have r1 := (hF1.rows t (Nat.lt_succ_self _)).2.2.2
      simp only [upn_same] at r1
      have q2 := hF1.cell (Nat.lt_succ_self t) hlt
      simp only [upn_same] at q2
      have hdX := hd.below hF1.bel
      obtain ⟨-, d2, x', cx', e', d5, d6, d4⟩ := hdX
      cases e'
      obtain ⟨w5, hrun, hr5, ho5⟩ := copy8_min X r1 (o := 0) (dl := l) (cap := l) (a := x) (m := n - min (t * l) n) (n := min l (n - min (t * l) n)) (cap' := cx) (S := fun j => D (min (t * l) n + j)) (fun i hi => d2 i (by omega)) (fun h0 => by
        obtain ⟨b, o, e, hbl, hc⟩ := d4 (by omega)
        exact ⟨b, o, e, fun i hi => hc i (by omega)⟩) (by omega) (by omega) (by omega) (Nat.min_comm _ _)
      obtain ⟨a2, ha2, hsl⟩ := from8 x (n - min (t * l) n) cx (min l (n - min (t * l) n)) (by omega) d5
      have hd2 := rb_from8 hd (by omega) ha2
      have e9 : n - min (t * l) n - min l (n - min (t * l) n) = n - min ((t + 1) * l) n := by have := split_step (l := l) (n := n) (i := t); omega
      have HD : Hid (Rb w (.slice a2 (n - min (t * l) n - min l (n - min (t * l) n)) (cx - min l (n - min (t * l) n))) (n - min ((t + 1) * l) n) (fun j => D (min ((t + 1) * l) n + j))) := by
        show Rb _ _ _ _
        rw [← e9]
        exact hd2.congr (fun i hi => by rw [← split_step (l := l) (n := n) (i := t), Nat.add_assoc])
      have k5 : Kp (upn B t wr.heap.size t) X w5 := by rw [upn_same]; exact ho5.kp
      have hF5 := hF1.turn (Nat.lt_succ_self t) k5 (by simp only [upn_same]; exact hr5)
      have HF : Hid (Fl w w5 w.heap.size s (t + 1) (fun _ => l) (fun _ => l) (upn B t wr.heap.size) (spl l n D)) := by
        refine hF5.congr (fun i _ => ?_) (fun i _ => ?_) (fun _ _ => rfl) (fun i hi j hj => ?_)
        · unfold upn; split <;> rfl
        · unfold upn; split <;> rfl
        · by_cases e : i = t
          · subst e
            rw [upn_same] at hj ⊢
            unfold spl pl
            dsimp only
            simp only [Nat.zero_le, Nat.zero_add, Nat.sub_zero, true_and]
            by_cases h1 : i * l + j < n
            · rw [if_pos h1, if_pos (by omega), Nat.min_eq_left (by omega)]
            · rw [if_neg h1, if_neg (by omega)]
          · rw [upn_other _ _ e, upn_other _ _ e]
      have ib : ((t : Nat) : Int) < (s : Int) := by omega
      have W1 := wrap_succ8 (j := t) (by have := HN.out; unfold big; omega)
      have HX : Hid (t < s) := hlt
      rw [hX] at hrun q2
      obtain ⟨c, hc⟩ : ∃ c, c = min l (n - min (t * l) n) := ⟨_, rfl⟩
      obtain ⟨L, hL⟩ : ∃ L, L = n - min (t * l) n := ⟨_, rfl⟩
      rw [← hL] at hc
      rw [← hL, ← hc] at hrun hsl HD
      rw [← hL]
      clear hd hF q0 r0 bA hF1 hX r1 d2 d5 d6 d4 hr5 ho5 ha2 hd2 e9 k5 hF5 hlt hc hL HN HV ht
      go_wp2
      go_roundw
      case rel => exact ⟨t + 1, upn B t wr.heap.size, HX.out, by first | rfl | (rw [W1]; rfl), HD.out, HF.out⟩
      case measure => first | exact meas_lt8 HX.out | (rw [W1]; exact meas_lt8 HX.out)
    · have htl : ¬ ((t : Nat) : Int) < (s : Int) := fun e => hlt (Int.ofNat_lt.1 e)
      obtain rfl : t = s := by omega
      clear hd
      go_wp2
      go_ret2
      exact ⟨_, rfl, ⟨B, hF.cs (by have := HN.out; unfold big; omega)⟩, hF.bel⟩
end Go.Proofs.Ytldacjpkblffbab
