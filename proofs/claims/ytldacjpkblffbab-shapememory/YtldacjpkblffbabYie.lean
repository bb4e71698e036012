import Derived.Test.YtldacjpkblffbabYid
namespace Go.Proofs.Ytldacjpkblffbab
open Go.RowKit Gf2
set_option linter.unusedVariables false

-- layer 16: Split of the document
set_option maxHeartbeats 2000000 in
set_option maxRecDepth 100000 in
theorem rsplit16_no (f k m : Int) (v : Value) (n : Nat) (D : Nat → Nat) (w : World) (hv : Rb w v n D) (h : lne f k m n ≠ 0) :
    Calls Try.prog 16 #[.int .i64 f, .int .i64 k, .int .i64 m, v] w fun e w' => e = .returned (.tuple #[.slice none 0 0, .int .i64 (lne f k m n)]) ∧ w' = w := by
  have c1 := fun x => rlength16 f k m n x
  unfold lnv at c1
  rw [if_neg h] at c1
  generalize lne f k m n = z at *
  have D1 : (z != 0) = true := by simpa using h
  have D2 : (z == 0) = false := by simpa using h
  obtain ⟨-, -, a, cap, rfl, -, -, -⟩ := hv
  clear h
  go_enter Try.func16, Try.ntmps16
  go_wp2_with (go_at_call 21; ((with_reducible refine (c1 _).mono ?_); rintro e w' ⟨rfl, rfl⟩))
  go_ret2
  exact ⟨rfl, rfl⟩
theorem split_quo {k m : Nat} (hk : 1 ≤ k) (h : k + m ≤ 65536) (C : Nat) (hC : C ≤ 1099511627776) : ∃ s d : Nat, Hid (s = k + m ∧ d = C / (k + m)) ∧ wrap64 ((k : Int) + (m : Int)) = (s : Int) ∧ (C : Int).tdiv (s : Int) = (d : Int) ∧ wrap64 (d : Int) = (d : Int) ∧ ¬ s = 0 := by
  have hd : C / (k + m) ≤ C := Nat.div_le_self _ _
  refine ⟨k + m, C / (k + m), ⟨rfl, rfl⟩, ?_, (Int.ofNat_tdiv _ _).symm, ?_, by omega⟩
  · unfold wrap64; omega
  · generalize C / (k + m) = d at hd; unfold wrap64; omega
set_option maxHeartbeats 2000000 in
set_option maxRecDepth 100000 in
theorem rsplit16_big (f : Int) (k m : Nat) (v : Value) (n : Nat) (D : Nat → Nat) (w : World) (hv : Rb w v n D) (h : lne f k m n = 0) (hb : 67108864 < (k + m) * ln16 f k n) :
    Calls Try.prog 16 #[.int .i64 f, .int .i64 (k : Int), .int .i64 (m : Int), v] w fun e w' => e = .returned (.tuple #[.slice none 0 0, .int .i64 5]) ∧ w' = w := by
  have c1 := fun x => rlength16 f k m n x
  unfold lnv at c1
  rw [if_pos h, h] at c1
  obtain ⟨hp, hn1, hn2⟩ := lne_ok h
  have hv' := prm_ok.1 hp
  have c1 : ∀ x, Calls Try.prog 21 #[.int .i64 f, .int .i64 (k : Int), .int .i64 (m : Int), .int .i64 (n : Int)] x fun e w' => e = .returned (.tuple #[.int .i64 (ln16 f k n : Nat), .int .i64 0]) ∧ w' = x := c1
  obtain ⟨l, hl⟩ : ∃ l, l = ln16 f k n := ⟨_, rfl⟩
  rw [← hl] at c1 hb
  obtain ⟨s, d, HS, W1, T1, W2, hs0⟩ := split_quo (k := k) (m := m) (by have := hv'.hk; omega) (by have := hv'.sum; omega) 67108864 (by decide)
  have T1 : (67108864 : Int).tdiv (s : Int) = (d : Int) := T1
  have D1 : d < l := by
    rw [HS.out.2]
    have : 0 < k + m := by have := hv'.hk; clear W1 W2; omega
    rw [Nat.div_lt_iff_lt_mul this, Nat.mul_comm]
    exact hb
  obtain ⟨-, -, a, cap, rfl, -, -, -⟩ := hv
  clear h hb hl hv' hp hn1 hn2
  go_enter Try.func16, Try.ntmps16
  go_wp2_with (go_at_call 21; ((with_reducible refine (c1 _).mono ?_); rintro e w' ⟨rfl, rfl⟩))
  go_ret2
  exact ⟨rfl, rfl⟩
/-- row j of the document's Split, its first i bytes laid. -/
def rsp (l n : Nat) (D : Nat → Nat) (j i x : Nat) : Nat := if x < i then spl l n D j x else 0
theorem rsp_full {l n k : Nat} {D : Nat → Nat} {j i : Nat} (hi : i ≤ l) (hkl : n ≤ k * l) (h : ¬ (i < l ∧ j < k ∧ j * l + i < n)) : ∀ x, x < l → rsp l n D j i x = spl l n D j x := by
  intro x hx
  unfold rsp
  by_cases e : x < i
  · rw [if_pos e]
  · rw [if_neg e]
    unfold spl
    rw [if_neg]
    intro hc
    by_cases hj : j < k
    · exact h ⟨by omega, hj, by omega⟩
    · have : k * l ≤ j * l := Nat.mul_le_mul_right _ (by omega)
      omega
theorem rsp_nums {j l i n : Nat} (h : j * l ≤ 67108864) (hi : i ≤ 67108864) : ∃ x1 x2 : Nat, Hid (x1 = j * l ∧ x2 = j * l + i) ∧ Hid (wrap64 ((j : Int) * (l : Int)) = (x1 : Int) ∧ IntKind.i64.wrap ((j : Int) * (l : Int)) = (x1 : Int) ∧ wrap64 ((x1 : Int) + (i : Int)) = (x2 : Int) ∧ IntKind.i64.wrap ((x1 : Int) + (i : Int)) = (x2 : Int)) := by
  refine ⟨j * l, j * l + i, ⟨rfl, rfl⟩, ?_⟩
  show _ ∧ _ ∧ _ ∧ _
  have e : ((j : Int) * (l : Int)) = ((j * l : Nat) : Int) := by rw [Int.natCast_mul]
  rw [e]
  generalize j * l = x at h
  simp only [IntKind.wrap_i64]
  unfold wrap64
  refine ⟨by omega, by omega, by omega, by omega⟩
set_option maxHeartbeats 8000000 in
set_option maxRecDepth 100000 in
theorem rsplit16_yes (f : Int) (k m : Nat) (v : Value) (n : Nat) (D : Nat → Nat) (w : World) (hv : Rb w v n D) (h : lne f k m n = 0) (hb : (k + m) * ln16 f k n ≤ 67108864) :
    Calls Try.prog 16 #[.int .i64 f, .int .i64 (k : Int), .int .i64 (m : Int), v] w fun e w' => ∃ u, e = .returned (.tuple #[u, .int .i64 0]) ∧ An16 w w' u (k + m) (ln16 f k n) (spl (ln16 f k n) n D) := by
  have c1 := fun x => rlength16 f k m n x
  unfold lnv at c1
  rw [if_pos h, h] at c1
  obtain ⟨hp, hn1, hn2⟩ := lne_ok h
  have hv' := prm_ok.1 hp
  have hkl := ln16_ge f (k := k) (n := n) (by have := hv'.hk; omega)
  have c1 : ∀ x, Calls Try.prog 21 #[.int .i64 f, .int .i64 (k : Int), .int .i64 (m : Int), .int .i64 (n : Int)] x fun e w' => e = .returned (.tuple #[.int .i64 (ln16 f k n : Nat), .int .i64 0]) ∧ w' = x := c1
  obtain ⟨l, hl⟩ : ∃ l, l = ln16 f k n := ⟨_, rfl⟩
  rw [← hl] at c1 hb hkl
  rw [← hl]
  obtain ⟨s, d, HS, W1, T1, W2, hs0⟩ := split_quo (k := k) (m := m) (by have := hv'.hk; omega) (by have := hv'.sum; omega) 67108864 (by decide)
  have T1 : (67108864 : Int).tdiv (s : Int) = (d : Int) := T1
  have D1 : ¬ d < l := by
    rw [HS.out.2]
    have : 0 < k + m := by have := hv'.hk; clear W1 W2; omega
    rw [Nat.div_lt_iff_lt_mul this, Nat.mul_comm]
    exact Nat.not_lt.2 hb
  have hs6 : s ≤ 65536 := by have := HS.out.1; have := hv'.sum; clear W1 W2; omega
  have hl6 : l ≤ 67108864 := by
    have : 1 * l ≤ (k + m) * l := Nat.mul_le_mul_right _ (by have := hv'.hk; clear W1 W2; omega)
    clear W1 W2
    omega
  rw [← HS.out.1] at hb ⊢
  have hmk := make_rows s (by clear W1 W2; omega)
  have hm8 := make_u8 l (by clear W1 W2; omega)
  have hks : k ≤ s := by have := HS.out.1; clear W1 W2; omega
  obtain ⟨a, cap, rfl⟩ : ∃ a cap, v = .slice a n cap := by obtain ⟨-, -, a, cap, e, -⟩ := hv; exact ⟨a, cap, e⟩
  have HN : Hid (s ≤ 65536 ∧ l ≤ 67108864 ∧ s * l ≤ 67108864 ∧ n ≤ k * l ∧ k ≤ s ∧ Rb w (.slice a n cap) n D) := ⟨hs6, hl6, hb, hkl, hks, hv⟩
  clear h hb hl hv' hp hn1 hn2 hv hs6 hl6 hkl hks
  go_enter Try.func16, Try.ntmps16
  go_wp2_with (go_at_call 21; ((with_reducible refine (c1 _).mono ?_); (rintro e w9 ⟨rfl, hw9⟩; have hw9 := hw9.symm; subst hw9)))
  clear hmk c1 T1 W2 D1 hs0
  have HW : Hid (wrap64 ((k : Int) + (m : Int)) = (s : Int)) := W1
  clear W1
  go_loopw [13] (fun i wr => ∃ (t : Nat) (B : Nat → Nat), t ≤ s ∧ i = .int .i64 t ∧ Fl w wr w.heap.size s t (fun _ => l) (fun _ => l) B (spl l n D)) (fun i _ => s - (intOf i).toNat)
  case atStart => exact ⟨0, fun _ => 0, Nat.zero_le _, rfl, Fl.start _ _ _ _ _ _⟩
  case round =>
    obtain ⟨t, B, ht, rfl, hF⟩ := hrel
    by_cases hlt : t < s
    · have bA : Below wr.heap.size wr (wr.alloc (.cells (madeCells #[.int .u8 0] l) 5)) := (Below.refl _ _).alloc (Nat.le_refl _) _
      have qa : (wr.alloc (.cells (madeCells #[.int .u8 0] l) 5)).frozen? ⟨w.heap.size, t, none⟩ = false := (hF.below bA).froz t
      have qb := (hF.below bA).bare hlt
      have r0 := made_rw l (by have := HN.out; omega) wr
      have hF1 := hF.next hlt bA (Nat.le_refl _) r0 (Nat.le_refl _)
      have HF1 : Hid (Fl w ((wr.alloc (.cells (madeCells #[.int .u8 0] l) 5)).setCell ⟨w.heap.size, t, none⟩ (.slice (some ⟨wr.heap.size, 0, none⟩) l l)) w.heap.size s (t + 1) (fun _ => l) (fun _ => l) (upn B t wr.heap.size) (upn (spl l n D) t (rsp l n D t 0))) := by
        refine hF1.congr (fun i _ => ?_) (fun i _ => ?_) (fun _ _ => rfl) (fun i hi j hj => ?_)
        · unfold upn; split <;> rfl
        · unfold upn; split <;> rfl
        · by_cases e : i = t
          · subst e; rw [upn_same, upn_same]; unfold rsp; rw [if_neg (Nat.not_lt_zero _)]
          · rw [upn_other _ _ e, upn_other _ _ e]
      have it : ((t : Nat) : Int) < (s : Int) := by omega
      have WT := wrap_succ8 (j := t) (by have := HN.out; unfold big; omega)
      have HT : Hid (t < s ∧ t * l ≤ 67108864) := ⟨hlt, Nat.le_trans (Nat.mul_le_mul_right _ ht) HN.out.2.2.1⟩
      have W1 := HW.out
      clear hF bA r0 hF1 hlt ht
      go_wp2
      clear qa qb it W1
      obtain ⟨X, hX⟩ : ∃ X, X = (wr.alloc (.cells (madeCells #[.int .u8 0] l) 5)).setCell ⟨w.heap.size, t, none⟩ (.slice (some ⟨wr.heap.size, 0, none⟩) l l) := ⟨_, rfl⟩
      obtain ⟨B2, hB2⟩ : ∃ B2, B2 = upn B t wr.heap.size := ⟨_, rfl⟩
      rw [← hX, ← hB2] at HF1
      rw [← hX]
      clear hX hB2
      go_loopw [14] (fun i w2 => ∃ c : Nat, c ≤ l ∧ i = .int .i64 c ∧ Fl w w2 w.heap.size s (t + 1) (fun _ => l) (fun _ => l) B2 (upn (spl l n D) t (rsp l n D t c))) (fun i _ => l - (intOf i).toNat)
      case atStart => exact ⟨0, Nat.zero_le _, rfl, HF1.out⟩
      case round =>
        obtain ⟨c, hc, rfl, hF⟩ := hrel
        obtain ⟨x1, x2, HX, HWr⟩ := rsp_nums (j := t) (l := l) (i := c) (n := n) HT.out.2 (by have := HN.out; omega)
        have ek : decide (t < k) = decide (t < k) := rfl
        by_cases hgo : c < l ∧ t < k ∧ t * l + c < n
        · obtain ⟨hcl, htk, hxn⟩ := hgo
          obtain ⟨-, hD8, a', cap', e', -, -, h4⟩ := HN.out.2.2.2.2.2
          cases e'
          obtain ⟨b, o, rfl, hbl, hcc⟩ := h4 (by omega)
          have hx2 : x2 < n := by rw [HX.out.2]; exact hxn
          have q1 : wr.cell? ⟨b, o + x2, none⟩ = some (.int .u8 (D x2 : Nat)) := (hF.bel.cell (p := ⟨b, o + x2, none⟩) hbl).trans (hcc x2 hx2)
          have q2 := hF.cell (Nat.lt_succ_self t) HT.out.1
          have r1 := (hF.rows t (Nat.lt_succ_self _)).2.2.2
          simp only [upn_same] at r1
          have q3 := r1.2.2.cell hcl
          have q4 := r1.2.2.frozen c
          have hsp : spl l n D t c = D x2 := by unfold spl; rw [if_pos hxn, HX.out.2]
          have hF5 := hF.turn (i := t) (Nat.lt_succ_self t) (((Only.refl (B2 t) wr).setCell c (.int .u8 (D x2 : Nat))).kp) (r1.set c (D x2) (hD8 x2 hx2))
          have HD : Hid (Fl w (wr.setCell ⟨B2 t, c, none⟩ (.int .u8 (D x2 : Nat))) w.heap.size s (t + 1) (fun _ => l) (fun _ => l) B2 (upn (spl l n D) t (rsp l n D t (c + 1)))) := by
            refine hF5.congr (fun _ _ => rfl) (fun _ _ => rfl) (fun _ _ => rfl) (fun i hi j hj => ?_)
            by_cases e : i = t
            · subst e
              rw [upn_same, upn_same]
              unfold rsp
              by_cases e2 : j = c
              · rw [if_pos e2, if_pos (by omega), e2, hsp]
              · rw [if_neg e2]
                by_cases e3 : j < c
                · rw [if_pos e3, if_pos (by omega)]
                · rw [if_neg e3, if_neg (by omega)]
            · rw [upn_other _ _ e, upn_other _ _ e, upn_other _ _ e]
          have ic : ((c : Nat) : Int) < (l : Int) := Int.ofNat_lt.2 hcl
          have ik : ((t : Nat) : Int) < (k : Int) := Int.ofNat_lt.2 htk
          have ix : ((x2 : Nat) : Int) < (n : Int) := Int.ofNat_lt.2 hx2
          have its : ((t : Nat) : Int) < (s : Int) := Int.ofNat_lt.2 HT.out.1
          have Wc := wrap_succ8 (j := c) (by have := HN.out; unfold big; omega)
          have HY : Hid (c < l) := hcl
          obtain ⟨V1, V2, V3, V4⟩ := HWr.out
          generalize D x2 = byt at *
          generalize rsp l n D t c c = old at q3
          generalize B2 t = gt at *
          clear hF hF5 r1 hsp hcc h4 hD8 hcl hxn hx2 hbl HWr hc HF1 ek
          go_wp2
          refine region_tail8 13 (by kernel_rfl) (by kernel_rfl) ?_
          simp only [List.take_succ_cons, List.take_zero, List.drop_succ_cons, List.drop_zero]
          repeat still_step
          refine wpStill_nil ?_
          go_wp2
          go_roundw
          case rel => exact ⟨c + 1, HY.out, by first | rfl | (rw [Wc]; rfl), HD.out.drewN 1⟩
          case measure => first | exact meas_lt8 HY.out | (rw [Wc]; exact meas_lt8 HY.out)
        · have HD : Hid (Fl w wr w.heap.size s (t + 1) (fun _ => l) (fun _ => l) B2 (spl l n D)) := by
            refine hF.congr (fun _ _ => rfl) (fun _ _ => rfl) (fun _ _ => rfl) (fun i hi j hj => ?_)
            by_cases e : i = t
            · subst e; rw [upn_same]; exact rsp_full hc HN.out.2.2.2.1 hgo j hj
            · rw [upn_other _ _ e]
          have hx2 : ¬ (c < l ∧ t < k ∧ x2 < n) := by rw [HX.out.2]; exact hgo
          obtain ⟨V1, V2, V3, V4⟩ := HWr.out
          clear hF hgo hc HF1 HWr V2 V4
          by_cases g1 : c < l
          · by_cases g2 : t < k
            · have g3 : ¬ x2 < n := fun e => hx2 ⟨g1, g2, e⟩
              clear hx2
              go_wp2
              go_roundw
              case rel => first | exact ⟨t + 1, B2, HT.out.1, by first | rfl | (rw [WT]; rfl), HD.out⟩ | exact ⟨_, ⟨t + 1, HT.out.1, rfl, B2, HD.out⟩, rfl, HW.out.symm⟩
              case measure => first | exact meas_lt8 HT.out.1 | (rw [WT]; exact meas_lt8 HT.out.1)
            · clear hx2 V1 V3
              go_wp2
              go_roundw
              case rel => first | exact ⟨t + 1, B2, HT.out.1, by first | rfl | (rw [WT]; rfl), HD.out⟩ | exact ⟨_, ⟨t + 1, HT.out.1, rfl, B2, HD.out⟩, rfl, HW.out.symm⟩
              case measure => first | exact meas_lt8 HT.out.1 | (rw [WT]; exact meas_lt8 HT.out.1)
          · clear hx2 V1 V3
            go_wp2
            go_roundw
            case rel => first | exact ⟨t + 1, B2, HT.out.1, by first | rfl | (rw [WT]; rfl), HD.out⟩ | exact ⟨_, ⟨t + 1, HT.out.1, rfl, B2, HD.out⟩, rfl, HW.out.symm⟩
            case measure => first | exact meas_lt8 HT.out.1 | (rw [WT]; exact meas_lt8 HT.out.1)
    · have htl : ¬ ((t : Nat) : Int) < (s : Int) := fun e => hlt (Int.ofNat_lt.1 e)
      obtain rfl : t = s := by omega
      have W1 := HW.out
      go_wp2
      go_ret2
      exact ⟨_, rfl, ⟨B, hF.cs (by have := HN.out; unfold big; omega)⟩, hF.bel⟩
end Go.Proofs.Ytldacjpkblffbab
