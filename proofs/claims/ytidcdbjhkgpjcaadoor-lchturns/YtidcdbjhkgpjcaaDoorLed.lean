import Derived.Test.YtidcdbjhkgpjcaaDoorLta
namespace Go.Proofs.YtidcdbjhkgpjcaaDoor
open Go.RowKit Gf2
set_option linter.unusedVariables false

theorem pw_nums {P most : Nat} (h : P ≤ most) (hm : most ≤ 65536) : wrap64 (2 * (P : Int)) = ((2 * P : Nat) : Int) ∧ 2 * P ≤ 131072 := by unfold wrap64; omega
theorem meas_pw {P : Nat} (h : 2 * P ≤ 131072) (h0 : 0 < P) : 131073 - (intOf (Value.int .i64 ((2 * P : Nat) : Int))).toNat < 131073 - (intOf (Value.int .i64 (P : Int))).toNat := by simp [intOf]; omega
set_option maxHeartbeats 4000000 in
set_option maxRecDepth 100000 in
theorem refpower13 (n most : Nat) (hm : most ≤ 65536) (w : World) :
    Calls Tryd.prog 39 #[.int .i64 (n : Int), .int .i64 (most : Int)] w fun e w' => ((pw2 n most → e = .returned (.bool true)) ∧ (¬ pw2 n most → e = .returned (.bool false))) ∧ w' = w := by
  go_enter Tryd.func39, Tryd.ntmps39
  go_wp2
  go_loopw [5] (fun pv wr => ∃ t P : Nat, P = 2 ^ t ∧ P ≤ 131072 ∧ (∀ s, s < t → n ≠ 2 ^ s) ∧ pv = .int .i64 (P : Int) ∧ wr = w) (fun pv _ => 131073 - (intOf pv).toNat)
  case atStart => exact ⟨0, 1, rfl, by decide, fun s hs => absurd hs (Nat.not_lt_zero _), rfl, rfl⟩
  case round =>
    obtain ⟨t, P, hP, hP2, hne, rfl, hw⟩ := hrel
    subst hw
    have hP0 : 0 < P := by rw [hP]; exact Nat.two_pow_pos t
    by_cases hle : P ≤ most
    · have pb : ((P : Nat) : Int) ≤ (most : Int) := Int.ofNat_le.2 hle
      by_cases he : n = P
      · have D1 : ((n : Int) == (P : Int)) = true := by simp; omega
        have HH : Hid (pw2 n most) := ⟨t, by rw [he, hP], by rw [he]; exact hle⟩
        clear hP hne hP2 he
        go_wp2
        go_ret
        exact ⟨⟨fun _ => rfl, fun h => absurd HH.out h⟩, rfl⟩
      · have D1 : ((n : Int) == (P : Int)) = false := by simp; omega
        obtain ⟨W1, h2⟩ := pw_nums hle hm
        have HH : Hid (2 * P = 2 ^ (t + 1) ∧ 2 * P ≤ 131072 ∧ (∀ s, s < t + 1 → n ≠ 2 ^ s) ∧ 0 < P) := ⟨by rw [hP, Nat.pow_succ, Nat.mul_comm], h2, fun s hs => by
          by_cases e : s = t
          · rw [e, ← hP]; exact he
          · exact hne s (by omega), hP0⟩
        clear hP hne hP2 he h2 hP0
        go_wp2
        go_roundw
        case rel => exact ⟨t + 1, 2 * P, HH.out.1, HH.out.2.1, HH.out.2.2.1, by first | rfl | rw [W1], by first | rfl | trivial⟩
        case measure => first | exact meas_pw HH.out.2.1 HH.out.2.2.2 | (rw [W1]; exact meas_pw HH.out.2.1 HH.out.2.2.2)
    · have pb : ¬ ((P : Nat) : Int) ≤ (most : Int) := fun e => hle (Int.ofNat_le.1 e)
      have HH : Hid (¬ pw2 n most) := fun ⟨k, h1, h2⟩ => by
        by_cases e : k < t
        · exact hne k e h1
        · have : 2 ^ t ≤ 2 ^ k := Nat.pow_le_pow_right (by decide) (by omega)
          omega
      clear hP hne hP2 hP0
      go_wp2
      go_ret
      exact ⟨⟨fun h => absurd h HH.out, fun _ => rfl⟩, rfl⟩
/-- T rounds of the document's derivative at place j. -/
def rdv (n : Nat) (F : Nat → Nat) : Nat → Nat → Nat
  | 0, _ => 0
  | T + 1, j => rdv n F T j ^^^ (if j / 2 ^ T % 2 = 0 ∧ j + 2 ^ T < n then F (j + 2 ^ T) else 0)
theorem rdv_lt {n : Nat} {F : Nat → Nat} (hF : ∀ j, j < n → F j < 65536) : ∀ T j, rdv n F T j < 65536 := by
  intro T
  induction T with
  | zero => intro j; exact Nat.zero_lt_succ _
  | succ T ih =>
    intro j
    refine Nat.xor_lt_two_pow (n := 16) (ih j) ?_
    split
    · next h => exact hF _ h.2
    · decide
theorem rdv_dvs {n k : Nat} (hn : n = 2 ^ k) {F : Nat → Nat} {j : Nat} (hj : j < n) : ∀ T, T ≤ k → rdv n F T j = dvs T F j := by
  intro T
  induction T with
  | zero => intro _; rfl
  | succ T ih =>
    intro hT
    rw [rdv, dvs, ih (by omega)]
    by_cases h : j / 2 ^ T % 2 = 0
    · rw [if_pos h, if_pos ⟨h, by rw [hn]; exact up_lt (by omega) (hn ▸ hj) h⟩]
    · rw [if_neg h, if_neg (fun e => h e.1)]
theorem rdv_end {n k : Nat} (hn : n = 2 ^ k) (F : Nat → Nat) (j : Nat) : ∀ d, rdv n F (k + d) j = rdv n F k j := by
  intro d
  induction d with
  | zero => rfl
  | succ d ih =>
    rw [show k + (d + 1) = (k + d) + 1 from rfl, rdv, ih, if_neg, Nat.xor_zero]
    intro h
    have : 2 ^ k ≤ 2 ^ (k + d) := Nat.pow_le_pow_right (by decide) (by omega)
    omega
theorem rdv_all {n k : Nat} (hn : n = 2 ^ k) (hk : k ≤ 16) {F : Nat → Nat} {j : Nat} (hj : j < n) : rdv n F 16 j = dvs k F j := by
  have := rdv_end hn F j (16 - k)
  rw [show k + (16 - k) = 16 by omega] at this
  rw [this, rdv_dvs hn hj k (Nat.le_refl _)]
/-- the row while place j is worked at. -/
def rdr (n : Nat) (F : Nat → Nat) (j T x : Nat) : Nat := if x < j then rdv n F 16 x else if x = j then rdv n F T j else 0
theorem rdr_next (n : Nat) (F : Nat → Nat) (j : Nat) (x : Nat) : rdr n F j 16 x = rdr n F (j + 1) 0 x := by
  unfold rdr
  by_cases h : x < j
  · rw [if_pos h, if_pos (by omega)]
  · rw [if_neg h]
    by_cases e : x = j
    · subst e
      rw [if_pos rfl, if_pos (by omega)]
    · rw [if_neg e, if_neg (by omega)]
      split
      · rfl
      · rfl
theorem rdr_0 (n : Nat) (F : Nat → Nat) (x : Nat) : rdr n F 0 0 x = 0 := by
  unfold rdr
  rw [if_neg (Nat.not_lt_zero _)]
  split
  · rfl
  · rfl
theorem rdr_at (n : Nat) (F : Nat → Nat) (j T : Nat) : rdr n F j T j = rdv n F T j := by unfold rdr; rw [if_neg (Nat.lt_irrefl _), if_pos rfl]
theorem rdr_step (n : Nat) (F : Nat → Nat) (j T x : Nat) : (if x = j then rdv n F (T + 1) j else rdr n F j T x) = rdr n F j (T + 1) x := by
  unfold rdr
  by_cases e : x = j
  · subst e; rw [if_pos rfl, if_neg (Nat.lt_irrefl _), if_pos rfl]
  · rw [if_neg e, if_neg e, if_neg e]
theorem rdr_same {n : Nat} {F : Nat → Nat} {j T : Nat} (h : rdv n F (T + 1) j = rdv n F T j) (x : Nat) : rdr n F j T x = rdr n F j (T + 1) x := by unfold rdr; rw [h]
theorem rdr_end (n : Nat) (F : Nat → Nat) {x : Nat} (h : x < n) : rdr n F n 0 x = rdv n F 16 x := by unfold rdr; rw [if_pos h]
theorem u64_small13 {i : Nat} (h : i < 16) : IntKind.u64.wrap (i : Int) = (i : Int) := by rw [IntKind.wrap_u64]; omega
theorem dr_nums {j P n J : Nat} (hj : j < n) (hn : n ≤ 65536) (hP : P ≤ 32768) (hJ : J = j + P) : J ≤ 131072 := by omega
set_option maxHeartbeats 8000000 in
set_option maxRecDepth 100000 in
theorem refDerivative13_yes (v : Value) (k n : Nat) (F : Nat → Nat) (hn : n = 2 ^ k) (hk : k ≤ 16) (w : World) (h : Q6 w v n F) :
    Calls Tryd.prog 22 #[v] w fun e w' => e = .returned (.tuple #[.slice (some ⟨w.heap.size, 0, none⟩) n n, .int .i64 0]) ∧ R6 w' w.heap.size n (dvs k F) ∧ Below w.heap.size w w' := by
  have hn2 : n ≤ 65536 := by rw [hn]; exact Nat.pow_le_pow_right (by decide) hk
  have h0 : 0 < n := by rw [hn]; exact Nat.two_pow_pos k
  obtain ⟨hb0, hF, a, cap, rfl, hc1, hc2, h4⟩ := h
  obtain ⟨b, o, rfl, hbl, hcell⟩ := h4 h0
  have c1 : Calls Tryd.prog 39 #[.int .i64 (n : Int), .int .i64 65536] w fun e w' => e = .returned (.bool true) ∧ w' = w :=
    (refpower13 n 65536 (Nat.le_refl _) w).mono fun e w' ⟨⟨h1, _⟩, hw⟩ => ⟨h1 ⟨k, hn, hn2⟩, hw⟩
  have hmk := make_w6 n (by omega)
  have b0 := made_b6 n w
  have HN : Hid (n = 2 ^ k ∧ n ≤ 65536 ∧ k ≤ 16) := ⟨hn, hn2, hk⟩
  have HF : Hid (∀ j, j < n → F j < 65536) := hF
  have HC : Hid (∀ i, i < n → w.cell? ⟨b, o + i, none⟩ = some (.int .u16 (F i : Nat))) := hcell
  have HB : Hid (b < w.heap.size) := hbl
  have R0 : Hid (R6 (w.alloc (.cells (madeCells #[.int .u16 0] n) 26)) w.heap.size n (rdr n F 0 0)) := (made_r6 n (by omega) w).congr (fun x _ => (rdr_0 n F x).symm)
  have B0 : Hid (Below w.heap.size w (w.alloc (.cells (madeCells #[.int .u16 0] n) 26))) := b0
  clear hn hn2 h0 hk hF hcell hbl h4 hc1 hc2 hb0 b0
  go_enter Tryd.func22, Tryd.ntmps22
  go_wp2_with (go_at_call 39; ((with_reducible refine (c1).mono ?_); (rintro e w9 ⟨rfl, hw9⟩; have hw9 := hw9.symm; subst hw9)))
  clear hmk c1
  go_loopw [5] (fun jv wr => ∃ j : Nat, j ≤ n ∧ jv = .int .i64 j ∧ R6 wr w.heap.size n (rdr n F j 0) ∧ Below w.heap.size w wr) (fun jv _ => n - (intOf jv).toNat)
  case atStart => exact ⟨0, Nat.zero_le _, rfl, R0.out, B0.out⟩
  case round =>
    obtain ⟨j, hj, rfl, hr, hb⟩ := hrel
    by_cases hjt : j < n
    · have jb : ((j : Nat) : Int) < (n : Int) := Int.ofNat_lt.2 hjt
      have W1 := wrap_succ8 (j := j) (Nat.lt_of_lt_of_le hjt (Nat.le_trans HN.out.2.1 (by decide)))
      have HR : Hid (R6 wr w.heap.size n (rdr n F j 0) ∧ Below w.heap.size w wr) := ⟨hr, hb⟩
      clear hr hb
      go_wp2
      go_loopw [6] (fun iv wq => ∃ i : Nat, i ≤ 16 ∧ iv = .int .i64 i ∧ R6 wq w.heap.size n (rdr n F j i) ∧ Below w.heap.size w wq) (fun iv _ => 16 - (intOf iv).toNat)
      case atStart => exact ⟨0, Nat.zero_le _, rfl, HR.out.1, HR.out.2⟩
      case round =>
        obtain ⟨i, hi, rfl, hr, hb⟩ := hrel
        by_cases hlt : i < 16
        · have ib : ((i : Nat) : Int) < 16 := Int.ofNat_lt.2 hlt
          have W2 := wrap_succ8 (j := i) (Nat.lt_trans hlt (by decide))
          have A1 := i64_andH j i (Nat.lt_of_lt_of_le hjt (Nat.le_trans HN.out.2.1 (by decide)))
          have M : min i 64 = i := Nat.min_eq_left (Nat.le_trans hi (by decide))
          have U1 : IntKind.u64.wrap (i : Int) = (i : Int) := u64_small13 hlt
          obtain ⟨P, hP⟩ : ∃ P, P = 2 ^ i := ⟨_, rfl⟩
          have hP2 : P ≤ 32768 := by rw [hP]; exact Nat.pow_le_pow_right (by decide) (Nat.le_of_lt_succ hlt)
          have E1 := pow_cast hP (Nat.le_trans hP2 (by decide))
          have E2 := wrap_k E1
          obtain ⟨J, hJ⟩ : ∃ J, J = j + P := ⟨_, rfl⟩
          have W3 := wrap_add_eq hJ (dr_nums hjt HN.out.2.1 hP2 hJ)
          have W4 := wrap_k W3
          by_cases hbit : j / 2 ^ i % 2 = 0
          · rw [hbit] at A1
            by_cases hJn : J < n
            · have jb3 : ((J : Nat) : Int) < (n : Int) := Int.ofNat_lt.2 hJn
              have e1 : rdv n F (i + 1) j = rdv n F i j ^^^ F J := by rw [rdv, if_pos ⟨hbit, by rw [← hP, ← hJ]; exact hJn⟩, ← hP, ← hJ]
              have l1 := rdv_lt HF.out i j
              have l2 := HF.out J hJn
              have q1 := hr.2.2.cell hjt
              rw [rdr_at] at q1
              have q2 := hr.2.2.frozen j
              have q3 : wr.cell? ⟨b, o + J, none⟩ = some (.int .u16 (F J : Nat)) := (hb.cell (p := ⟨b, o + J, none⟩) HB.out).trans (HC.out _ hJn)
              have lx := Nat.xor_lt_two_pow (n := 16) l1 l2
              have HV : Hid (R6 (wr.setCell ⟨w.heap.size, j, none⟩ (.int .u16 ((rdv n F i j ^^^ F J : Nat) : Int))) w.heap.size n (rdr n F j (i + 1)) ∧ Below w.heap.size w (wr.setCell ⟨w.heap.size, j, none⟩ (.int .u16 ((rdv n F i j ^^^ F J : Nat) : Int)))) :=
                ⟨(hr.set j _ lx).congr (fun x _ => by rw [← e1]; exact rdr_step n F j i x), hb.setCell (Nat.le_refl _) _⟩
              have X := u16_xor_nat (rdv n F i j) (F J) l1 l2
              obtain ⟨D, hD⟩ : ∃ D, D = rdv n F i j := ⟨_, rfl⟩
              obtain ⟨G, hG⟩ : ∃ G, G = F J := ⟨_, rfl⟩
              rw [← hD, ← hG] at X HV
              rw [← hD] at q1
              rw [← hG] at q3
              clear hr hb e1 l1 l2 lx hbit hP hP2 hJ hD hG hJn
              go_wp2
              refine region_tail13 16 (by kernel_rfl) (by kernel_rfl) ?_
              simp only [List.take_succ_cons, List.take_zero, List.drop_succ_cons, List.drop_zero]
              repeat still_step
              refine wpStill_nil ?_
              go_wp2
              go_roundw
              case rel => exact ⟨i + 1, hlt, by first | rfl | (rw [W2]; rfl), HV.out.1.drew, HV.out.2.drew⟩
              case measure => first | exact meas_lt8 hlt | (rw [W2]; exact meas_lt8 hlt)
            · have jb3 : ¬ ((J : Nat) : Int) < (n : Int) := fun e => hJn (Int.ofNat_lt.1 e)
              have e1 : rdv n F (i + 1) j = rdv n F i j := by rw [rdv, if_neg (fun e => hJn (by rw [hJ, hP]; exact e.2)), Nat.xor_zero]
              have HV : Hid (R6 wr w.heap.size n (rdr n F j (i + 1)) ∧ Below w.heap.size w wr) := ⟨hr.congr (fun x _ => rdr_same e1 x), hb⟩
              clear hr hb e1 hbit hP hP2 hJ hJn
              go_wp2
              go_roundw
              case rel => exact ⟨i + 1, hlt, by first | rfl | (rw [W2]; rfl), HV.out.1, HV.out.2⟩
              case measure => first | exact meas_lt8 hlt | (rw [W2]; exact meas_lt8 hlt)
          · have hb1 : j / 2 ^ i % 2 = 1 := by rcases Nat.mod_two_eq_zero_or_one (j / 2 ^ i) with h | h
                                               · exact absurd h hbit
                                               · exact h
            rw [hb1] at A1
            have e1 : rdv n F (i + 1) j = rdv n F i j := by rw [rdv, if_neg (fun e => hbit e.1), Nat.xor_zero]
            have HV : Hid (R6 wr w.heap.size n (rdr n F j (i + 1)) ∧ Below w.heap.size w wr) := ⟨hr.congr (fun x _ => rdr_same e1 x), hb⟩
            clear hr hb e1 hbit hb1 hP hP2 hJ
            go_wp2
            go_roundw
            case rel => exact ⟨i + 1, hlt, by first | rfl | (rw [W2]; rfl), HV.out.1, HV.out.2⟩
            case measure => first | exact meas_lt8 hlt | (rw [W2]; exact meas_lt8 hlt)
        · have hi16 : i = 16 := Nat.le_antisymm hi (Nat.le_of_not_lt hlt)
          subst hi16
          have HV : Hid (R6 wr w.heap.size n (rdr n F (j + 1) 0) ∧ Below w.heap.size w wr) := ⟨hr.congr (fun x _ => rdr_next n F j x), hb⟩
          clear hr hb
          go_wp2
          go_roundw
          case rel => exact ⟨j + 1, hjt, by first | rfl | (rw [W1]; rfl), HV.out.1, HV.out.2⟩
          case measure => first | exact meas_lt8 hjt | (rw [W1]; exact meas_lt8 hjt)
    · have hjn : j = n := Nat.le_antisymm hj (Nat.le_of_not_lt hjt)
      subst hjn
      have HV : Hid (R6 wr w.heap.size j (dvs k F) ∧ Below w.heap.size w wr) := ⟨hr.congr (fun x hx => by rw [rdr_end j F hx]; exact rdv_all HN.out.1 HN.out.2.2 hx), hb⟩
      clear hr hb
      go_wp2
      go_ret2
      exact ⟨rfl, HV.out⟩
set_option maxHeartbeats 2000000 in
set_option maxRecDepth 100000 in
theorem refDerivative13_no (v : Value) (n : Nat) (F : Nat → Nat) (w : World) (h : Q6 w v n F) (hn : ¬ pw2 n 65536) :
    Calls Tryd.prog 22 #[v] w fun e w' => e = .returned (.tuple #[.slice none 0 0, .int .i64 130]) ∧ w' = w := by
  obtain ⟨hb0, hF, a, cap, rfl, hc1, hc2, h4⟩ := h
  have c1 : Calls Tryd.prog 39 #[.int .i64 (n : Int), .int .i64 65536] w fun e w' => e = .returned (.bool false) ∧ w' = w :=
    (refpower13 n 65536 (Nat.le_refl _) w).mono fun e w' ⟨⟨_, h2⟩, hw⟩ => ⟨h2 hn, hw⟩
  clear hb0 hF hc1 hc2 h4 hn
  go_enter Tryd.func22, Tryd.ntmps22
  go_wp2_with (go_at_call 39; ((with_reducible refine (c1).mono ?_); rintro e w' ⟨rfl, rfl⟩))
  go_ret2
  exact ⟨rfl, rfl⟩
end Go.Proofs.YtidcdbjhkgpjcaaDoor
