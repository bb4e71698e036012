import Derived.Test.YtaepcecjblojjabDoorDtxt
namespace Go.Proofs.YtaepcecjblojjabDoor
open Go.RowKit Gf2

/-- the text of the exponents from k = 64 - m on, the highest first, as the program builds it. -/
def dnF (p : Nat) : Nat → ByteArray
  | 0 => ⟨#[]⟩
  | m + 1 => if p / 2 ^ (63 - m) % 2 = 1 then (if (dnF p m).size = 0 then termB (63 - m) else dnF p m ++ ⟨#[43]⟩ ++ termB (63 - m)) else dnF p m
/-- the text of the exponents below k. -/
def upF (p : Nat) : Nat → ByteArray
  | 0 => ⟨#[]⟩
  | k + 1 => if p / 2 ^ k % 2 = 1 then (if (upF p k).size = 0 then termB k else termB k ++ ⟨#[43]⟩ ++ upF p k) else upF p k
def joinB (a b : ByteArray) : ByteArray := if a.size = 0 then b else if b.size = 0 then a else a ++ ⟨#[43]⟩ ++ b
def txt (p : Nat) : ByteArray := if p = 0 then ⟨#[48]⟩ else upF p 64

theorem size_zero {a : ByteArray} (h : a.size = 0) : a = ⟨#[]⟩ := by
  cases a with
  | mk d => cases d with
    | mk l => cases l with
      | nil => rfl
      | cons x l => simp [ByteArray.size] at h
theorem plus_size : (⟨#[43]⟩ : ByteArray).size = 1 := rfl

theorem dn_up (p : Nat) : ∀ m, m ≤ 64 → joinB (dnF p m) (upF p (64 - m)) = upF p 64 := by
  intro m
  induction m with
  | zero => intro _; rfl
  | succ m ih =>
    intro hm
    rw [← ih (by omega)]
    obtain ⟨k, hk⟩ : ∃ k, 64 - m = k + 1 := ⟨63 - m, by omega⟩
    have hk2 : 64 - (m + 1) = k := by omega
    have hk3 : 63 - m = k := by omega
    rw [hk, hk2]
    simp only [dnF, upF, hk3]
    have ht := (termB_size k).1
    generalize dnF p m = D
    generalize upF p k = U
    by_cases hb : p / 2 ^ k % 2 = 1
    · rw [if_pos hb, if_pos hb]
      unfold joinB
      by_cases hD : D.size = 0
      · rw [if_pos hD, if_pos hD, if_neg (by omega)]
      · rw [if_neg hD, if_neg hD]
        have h1 : (D ++ (⟨#[43]⟩ : ByteArray) ++ termB k).size ≠ 0 := by
          rw [ByteArray.size_append, ByteArray.size_append]; omega
        rw [if_neg h1]
        by_cases hU : U.size = 0
        · rw [if_pos hU, if_pos hU, if_neg (by omega)]
        · rw [if_neg hU, if_neg hU]
          have h2 : (termB k ++ (⟨#[43]⟩ : ByteArray) ++ U).size ≠ 0 := by
            rw [ByteArray.size_append, ByteArray.size_append]; omega
          rw [if_neg h2]
          simp only [ByteArray.append_assoc]
    · rw [if_neg hb, if_neg hb]

theorem dn_all (p : Nat) : dnF p 64 = upF p 64 := by
  have := dn_up p 64 (Nat.le_refl _)
  unfold joinB at this
  by_cases h : (dnF p 64).size = 0
  · rw [if_pos h] at this
    rw [size_zero h]; exact this
  · rw [if_neg h, if_pos (show (upF p (64 - 64)).size = 0 from rfl)] at this; exact this

theorem dn_size (p : Nat) : ∀ m, (dnF p m).size ≤ 5 * m := by
  intro m
  induction m with
  | zero => exact Nat.le_refl 0
  | succ m ih =>
    simp only [dnF]
    have ht := (termB_size (63 - m)).2
    split
    · split
      · omega
      · rw [ByteArray.size_append, ByteArray.size_append, plus_size]; omega
    · omega
theorem up_size (p : Nat) : ∀ k, (upF p k).size ≤ 5 * k := by
  intro k
  induction k with
  | zero => exact Nat.le_refl 0
  | succ k ih =>
    simp only [upF]
    have ht := (termB_size k).2
    split
    · split
      · omega
      · rw [ByteArray.size_append, ByteArray.size_append, plus_size]; omega
    · omega
theorem dn_top (p : Nat) : ∀ m, len p + m ≤ 64 → dnF p m = ⟨#[]⟩ := by
  intro m
  induction m with
  | zero => intro _; rfl
  | succ m ih =>
    intro h
    simp only [dnF]
    rw [if_neg, ih (by omega)]
    rw [bit_eq, testBit_above (by omega)]; decide

theorem bit_zero {A i : Nat} (hA : A < 18446744073709551616) (h : A / 2 ^ i % 2 = 1) : (bits BinOp.and IntKind.u64 ((A : Int) / 2 ^ i) 1 == 0) = false := by
  rw [shr_bit A i hA, h]; rfl
theorem bit_nonzero {A i : Nat} (hA : A < 18446744073709551616) (h : A / 2 ^ i % 2 ≠ 1) : (bits BinOp.and IntKind.u64 ((A : Int) / 2 ^ i) 1 == 0) = true := by
  have : A / 2 ^ i % 2 = 0 := by omega
  rw [shr_bit A i hA, this]; rfl
theorem isEmpty_not {s : ByteArray} (h : ¬ s.size = 0) : s.toList.isEmpty = false := by
  rw [Lib.toList_data]
  cases hd : s.data.toList with
  | nil => exact absurd (by rw [Lib.size_eq, hd]; rfl) h
  | cons x l => rfl

set_option maxHeartbeats 1000000 in
theorem text_nat (p : Nat) (w : World) (hp : p < 18446744073709551616) :
    Calls Tryd.prog 40 #[.int .u64 (p : Int)] w fun r w' => r = .returned (.string (txt p)) ∧ w' = w := by
  by_cases h0 : p = 0
  · subst h0
    go_enter Tryd.func40, Tryd.ntmps40
    go_wp2
    go_ret
    exact ⟨rfl, rfl⟩
  have T0 : ((p : Int) == 0) = false := by simp; omega
  have hlp : len p ≤ 64 := len_le.2 hp
  have HT : Hid (txt p = dnF p 64) := by show txt p = dnF p 64; unfold txt; rw [if_neg h0, dn_all]
  clear h0
  go_enter Tryd.func40, Tryd.ntmps40
  go_wp2_with (go_at_call 8; refine (degree_nat _ _ hp).mono ?_; rintro e w1 ⟨rfl, rfl⟩)
  go_loop [3, 4] (fun t y => ∃ k : Nat, k ≤ 64 ∧ t = .string (dnF p (64 - k)) ∧ y = .int .i64 ((k : Int) - 1)) (fun _ y => (intOf y + 1).toNat)
  case atStart => exact ⟨len p, hlp, by rw [dn_top p _ (by omega)], rfl⟩
  case round =>
    obtain ⟨k, hk, rfl, rfl⟩ := hrel
    by_cases hlt : 0 < k
    · obtain ⟨i, rfl⟩ : ∃ i, k = i + 1 := ⟨k - 1, by omega⟩
      have hi1 : (((i + 1 : Nat) : Int) - 1) = (i : Int) := by omega
      rw [hi1]
      have hsz := dn_size p (64 - (i + 1))
      have HN : Hid (dnF p (64 - i) = if p / 2 ^ i % 2 = 1 then (if (dnF p (64 - (i + 1))).size = 0 then termB i else dnF p (64 - (i + 1)) ++ ⟨#[43]⟩ ++ termB i) else dnF p (64 - (i + 1))) := by
        show dnF p (64 - i) = _
        rw [show 64 - i = (64 - (i + 1)) + 1 by omega]
        simp only [dnF, show 63 - (64 - (i + 1)) = i by omega]
      have hts := termB_size i
      have c1 := fun w => term_nat i w (by omega)
      generalize dnF p (64 - (i + 1)) = D at *
      have hsz2 : D.size ≤ 320 := by omega
      by_cases hbit : p / 2 ^ i % 2 = 1
      · have T := bit_zero hp hbit
        by_cases hD : D.size = 0
        · have HN2 : Hid (dnF p (64 - i) = termB i) := by
            show dnF p (64 - i) = termB i
            rw [HN.out, if_pos hbit, if_pos hD]
          have hD2 : D = ⟨#[]⟩ := size_zero hD
          subst hD2
          clear hbit hD
          go_wp2_with (go_at_call 52; with_reducible refine (c1 _).mono ?_; rintro e w1 ⟨rfl, rfl⟩)
          go_round
          case rel => exact ⟨i, by omega, by rw [HN2.out]; first | rfl | simp, by go_num⟩
          case measure => simp [intOf]
        · have HN2 : Hid (dnF p (64 - i) = D ++ ⟨#[43]⟩ ++ termB i) := by
            show dnF p (64 - i) = D ++ ⟨#[43]⟩ ++ termB i
            rw [HN.out, if_pos hbit, if_neg hD]
          have E := isEmpty_not hD
          have hps := plus_size
          clear hbit hD
          go_wp2_with (go_at_call 52; with_reducible refine (c1 _).mono ?_; rintro e w1 ⟨rfl, rfl⟩)
          go_round
          case rel => exact ⟨i, by omega, by rw [HN2.out], by go_num⟩
          case measure => simp [intOf]
      · have T := bit_nonzero hp hbit
        have HN2 : Hid (dnF p (64 - i) = D) := by
          show dnF p (64 - i) = D
          rw [HN.out, if_neg hbit]
        clear hbit
        go_wp2
        go_round
        case rel => exact ⟨i, by omega, by rw [HN2.out], by go_num⟩
        case measure => simp [intOf]
    · have hk0 : k = 0 := by omega
      subst hk0
      go_wp2
      go_ret
      exact ⟨congrArg (fun s => Ending.returned (Value.string s)) HT.out.symm, rfl⟩

theorem up_zero_of {p : Nat} (hp : p < 18446744073709551616) (h : (upF p 64).size = 0) : p = 0 := by
  apply Classical.byContradiction
  intro h0
  have hl := len_pos.2 h0
  have hl2 : len p ≤ 64 := len_le.2 hp
  have key : ∀ k, len p ≤ k → k ≤ 64 → (upF p k).size ≠ 0 := by
    intro k
    induction k with
    | zero => intro h1; omega
    | succ k ih =>
      intro h1 h2
      simp only [upF]
      have ht := (termB_size k).1
      by_cases hk : len p ≤ k
      · have := ih hk (by omega)
        by_cases hb : p / 2 ^ k % 2 = 1
        · rw [if_pos hb, if_neg this, ByteArray.size_append, ByteArray.size_append]; omega
        · rw [if_neg hb]; exact this
      · have hb : p / 2 ^ k % 2 = 1 := by rw [bit_eq, testBit_top (by omega)]; rfl
        rw [if_pos hb]
        split
        · omega
        · rw [ByteArray.size_append, ByteArray.size_append]; omega
  exact key 64 hl2 (Nat.le_refl _) h
theorem up_of_zero : ∀ k, upF 0 k = ⟨#[]⟩ := by
  intro k
  induction k with
  | zero => rfl
  | succ k ih => simp only [upF]; rw [if_neg (by simp), ih]

set_option maxHeartbeats 1000000 in
theorem refText_nat (p : Nat) (w : World) (hp : p < 18446744073709551616) :
    Calls Tryd.prog 41 #[.int .u64 (p : Int)] w fun r w' => r = .returned (.string (txt p)) ∧ Below w.heap.size w w' := by
  have c1 := fun w => bits_nat p w hp
  go_enter Tryd.func41, Tryd.ntmps41
  go_wp2_with (first | (go_at_call 44; with_reducible refine (c1 _).mono ?_; rintro e w1 ⟨rfl, hb1⟩) | (refine wpList_store_row rfl 63 _ _ rfl _ (bitRow _ 64) rfl rfl 63 _ (heap_alloc_new _ _) (by rw [bitRow_size]; kernel_rfl) (by rw [bitRow_size]; rfl) (bitRow_all _ 64) ?_))
  have s1 : w.heap.size ≤ w1.heap.size := hb1.size
  have b1 : Below w.heap.size w ((w1.alloc (.cells (bitRow 0 0) 63)).setRow w1.heap.size (bitRow p 64)) := below_setRow (hb1.alloc s1 _) s1 _
  clear c1
  generalize hA : w1.heap.size = A at *
  go_loopw [4, 5] (fun t y wr => ∃ k : Nat, k ≤ 64 ∧ t = .string (upF p k) ∧ y = .int .i64 k ∧ A < wr.heap.size ∧ wr.heap[A]? = some (.cells (bitRow p 64) 63 (0, 0)) ∧ Below w.heap.size w wr) (fun _ y _ => 64 - (intOf y).toNat)
  case atStart =>
    refine ⟨0, by decide, rfl, rfl, by simp [hA], ?_, ?_⟩
    · rw [← hA]; exact setRow_heap _ _ _ _ _ _ (heap_alloc_new _ _)
    · exact below_setRow (hb1.alloc (by omega) _) (by omega) _
  case round =>
    obtain ⟨k, hk, rfl, rfl, hAl, hr, hbw⟩ := hrel
    clear b1 hb1
    by_cases hlt : k < 64
    · have hc := cell_of_row wr A k _ 63 (0, 0) hr
      rw [bitRow_get _ _ _ hlt, if_pos hlt] at hc
      have hsz := up_size p k
      have hts := termB_size k
      have hps := plus_size
      have ct := fun w => refTerm_nat k w hlt
      have HN : Hid (upF p (k + 1) = if p / 2 ^ k % 2 = 1 then (if (upF p k).size = 0 then termB k else termB k ++ ⟨#[43]⟩ ++ upF p k) else upF p k) := rfl
      have HR : Hid (wr.heap[A]? = some (.cells (bitRow p 64) 63 (0, 0))) := hr
      generalize upF p k = U at *
      have hsz2 : U.size ≤ 320 := by omega
      by_cases hbit : p / 2 ^ k % 2 = 1
      · rw [hbit] at hc
        by_cases hU : U.size = 0
        · have HN2 : Hid (upF p (k + 1) = termB k) := by
            show upF p (k + 1) = termB k
            rw [HN.out, if_pos hbit, if_pos hU]
          have hU2 : U = ⟨#[]⟩ := size_zero hU
          subst hU2
          clear hbit hU hr
          go_wp2_with (go_at_call 53; with_reducible refine (ct _).mono ?_; rintro e w2 ⟨rfl, hb2⟩)
          go_roundw
          case rel => exact ⟨k + 1, by omega, by rw [HN2.out], by go_num, Nat.lt_of_lt_of_le hAl hb2.size, by rw [hb2.block _ hAl]; exact HR.out, hbw.trans (hb2.mono hbw.size)⟩
          case measure => simp [intOf]; omega
        · have HN2 : Hid (upF p (k + 1) = termB k ++ ⟨#[43]⟩ ++ U) := by
            show upF p (k + 1) = termB k ++ ⟨#[43]⟩ ++ U
            rw [HN.out, if_pos hbit, if_neg hU]
          have E := isEmpty_not hU
          clear hbit hU hr
          go_wp2_with (go_at_call 53; with_reducible refine (ct _).mono ?_; rintro e w2 ⟨rfl, hb2⟩)
          go_roundw
          case rel => exact ⟨k + 1, by omega, by rw [HN2.out], by go_num, Nat.lt_of_lt_of_le hAl hb2.size, by rw [hb2.block _ hAl]; exact HR.out, hbw.trans (hb2.mono hbw.size)⟩
          case measure => simp [intOf]; omega
      · have T : (((p / 2 ^ k % 2 : Nat) : Int) == 1) = false := beq1_false hbit
        have HN2 : Hid (upF p (k + 1) = U) := by
          show upF p (k + 1) = U
          rw [HN.out, if_neg hbit]
        generalize p / 2 ^ k % 2 = t at hc T
        clear hbit hr
        go_wp2
        go_roundw
        case rel => exact ⟨k + 1, by omega, by rw [HN2.out], by go_num, hAl, HR.out, hbw⟩
        case measure => simp [intOf]; omega
    · have hk64 : k = 64 := by omega
      subst hk64
      by_cases h0 : p = 0
      · have HT : Hid (txt p = ⟨#[48]⟩) := by show txt p = _; unfold txt; rw [if_pos h0]
        have hU : upF p 64 = ⟨#[]⟩ := by rw [h0, up_of_zero]
        rw [hU]
        clear h0 hU
        go_wp2
        go_ret
        exact ⟨congrArg (fun s => Ending.returned (Value.string s)) HT.out.symm, hbw⟩
      · have HT : Hid (txt p = upF p 64) := by show txt p = _; unfold txt; rw [if_neg h0]
        have E := isEmpty_not (s := upF p 64) (fun h => h0 (up_zero_of hp h))
        clear h0
        generalize upF p 64 = U at *
        go_wp2
        go_ret
        exact ⟨congrArg (fun s => Ending.returned (Value.string s)) HT.out.symm, hbw⟩
end Go.Proofs.YtaepcecjblojjabDoor
