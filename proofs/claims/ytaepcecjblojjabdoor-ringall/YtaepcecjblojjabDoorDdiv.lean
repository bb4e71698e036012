import Derived.Test.YtaepcecjblojjabDoorDmul
import Derived.Deep.RegionLaw
namespace Go.Proofs.YtaepcecjblojjabDoor
open Go.RowKit Gf2

set_option maxHeartbeats 400000 in
theorem refDegree_nat (a : Nat) (w : World) (ha : a < 18446744073709551616) :
    Calls Tryd.prog 22 #[.int .u64 (a : Int)] w fun e w' => e = .returned (.int .i64 ((len a : Int) - 1)) ∧ w' = w := by
  have hla : len a ≤ 64 := len_le.2 ha
  go_enter Tryd.func22, Tryd.ntmps22
  go_wp2
  go_loop [0, 3] (fun x d => ∃ x' : Nat, x' < 18446744073709551616 ∧ len x' ≤ len a ∧ x = .int .u64 x' ∧ d = .int .i64 ((len a : Int) - len x' - 1)) (fun x _ => (intOf x).toNat)
  case atStart => exact ⟨a, ha, Nat.le_refl _, rfl, by go_num⟩
  case round =>
    obtain ⟨x, hx, hl, rfl, rfl⟩ := hrel
    by_cases h0 : x = 0
    · subst h0
      go_wp2
      go_ret
      exact ⟨ret_int (by rw [len_zero]; omega), rfl⟩
    · have hh := @len_half x
      have hpx := len_pos.2 h0
      have HH : Hid (len (x / 2) = len x - 1) := hh
      clear hh
      go_wp2
      go_round
      case rel => exact ⟨x / 2, by omega, by rw [HH.out]; omega, by go_num, by rw [HH.out]; go_num⟩
      case measure => simp [intOf]; omega

/-- the row of R with b's coefficients added from place i on, the first m of them. -/
def xorRow (R b i m : Nat) : Array Value := ((List.range 64).map fun t => Value.int .i64 (if i ≤ t ∧ t < i + m then (((R / 2 ^ t % 2 + b / 2 ^ (t - i) % 2) % 2 : Nat) : Int) else ((R / 2 ^ t % 2 : Nat) : Int))).toArray
theorem xorRow_size (R b i m : Nat) : (xorRow R b i m).size = 64 := by simp [xorRow]
theorem xorRow_get (R b i m t : Nat) (h : t < 64) : (xorRow R b i m)[t]? = some (Value.int .i64 (if i ≤ t ∧ t < i + m then (((R / 2 ^ t % 2 + b / 2 ^ (t - i) % 2) % 2 : Nat) : Int) else ((R / 2 ^ t % 2 : Nat) : Int))) := by
  simp [xorRow, h]
theorem xorRow_zero (R b i : Nat) : xorRow R b i 0 = bitRow R 64 := by
  apply row_ext (xorRow_size _ _ _ _) (bitRow_size _ _)
  intro t h
  rw [xorRow_get _ _ _ _ _ h, bitRow_get _ _ _ h, if_neg (by omega), if_pos h]
theorem xorRow_set (R b i m : Nat) (h : i + m < 64) : (xorRow R b i m).setIfInBounds (i + m) (Value.int .i64 (((R / 2 ^ (i + m) % 2 + b / 2 ^ m % 2) % 2 : Nat) : Int)) = xorRow R b i (m + 1) := by
  apply row_ext (by simp [xorRow_size]) (xorRow_size _ _ _ _)
  intro j hj
  rw [xorRow_get _ _ _ _ _ hj, Array.getElem?_setIfInBounds]
  by_cases e : i + m = j
  · subst e
    rw [if_pos rfl, if_pos (by rw [xorRow_size]; exact h), if_pos (by omega), show i + m - i = m by omega]
  · rw [if_neg e, xorRow_get _ _ _ _ _ hj]
    by_cases h1 : i ≤ j ∧ j < i + m
    · rw [if_pos h1, if_pos (by omega)]
    · rw [if_neg h1, if_neg (by omega)]
theorem bit_shift (b i t : Nat) : (b * 2 ^ i) / 2 ^ t % 2 = if i ≤ t then b / 2 ^ (t - i) % 2 else 0 := by
  split
  · rename_i h
    obtain ⟨s, rfl⟩ : ∃ s, t = i + s := ⟨t - i, by omega⟩
    rw [Nat.pow_add, ← Nat.div_div_eq_div_mul, Nat.mul_div_cancel _ (Nat.two_pow_pos i), show i + s - i = s by omega]
  · rename_i h
    obtain ⟨s, rfl⟩ : ∃ s, i = t + 1 + s := ⟨i - t - 1, by omega⟩
    have : b * 2 ^ (t + 1 + s) = (b * 2 ^ s * 2) * 2 ^ t := by
      rw [Nat.pow_add, Nat.pow_succ]; simp only [Nat.mul_assoc, Nat.mul_comm, Nat.mul_left_comm]
    rw [this, Nat.mul_div_cancel _ (Nat.two_pow_pos t)]
    omega
theorem xorRow_end (R b i : Nat) : xorRow R b i (len b) = bitRow (R ^^^ b * 2 ^ i) 64 := by
  apply row_ext (xorRow_size _ _ _ _) (bitRow_size _ _)
  intro t h
  rw [xorRow_get _ _ _ _ _ h, bitRow_get _ _ _ h, if_pos h, bit_xor, bit_shift]
  by_cases h1 : i ≤ t
  · by_cases h2 : t < i + len b
    · rw [if_pos ⟨h1, h2⟩, if_pos h1]
    · rw [if_neg (by omega), if_pos h1]
      have : b / 2 ^ (t - i) % 2 = 0 := by
        rw [bit_eq, testBit_above (by omega)]; rfl
      rw [this]; simp
  · rw [if_neg (by omega), if_neg h1]; simp

/-- the quotient's row with one more place set. -/
theorem bitRow_or (Q i : Nat) (hi : i < 64) (h : Q.testBit i = false) : (bitRow Q 64).setIfInBounds i (Value.int .i64 1) = bitRow (Q ^^^ 2 ^ i) 64 := by
  apply row_ext (by simp [bitRow_size]) (bitRow_size _ _)
  intro t ht
  rw [bitRow_get _ _ _ ht, if_pos ht, Array.getElem?_setIfInBounds, bit_eq, Nat.testBit_xor, Nat.testBit_two_pow]
  by_cases e : i = t
  · subst e
    rw [if_pos rfl, if_pos (by rw [bitRow_size]; exact hi), h]; simp
  · rw [if_neg e, bitRow_get _ _ _ ht, if_pos ht, bit_eq]; simp [e]

/-- the relation of the division on coefficients: 'i' places are still to be looked at. -/
structure DivR (a b Q R i : Nat) : Prop where
  e : a = mul Q b ^^^ R
  l : len R ≤ i + (len b - 1)
  q : ∀ t, t < i → Q.testBit t = false
  q64 : Q < 18446744073709551616
  r64 : R < 18446744073709551616

theorem DivR.start {a b : Nat} (hb : b ≠ 0) (ha : a < 18446744073709551616) (hb64 : b < 18446744073709551616) : DivR a b 0 a (65 - len b) := by
  have h1 : len a ≤ 64 := len_le.2 ha
  have h2 := len_pos.2 hb
  have h3 : len b ≤ 64 := len_le.2 hb64
  exact ⟨by simp [zero_mul], by omega, fun t _ => by simp, by decide, ha⟩
theorem DivR.skip {a b Q R i : Nat} (h : DivR a b Q R (i + 1)) (_hb : b ≠ 0) (h0 : R / 2 ^ (i + (len b - 1)) % 2 ≠ 1) : DivR a b Q R i := by
  refine ⟨h.e, ?_, fun t ht => h.q t (by omega), h.q64, h.r64⟩
  have h1 := h.l
  rcases Nat.lt_or_ge (i + (len b - 1)) (len R) with h2 | h2
  · exfalso; apply h0
    rw [bit_eq, testBit_top (by omega)]; rfl
  · exact h2
theorem DivR.take {a b Q R i : Nat} (h : DivR a b Q R (i + 1)) (hb : b ≠ 0) (h1 : R / 2 ^ (i + (len b - 1)) % 2 = 1) (hi : i + len b ≤ 64) : DivR a b (Q ^^^ 2 ^ i) (R ^^^ b * 2 ^ i) i := by
  have hl := h.l
  have hbl := len_pos.2 hb
  have ht : R.testBit (i + (len b - 1)) = true := by
    rw [bit_eq] at h1
    cases hc : R.testBit (i + (len b - 1)) with
    | true => rfl
    | false => rw [hc] at h1; cases h1
  have hR := lt_len_of_testBit ht
  have e : len (b * 2 ^ i) = i + len b := by
    rw [← mul_shift, len_mul (by have := Nat.two_pow_pos i; omega) hb, len_two_pow]; omega
  have hne : b * 2 ^ i ≠ 0 := by intro h0; rw [h0, len_zero] at e; omega
  have hx := len_xor_eq (a := R) (b := b * 2 ^ i) (by omega) hne
  refine ⟨?_, by omega, ?_, ?_, ?_⟩
  · rw [xor_mul, mul_shift]
    have e1 : mul Q b ^^^ b * 2 ^ i ^^^ (R ^^^ b * 2 ^ i) = mul Q b ^^^ R ^^^ (b * 2 ^ i ^^^ b * 2 ^ i) := by ac_rfl
    rw [e1, Nat.xor_self, Nat.xor_zero]; exact h.e
  · intro t hti
    rw [Nat.testBit_xor, h.q t (by omega), Nat.testBit_two_pow]
    have : i ≠ t := by omega
    simp [this]
  · exact xor_lt64 h.q64 ((len_le (n := 64)).1 (by rw [len_two_pow]; omega))
  · exact xor_lt64 h.r64 ((len_le (n := 64)).1 (by omega))
theorem DivR.done {a b Q R : Nat} (h : DivR a b Q R 0) (hb : b ≠ 0) : Q = pdiv a b ∧ R = pmod a b :=
  div_unique h.e (by have := h.l; have := len_pos.2 hb; omega)

theorem beq1_false {n : Nat} (h : n ≠ 1) : ((n : Int) == 1) = false := by simp; omega
theorem add_mod2 {x y : Nat} : (((x : Int) + (y : Int)) % 2) = (((x + y) % 2 : Nat) : Int) := by omega

theorem Rows3.storeA {w : World} {A B Z : Nat} {ra rb rz : Array Value} (h : Rows3 w A B Z ra rb rz) (hb : B ≠ A) (hz : Z ≠ A) (i : Nat) (v : Value) :
    Rows3 (w.setCell ⟨A, i, none⟩ v) A B Z (ra.setIfInBounds i v) rb rz :=
  ⟨heap_setCell_same _ _ _ _ _ _ h.a, by rw [heap_setCell_other _ _ _ _ hb]; exact h.b, by rw [heap_setCell_other _ _ _ _ hz]; exact h.z⟩

/-- the load of a whole row, as one step of a region that draws. -/
theorem step_load_row {P : Program} {ops : Array Oper} {o : Oper} {a : Act} {w : World} {K : Act → World → Prop} {Q : Exit → Act → World → Prop} {E : Prop}
    (hgd : o.guard = none) (ty : TypeId) (x : Operand) (ho : o.op = .load ty x)
    (g : Nat) (hx : a.eval x = .pointer (some ⟨g, 0, none⟩)) (t : TypeId) (cs : Array Value) (fr : Nat × Nat) (d : TypeDesc) (hg : w.heap[g]? = some (.cells cs t fr))
    (hu : P.underlying ty = some d) (hd : (match d with | .struct _ | .array _ _ => true | _ => false) = true) (hi : (P.info? ty).map (·.size) = some cs.size)
    (h : K (a.put o.dst (.agg cs)) w) : if Region.wanted o (yielded ops a.tmps) = true then Oper.wp P o a w K Q else E := by
  have hw : Region.wanted o (yielded ops a.tmps) = true := by simp [Region.wanted, hgd]
  rw [if_pos hw]
  exact wp_load_row ty x ho g hx t cs fr d hg hu hd hi h

set_option maxHeartbeats 400000 in
theorem refDivMod_zero (a : Nat) (w : World) :
    Calls Tryd.prog 24 #[.int .u64 (a : Int), .int .u64 0] w fun e w' => e = .returned (.tuple #[.int .u64 0, .int .u64 0, .int .i64 10]) ∧ w' = w := by
  have c0 : Calls Tryd.prog 22 #[.int .u64 0] w fun e w' => e = .returned (.int .i64 (-1)) ∧ w' = w := refDegree_nat 0 w (by decide)
  go_enter Tryd.func24, Tryd.ntmps24
  go_wp2_with (go_at_call 22; with_reducible refine c0.mono ?_; rintro e w' ⟨rfl, rfl⟩)
  go_ret3
  exact ⟨rfl, rfl⟩

set_option maxHeartbeats 2000000 in
theorem refDivMod_nat (a b : Nat) (w : World) (ha : a < 18446744073709551616) (hb : b < 18446744073709551616) (hb0 : b ≠ 0) :
    Calls Tryd.prog 24 #[.int .u64 (a : Int), .int .u64 (b : Int)] w fun e w' => e = .returned (.tuple #[.int .u64 (pdiv a b : Nat), .int .u64 (pmod a b : Nat), .int .i64 0]) ∧ Below w.heap.size w w' := by
  have hlb := len_pos.2 hb0
  have hlb64 : len b ≤ 64 := len_le.2 hb
  obtain ⟨L, hL⟩ : ∃ L, len b = L + 1 := ⟨len b - 1, by omega⟩
  have c0 : Calls Tryd.prog 22 #[.int .u64 (b : Int)] w fun e w' => e = .returned (.int .i64 (L : Int)) ∧ w' = w := by
    have h := refDegree_nat b w hb
    rw [hL, show (((L + 1 : Nat) : Int) - 1) = (L : Int) by omega] at h
    exact h
  have HL : Hid (len b = L + 1) := hL
  have hL64 : L < 64 := by omega
  have hst := DivR.start hb0 ha hb
  rw [hL] at hst
  clear hL hlb hlb64
  go_enter Tryd.func24, Tryd.ntmps24
  go_wp2_with (first | (go_at_call 22; with_reducible refine c0.mono ?_; rintro e w0 ⟨rfl, rfl⟩) | (go_at_call 44; first | (with_reducible refine (bits_nat a _ ha).mono ?_; rintro e w1 ⟨rfl, hb1⟩) | (with_reducible refine (bits_nat b _ hb).mono ?_; rintro e w2 ⟨rfl, hb2⟩)) | (refine wpList_store_row rfl 63 _ _ rfl _ (bitRow _ 64) rfl rfl 63 _ (heap_alloc_new _ _) (by rw [bitRow_size]; kernel_rfl) (by rw [bitRow_size]; rfl) (bitRow_all _ 64) ?_))
  have s1 : w0.heap.size ≤ w1.heap.size := hb1.size
  have s2 : w1.heap.size + 1 ≤ w2.heap.size := by have := hb2.size; simpa using this
  have r1 : w2.heap[w1.heap.size]? = some (.cells (bitRow a 64) 63 (0, 0)) := by
    rw [hb2.block _ (by simp)]
    exact setRow_heap _ _ _ _ _ _ (heap_alloc_new _ _)
  have bw2 : Below w0.heap.size w0 w2 := (below_setRow (hb1.alloc s1 _) s1 _).trans (hb2.mono (by simp; omega))
  generalize hA : w1.heap.size = A at *
  generalize hB : w2.heap.size = B at *
  go_loopw [11] (fun x wr => ∃ k Q R : Nat, k ≤ 64 - L ∧ x = .int .i64 ((k : Int) - 1) ∧ DivR a b Q R k ∧ Rows3 wr A B (B + 1) (bitRow R 64) (bitRow b 64) (bitRow Q 64) ∧ Below w0.heap.size w0 wr) (fun x _ => (intOf x + 1).toNat)
  case atStart =>
    refine ⟨64 - L, 0, a, Nat.le_refl _, by go_num, ?_, ⟨?_, ?_, ?_⟩, ?_⟩
    · have e : 65 - (L + 1) = 64 - L := by omega
      rw [← e]; exact hst
    · rw [heap_alloc_old _ _ (by simp; omega), setRow_other _ _ _ _ (by omega), heap_alloc_old _ _ (by omega)]; exact r1
    · rw [heap_alloc_old _ _ (by simp; omega), ← hB]
      exact setRow_heap _ _ _ _ _ _ (heap_alloc_new _ _)
    · have := heap_alloc_new ((w2.alloc (.cells (bitRow 0 0) 63)).setRow B (bitRow b 64)) (.cells (bitRow 0 0) 63)
      have e : ((w2.alloc (.cells (bitRow 0 0) 63)).setRow B (bitRow b 64)).heap.size = B + 1 := by simp [hB]
      have z : bitRow 0 64 = bitRow 0 0 := row_ext (bitRow_size _ _) (bitRow_size _ _) (fun j h => by rw [bitRow_get _ _ _ h, bitRow_get _ _ _ h]; simp)
      rw [e] at this
      rw [z]
      rw [show bitRow 0 0 = (List.replicate 64 (Value.int .i64 0)).toArray from bitRow_zero 0] at this ⊢
      exact this
    · exact (below_setRow (bw2.alloc (by omega) _) (by omega) _).alloc (by simp; omega) _
  case round =>
    obtain ⟨k, Q, R, hk, rfl, hdr, hr, hbw⟩ := hrel
    clear r1 bw2 hb1 hb2 hst
    by_cases hlt : 0 < k
    · obtain ⟨i, rfl⟩ : ∃ i, k = i + 1 := ⟨k - 1, by omega⟩
      have hi1 : (((i + 1 : Nat) : Int) - 1) = (i : Int) := by omega
      rw [hi1]
      have hcr := cell_of_row wr A (i + L) _ 63 (0, 0) hr.a
      rw [bitRow_get _ _ _ (by omega), if_pos (by omega)] at hcr
      have hs : ((i : Int) + (L : Int)) = ((i + L : Nat) : Int) := by omega
      have hsl : i + L < 64 := by omega
      have HR : Hid (Rows3 wr A B (B + 1) (bitRow R 64) (bitRow b 64) (bitRow Q 64)) := hr
      have hiL : i < 64 := by omega
      by_cases hbit : R / 2 ^ (i + L) % 2 = 1
      · rw [hbit] at hcr
        have hcq := cell_of_row wr (B + 1) i _ 63 (0, 0) hr.z
        rw [bitRow_get _ _ _ (by omega), if_pos (by omega)] at hcq
        have hfq := frozen_of_row wr (B + 1) i _ 63 hr.z
        have HD : Hid (DivR a b (Q ^^^ 2 ^ i) (R ^^^ b * 2 ^ i) i) := by
          have e := HL.out
          exact hdr.take hb0 (by rw [e]; exact hbit) (by omega)
        have HQ : Hid (Q.testBit i = false) := hdr.q i (by omega)
        generalize hii : i + L = s at hcr hs hsl
        clear hr hdr hbit hii
        go_wp2
        go_loopw [12] (fun x wr => ∃ m : Nat, m ≤ L + 1 ∧ x = .int .i64 m ∧ Rows3 wr A B (B + 1) (xorRow R b i m) (bitRow b 64) (bitRow (Q ^^^ 2 ^ i) 64) ∧ Below w0.heap.size w0 wr) (fun x _ => 65 - (intOf x).toNat)
        case atStart =>
          refine ⟨0, by omega, rfl, ?_, hbw.setCell (p := ⟨B + 1, i, none⟩) (by simp; omega) _⟩
          have := HR.out.store (by omega) (by omega) i (Value.int .i64 1)
          rw [bitRow_or _ _ hiL HQ.out] at this
          rw [xorRow_zero]; exact this
        case round =>
          clear hbw hcr hcq hfq
          obtain ⟨m, hm, rfl, hr, hbw⟩ := hrel
          by_cases hlt2 : m ≤ L
          · have hcr := cell_of_row wr A (i + m) _ 63 (0, 0) hr.a
            rw [xorRow_get _ _ _ _ _ (by omega), if_neg (by omega)] at hcr
            have hcy := cell_of_row wr B m _ 63 (0, 0) hr.b
            rw [bitRow_get _ _ _ (by omega), if_pos (by omega)] at hcy
            have hfr := frozen_of_row wr A (i + m) _ 63 hr.a
            have hx2 : R / 2 ^ (i + m) % 2 < 2 := Nat.mod_lt _ (by decide)
            have hy2 : b / 2 ^ m % 2 < 2 := Nat.mod_lt _ (by decide)
            have HR2 : Hid (Rows3 wr A B (B + 1) (xorRow R b i m) (bitRow b 64) (bitRow (Q ^^^ 2 ^ i) 64)) := hr
            have HX := xorRow_set R b i m (by omega)
            rw [← add_mod2] at HX
            have hs2 : ((i : Int) + (m : Int)) = ((i + m : Nat) : Int) := by omega
            have hsl2 : i + m < 64 := by omega
            generalize hx0 : R / 2 ^ (i + m) % 2 = x0 at hcr hx2 HX
            generalize hy0 : b / 2 ^ m % 2 = y0 at hcy hy2 HX
            generalize htt : i + m = t at hcr hfr hs2 hsl2 HX
            have HX' : Hid ((xorRow R b i m).setIfInBounds t (Value.int .i64 (((x0 : Int) + (y0 : Int)) % 2)) = xorRow R b i (m + 1)) := HX
            clear HX hr htt hx0 hy0
            go_wp2
            go_region
            go_wp2
            go_roundw
            case rel =>
              refine ⟨m + 1, by omega, by go_num, ?_, ?_⟩
              · have := HR2.out.storeA (by omega) (by omega) t (Value.int .i64 (((x0 : Int) + (y0 : Int)) % 2))
                rw [HX'.out] at this
                exact ⟨this.a, this.b, this.z⟩
              · exact (hbw.setCell (p := ⟨A, t, none⟩) (by simp; omega) _).drew
            case measure => simp [intOf]; omega
          · go_wp2
            go_roundw
            case rel =>
              have e : m = len b := by rw [HL.out]; omega
              subst e
              rw [xorRow_end] at hr
              exact ⟨i, _, _, by omega, by go_num, HD.out, hr, hbw⟩
            case measure => simp [intOf]
      · have T : (((R / 2 ^ (i + L) % 2 : Nat) : Int) == 1) = false := beq1_false hbit
        have HD : Hid (DivR a b Q R i) := by
          have e := HL.out
          exact hdr.skip hb0 (by rw [e]; exact hbit)
        generalize hii : i + L = s at hcr hs hsl T
        generalize R / 2 ^ s % 2 = t at hcr T
        clear hbit hdr hr hii
        go_wp2
        go_roundw
        case rel => exact ⟨i, Q, R, by omega, by go_num, HD.out, HR.out, hbw⟩
        case measure => simp [intOf]
    · have hk0 : k = 0 := by omega
      subst hk0
      obtain ⟨e1, e2⟩ := hdr.done hb0
      subst e1 e2
      go_wp2
      have i1 : (Tryd.prog.info? 63).map (·.size) = some (bitRow (pdiv a b) 64).size := by rw [bitRow_size]; kernel_rfl
      have i2 : (Tryd.prog.info? 63).map (·.size) = some (bitRow (pmod a b) 64).size := by rw [bitRow_size]; kernel_rfl
      have hq64 := hdr.q64
      have hr64 := hdr.r64
      have lA : A < wr.heap.size := (Array.getElem?_eq_some_iff.1 hr.a).1
      have b3 : ∀ {w3 : World}, Below wr.drew.heap.size wr.drew w3 → Below w0.heap.size w0 w3 := fun h => hbw.drew.trans (h.mono hbw.size)
      refine wp_region_any (by kernel_rfl) ?_
      change wpAny _ _ _ _ _ _ _ (World.drew _)
      refine wpAny_ready (rs := [0, 2]) (by kernel_rfl) (by simp) ?_
      refine AllReady.cons rfl (fun K hK => step_load_row rfl 63 _ rfl (B + 1) rfl 63 (bitRow (pdiv a b) 64) (0, 0) _ hr.z Tryd.underlying63 rfl i1 (hK _ _ ?_)) (AllReady.cons rfl (fun K hK => step_load_row rfl 63 _ rfl A rfl 63 (bitRow (pmod a b) 64) (0, 0) _ hr.a Tryd.underlying63 rfl i2 (hK _ _ ?_)) AllReady.nil)
      · refine wpAny_ready (rs := [1, 2]) (by kernel_rfl) (by simp) ?_
        refine AllReady.cons rfl (fun K hK => ?_) (AllReady.cons rfl (fun K hK => step_load_row rfl 63 _ rfl A rfl 63 (bitRow (pmod a b) 64) (0, 0) _ hr.a Tryd.underlying63 rfl i2 (hK _ _ ?_)) AllReady.nil)
        · go_simp
          refine (number_nat _ _ hq64).mono ?_
          rintro e w3 ⟨rfl, hb3⟩
          refine hK _ _ ?_
          clear hK K
          have ra : w3.heap[A]? = some (.cells (bitRow (pmod a b) 64) 63 (0, 0)) := by rw [hb3.block _ lA]; exact hr.a
          refine wpAny_ready (rs := [2]) (by kernel_rfl) (by simp) (AllReady.cons rfl (fun K hK => step_load_row rfl 63 _ rfl A rfl 63 (bitRow (pmod a b) 64) (0, 0) _ ra Tryd.underlying63 rfl i2 (hK _ _ ?_)) AllReady.nil)
          refine wpAny_ready (rs := [3]) (by kernel_rfl) (by simp) (AllReady.cons rfl (fun K hK => ?_) AllReady.nil)
          go_simp
          refine (number_nat _ _ hr64).mono ?_
          rintro e w4 ⟨rfl, hb4⟩
          refine hK _ _ ?_
          clear hK K
          refine wpAny_ready (rs := [4]) (by kernel_rfl) (by simp) (AllReady.cons rfl (fun K hK => ?_) AllReady.nil)
          go_simp
          refine hK _ _ ?_
          clear hK K
          refine wpAny_ready (rs := [5]) (by kernel_rfl) (by simp) (AllReady.cons rfl (fun K hK => ?_) AllReady.nil)
          go_simp
          refine hK _ _ ?_
          clear hK K
          refine wpAny_ready (rs := [6]) (by kernel_rfl) (by simp) (AllReady.cons rfl (fun K hK => ?_) AllReady.nil)
          go_simp
          refine hK _ _ ?_
          clear hK K
          refine wpAny_done (by kernel_rfl) ?_ _
          go_wp2
          go_ret3
          exact ⟨rfl, (b3 hb3).trans (hb4.mono (b3 hb3).size)⟩
        · refine wpAny_ready (rs := [1]) (by kernel_rfl) (by simp) (AllReady.cons rfl (fun K hK => ?_) AllReady.nil)
          go_simp
          refine (number_nat _ _ hq64).mono ?_
          rintro e w3 ⟨rfl, hb3⟩
          refine hK _ _ ?_
          clear hK K
          refine wpAny_ready (rs := [3]) (by kernel_rfl) (by simp) (AllReady.cons rfl (fun K hK => ?_) AllReady.nil)
          go_simp
          refine (number_nat _ _ hr64).mono ?_
          rintro e w4 ⟨rfl, hb4⟩
          refine hK _ _ ?_
          clear hK K
          refine wpAny_ready (rs := [4]) (by kernel_rfl) (by simp) (AllReady.cons rfl (fun K hK => ?_) AllReady.nil)
          go_simp
          refine hK _ _ ?_
          clear hK K
          refine wpAny_ready (rs := [5]) (by kernel_rfl) (by simp) (AllReady.cons rfl (fun K hK => ?_) AllReady.nil)
          go_simp
          refine hK _ _ ?_
          clear hK K
          refine wpAny_ready (rs := [6]) (by kernel_rfl) (by simp) (AllReady.cons rfl (fun K hK => ?_) AllReady.nil)
          go_simp
          refine hK _ _ ?_
          clear hK K
          refine wpAny_done (by kernel_rfl) ?_ _
          go_wp2
          go_ret3
          exact ⟨rfl, (b3 hb3).trans (hb4.mono (b3 hb3).size)⟩
      · refine wpAny_ready (rs := [0]) (by kernel_rfl) (by simp) (AllReady.cons rfl (fun K hK => step_load_row rfl 63 _ rfl (B + 1) rfl 63 (bitRow (pdiv a b) 64) (0, 0) _ hr.z Tryd.underlying63 rfl i1 (hK _ _ ?_)) AllReady.nil)
        refine wpAny_ready (rs := [1]) (by kernel_rfl) (by simp) (AllReady.cons rfl (fun K hK => ?_) AllReady.nil)
        go_simp
        refine (number_nat _ _ hq64).mono ?_
        rintro e w3 ⟨rfl, hb3⟩
        refine hK _ _ ?_
        clear hK K
        refine wpAny_ready (rs := [3]) (by kernel_rfl) (by simp) (AllReady.cons rfl (fun K hK => ?_) AllReady.nil)
        go_simp
        refine (number_nat _ _ hr64).mono ?_
        rintro e w4 ⟨rfl, hb4⟩
        refine hK _ _ ?_
        clear hK K
        refine wpAny_ready (rs := [4]) (by kernel_rfl) (by simp) (AllReady.cons rfl (fun K hK => ?_) AllReady.nil)
        go_simp
        refine hK _ _ ?_
        clear hK K
        refine wpAny_ready (rs := [5]) (by kernel_rfl) (by simp) (AllReady.cons rfl (fun K hK => ?_) AllReady.nil)
        go_simp
        refine hK _ _ ?_
        clear hK K
        refine wpAny_ready (rs := [6]) (by kernel_rfl) (by simp) (AllReady.cons rfl (fun K hK => ?_) AllReady.nil)
        go_simp
        refine hK _ _ ?_
        clear hK K
        refine wpAny_done (by kernel_rfl) ?_ _
        go_wp2
        go_ret3
        exact ⟨rfl, (b3 hb3).trans (hb4.mono (b3 hb3).size)⟩
end Go.Proofs.YtaepcecjblojjabDoor
