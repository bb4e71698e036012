import Derived.Test.YtaepcecjblojjabDoorDbits
import Derived.Test.YtaepcecjblojjabDoorGfg
import Derived.RegionTactic
import Derived.BigRegion
import Derived.ChangeAlike
namespace Go.Proofs.YtaepcecjblojjabDoor
open Go.RowKit Gf2

theorem div_bit (n k : Nat) : 2 * (n / 2 ^ (k + 1)) + n / 2 ^ k % 2 = n / 2 ^ k := by
  rw [← bits_step]; omega

set_option maxHeartbeats 400000 in
theorem number_nat (n : Nat) (w : World) (hn : n < 18446744073709551616) :
    Calls Tryd.prog 45 #[.agg (bitRow n 64)] w fun e w' => e = .returned (.int .u64 (n : Int)) ∧ Below w.heap.size w w' := by
  go_enter Tryd.func45, Tryd.ntmps45
  go_wp2
  go_loopw [3, 4] (fun x i wr => ∃ k y : Nat, k ≤ 64 ∧ y < 18446744073709551616 ∧ y = n / 2 ^ k ∧ x = .int .u64 y ∧ i = .int .i64 ((k : Int) - 1) ∧
      wr.heap[w.heap.size]? = some (.cells (bitRow n 64) 63 (0, 0)) ∧ Below w.heap.size w wr) (fun _ i _ => (intOf i + 1).toNat)
  case atStart =>
    refine ⟨64, 0, by decide, by decide, ?_, rfl, rfl, heap_alloc_new _ _, (Below.refl _ _).alloc (Nat.le_refl _) _⟩
    rw [Nat.div_eq_of_lt]; exact hn
  case round =>
    obtain ⟨k, y, hk, hy, hya, rfl, rfl, h1, hb⟩ := hrel
    have HY : Hid (y = n / 2 ^ k) := hya
    clear hya
    by_cases hlt : 0 < k
    · obtain ⟨j, rfl⟩ : ∃ j, k = j + 1 := ⟨k - 1, by omega⟩
      have hc := cell_of_row wr w.heap.size j _ 63 (0, 0) h1
      rw [bitRow_get _ _ _ (by omega), if_pos (by omega)] at hc
      have hb2 : n / 2 ^ j % 2 < 2 := Nat.mod_lt _ (by decide)
      have HE : Hid (2 * y + n / 2 ^ j % 2 = n / 2 ^ j) := by
        show 2 * y + n / 2 ^ j % 2 = n / 2 ^ j
        rw [HY.out, div_bit]
      have HL : Hid (n / 2 ^ j < 18446744073709551616) := Nat.lt_of_le_of_lt (Nat.div_le_self _ _) hn
      generalize n / 2 ^ j % 2 = t at *
      have hj : ((j : Nat) : Int) + 1 - 1 = (j : Int) := by omega
      go_wp2
      go_roundw
      case rel =>
        refine ⟨j, n / 2 ^ j, by omega, HL.out, rfl, ?_, by go_num, h1, hb⟩
        have e := HE.out
        have l := HL.out
        congr 1
        rw [IntKind.wrap_u64, IntKind.wrap_u64]
        omega
      case measure => simp [intOf]
    · go_wp2
      go_ret
      refine ⟨ret_int ?_, hb⟩
      have : k = 0 := by omega
      rw [HY.out, this]; simp

/-- the row of the product's coefficients: those below n whole, n's as far as m, the rest 0. -/
def prodRow (a b n m : Nat) : Array Value := ((List.range 64).map fun j => Value.int .i64 (if j < n then ((mul a b / 2 ^ j % 2 : Nat) : Int) else if j = n then ((par (fun i => (a / 2 ^ i % 2) * (b / 2 ^ (n - i) % 2)) m : Nat) : Int) else 0)).toArray
theorem prodRow_size (a b n m : Nat) : (prodRow a b n m).size = 64 := by simp [prodRow]
theorem prodRow_get (a b n m j : Nat) (h : j < 64) : (prodRow a b n m)[j]? = some (Value.int .i64 (if j < n then ((mul a b / 2 ^ j % 2 : Nat) : Int) else if j = n then ((par (fun i => (a / 2 ^ i % 2) * (b / 2 ^ (n - i) % 2)) m : Nat) : Int) else 0)) := by
  simp [prodRow, h]
theorem row_ext {r s : Array Value} (hr : r.size = 64) (hs : s.size = 64) (h : ∀ j, j < 64 → r[j]? = s[j]?) : r = s := by
  apply Array.ext_getElem?
  intro j
  by_cases hj : j < 64
  · exact h j hj
  · rw [Array.getElem?_eq_none (by omega), Array.getElem?_eq_none (by omega)]
theorem prodRow_start (a b : Nat) : prodRow a b 0 0 = bitRow 0 0 := by
  apply row_ext (prodRow_size _ _ _ _) (bitRow_size _ _)
  intro j h
  rw [prodRow_get _ _ _ _ _ h, bitRow_get _ _ _ h]
  simp [par]
theorem prodRow_next (a b n : Nat) : prodRow a b n (n + 1) = prodRow a b (n + 1) 0 := by
  apply row_ext (prodRow_size _ _ _ _) (prodRow_size _ _ _ _)
  intro j h
  rw [prodRow_get _ _ _ _ _ h, prodRow_get _ _ _ _ _ h]
  by_cases h1 : j < n
  · rw [if_pos h1, if_pos (by omega)]
  · rw [if_neg h1]
    by_cases h2 : j = n
    · rw [if_pos h2, if_pos (by omega), h2, mul_bit]
    · rw [if_neg h2, if_neg (by omega)]
      simp [par]
theorem prodRow_set (a b n m : Nat) (h : n < 64) : (prodRow a b n m).setIfInBounds n (Value.int .i64 ((par (fun i => (a / 2 ^ i % 2) * (b / 2 ^ (n - i) % 2)) (m + 1) : Nat) : Int)) = prodRow a b n (m + 1) := by
  apply row_ext (by simp [prodRow_size]) (prodRow_size _ _ _ _)
  intro j hj
  rw [prodRow_get _ _ _ _ _ hj, Array.getElem?_setIfInBounds]
  by_cases e : n = j
  · subst e
    rw [if_pos rfl, if_pos (by rw [prodRow_size]; exact h), if_neg (by omega), if_pos rfl]
  · rw [if_neg e, prodRow_get _ _ _ _ _ hj]
    by_cases h1 : j < n
    · rw [if_pos h1, if_pos h1]
    · rw [if_neg h1, if_neg h1, if_neg (by omega), if_neg (by omega)]
theorem prodRow_end (a b : Nat) : prodRow a b 64 0 = bitRow (mul a b) 64 := by
  apply row_ext (prodRow_size _ _ _ _) (bitRow_size _ _)
  intro j h
  rw [prodRow_get _ _ _ _ _ h, bitRow_get _ _ _ h, if_pos h, if_pos h]

/-- three rows of 64 in memory, in blocks of their own. -/
structure Rows3 (w : World) (A B Z : Nat) (ra rb rz : Array Value) : Prop where
  a : w.heap[A]? = some (.cells ra 63 (0, 0))
  b : w.heap[B]? = some (.cells rb 63 (0, 0))
  z : w.heap[Z]? = some (.cells rz 63 (0, 0))

theorem Rows3.store {w : World} {A B Z : Nat} {ra rb rz : Array Value} (h : Rows3 w A B Z ra rb rz) (ha : A ≠ Z) (hb : B ≠ Z) (i : Nat) (v : Value) :
    Rows3 (w.setCell ⟨Z, i, none⟩ v) A B Z ra rb (rz.setIfInBounds i v) :=
  ⟨by rw [heap_setCell_other _ _ _ _ ha]; exact h.a, by rw [heap_setCell_other _ _ _ _ hb]; exact h.b, heap_setCell_same _ _ _ _ _ _ h.z⟩

theorem par_next (f : Nat → Nat) (m : Nat) (x y z : Nat) (hz : z = par f m) (hxy : x * y = f m) : (((z : Int) + (x : Int) * (y : Int)) % 2) = ((par f (m + 1) : Nat) : Int) := by
  have e : par f (m + 1) = (z + x * y) % 2 := by rw [hz, hxy]; rfl
  rw [e]; simp

set_option maxHeartbeats 2000000 in
theorem refMul_nat (a b : Nat) (w : World) (ha : a < 4294967296) (hb : b < 4294967296) :
    Calls Tryd.prog 23 #[.int .u32 (a : Int), .int .u32 (b : Int)] w fun e w' => e = .returned (.int .u64 (mul a b : Nat)) ∧ Below w.heap.size w w' := by
  go_enter Tryd.func23, Tryd.ntmps23
  go_wp2_with (first | (go_at_call 44; first | (with_reducible refine (bits_nat a _ (by omega)).mono ?_; rintro e w1 ⟨rfl, hb1⟩) | (with_reducible refine (bits_nat b _ (by omega)).mono ?_; rintro e w2 ⟨rfl, hb2⟩)) | (refine wpList_store_row rfl 63 _ _ rfl _ (bitRow _ 64) rfl rfl 63 _ (heap_alloc_new _ _) (by rw [bitRow_size]; kernel_rfl) (by rw [bitRow_size]; rfl) (bitRow_all _ 64) ?_))
  have s1 : w.heap.size ≤ w1.heap.size := hb1.size
  have s2 : w1.heap.size + 1 ≤ w2.heap.size := by have := hb2.size; simpa using this
  have r1 : w2.heap[w1.heap.size]? = some (.cells (bitRow a 64) 63 (0, 0)) := by
    rw [hb2.block _ (by simp)]
    exact setRow_heap _ _ _ _ _ _ (heap_alloc_new _ _)
  have bw2 : Below w.heap.size w w2 := (below_setRow (hb1.alloc s1 _) s1 _).trans (hb2.mono (by simp; omega))
  generalize hA : w1.heap.size = A at *
  generalize hB : w2.heap.size = B at *
  go_loopw [8] (fun x wr => ∃ k : Nat, k ≤ 64 ∧ x = .int .i64 k ∧ Rows3 wr A B (B + 1) (bitRow a 64) (bitRow b 64) (prodRow a b k 0) ∧ Below w.heap.size w wr) (fun x _ => 64 - (intOf x).toNat)
  case atStart =>
    refine ⟨0, by decide, rfl, ⟨?_, ?_, ?_⟩, ?_⟩
    · rw [heap_alloc_old _ _ (by simp; omega), setRow_other _ _ _ _ (by omega), heap_alloc_old _ _ (by omega)]; exact r1
    · rw [heap_alloc_old _ _ (by simp; omega), ← hB]
      exact setRow_heap _ _ _ _ _ _ (heap_alloc_new _ _)
    · have := heap_alloc_new ((w2.alloc (.cells (bitRow 0 0) 63)).setRow B (bitRow b 64)) (.cells (bitRow 0 0) 63)
      rw [prodRow_start]
      have e : ((w2.alloc (.cells (bitRow 0 0) 63)).setRow B (bitRow b 64)).heap.size = B + 1 := by simp [hB]
      rw [e] at this
      rw [show bitRow 0 0 = (List.replicate 64 (Value.int .i64 0)).toArray from bitRow_zero 0] at this ⊢
      exact this
    · exact (below_setRow (bw2.alloc (by omega) _) (by omega) _).alloc (by simp; omega) _
  case round =>
    obtain ⟨k, hk, rfl, hr, hbw⟩ := hrel
    by_cases hlt : k < 64
    · go_wp2
      go_loopw [9] (fun x wr => ∃ m : Nat, m ≤ k + 1 ∧ x = .int .i64 m ∧ Rows3 wr A B (B + 1) (bitRow a 64) (bitRow b 64) (prodRow a b k m) ∧ Below w.heap.size w wr) (fun x _ => 65 - (intOf x).toNat)
      case atStart => exact ⟨0, by omega, rfl, hr, hbw⟩
      case round =>
        clear hr hbw
        obtain ⟨m, hm, rfl, hr, hbw⟩ := hrel
        by_cases hlt2 : m ≤ k
        · have hcz := cell_of_row wr (B + 1) k _ 63 (0, 0) hr.z
          rw [prodRow_get _ _ _ _ _ hlt, if_neg (by omega), if_pos rfl] at hcz
          have hca := cell_of_row wr A m _ 63 (0, 0) hr.a
          rw [bitRow_get _ _ _ (by omega), if_pos (by omega)] at hca
          have hcb := cell_of_row wr B (k - m) _ 63 (0, 0) hr.b
          rw [bitRow_get _ _ _ (by omega), if_pos (by omega)] at hcb
          have hfz := frozen_of_row wr (B + 1) k _ 63 hr.z
          have hz2 := par_lt (fun i => (a / 2 ^ i % 2) * (b / 2 ^ (k - i) % 2)) m
          have hx2 : a / 2 ^ m % 2 < 2 := Nat.mod_lt _ (by decide)
          have hy2 : b / 2 ^ (k - m) % 2 < 2 := Nat.mod_lt _ (by decide)
          have HP := par_next (fun i => (a / 2 ^ i % 2) * (b / 2 ^ (k - i) % 2)) m _ _ _ rfl rfl
          have HR : Hid (Rows3 wr A B (B + 1) (bitRow a 64) (bitRow b 64) (prodRow a b k m)) := hr
          have hd : ((k : Int) - (m : Int)) = ((k - m : Nat) : Int) := by omega
          have hdl : k - m < 64 := by omega
          generalize hzz : par (fun i => (a / 2 ^ i % 2) * (b / 2 ^ (k - i) % 2)) m = z0 at hcz hz2 HP
          generalize hxx : a / 2 ^ m % 2 = x0 at hca hx2 HP
          generalize hyy : b / 2 ^ (k - m) % 2 = y0 at hcb hy2 HP
          generalize hdd : k - m = d at *
          have hxy : x0 * y0 ≤ 1 := by
            have : x0 * y0 ≤ 1 * 1 := Nat.mul_le_mul (by omega) (by omega)
            omega
          have hxy0 : 0 ≤ (x0 : Int) * (y0 : Int) := Int.mul_nonneg (by omega) (by omega)
          have hxy1 : (x0 : Int) * (y0 : Int) ≤ 1 := by
            have : ((x0 * y0 : Nat) : Int) ≤ 1 := by omega
            simpa using this
          have HP' : Hid ((((z0 : Int) + (x0 : Int) * (y0 : Int)) % 2) = ((par (fun i => (a / 2 ^ i % 2) * (b / 2 ^ (k - i) % 2)) (m + 1) : Nat) : Int)) := HP
          clear HP hr hzz hxx hyy hdd r1 bw2 hb1 hb2
          go_wp2
          go_region
          go_wp2
          go_roundw
          case rel =>
            refine ⟨m + 1, by omega, by go_num, ?_, ?_⟩
            · have := (HR.out.store (by omega) (by omega) k (Value.int .i64 ((par (fun i => (a / 2 ^ i % 2) * (b / 2 ^ (k - i) % 2)) (m + 1) : Nat) : Int)))
              rw [prodRow_set _ _ _ _ hlt, ← HP'.out] at this
              exact ⟨this.a, this.b, this.z⟩
            · exact (hbw.setCell (p := ⟨B + 1, k, none⟩) (by simp; omega) _).drew
          case measure => simp [intOf]; omega
        · go_wp2
          go_roundw
          case rel =>
            have e : m = k + 1 := by omega
            subst e
            exact ⟨k + 1, by omega, by go_num, by rw [← prodRow_next]; exact hr, hbw⟩
          case measure => simp [intOf]; omega
    · have hk64 : k = 64 := by omega
      subst hk64
      have hz := hr.z
      rw [prodRow_end] at hz
      have i57 : (Tryd.prog.info? 63).map (·.size) = some (bitRow (mul a b) 64).size := by rw [bitRow_size]; kernel_rfl
      have hml : mul a b < 18446744073709551616 := by
        have h1 : len a ≤ 32 := len_le.2 ha
        have h2 : len b ≤ 32 := len_le.2 hb
        have := len_mul_le a b
        exact (len_le (n := 64)).1 (by omega)
      go_wp2_with (first | (refine wpList_load_row rfl 63 _ rfl (B + 1) rfl 63 _ (0, 0) _ hz Tryd.underlying63 rfl i57 ?_) | (go_at_call 45; refine (number_nat _ _ hml).mono ?_; rintro e w3 ⟨rfl, hb3⟩))
      go_ret
      exact ⟨rfl, hbw.trans (hb3.mono hbw.size)⟩
end Go.Proofs.YtaepcecjblojjabDoor
