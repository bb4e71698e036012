import Derived.Test.YtidcdbjhkgpjcaaDoorWalkh
import Derived.Test.YtidcdbjhkgpjcaaDoorDhes
import Derived.Laws.Rows
import Derived.Deep.WholeRow
namespace Go.Proofs.YtidcdbjhkgpjcaaDoor
open Go.RowKit Gf2

-- the contracts of gf16's calls about the basis
/-- the two tables of the package. -/
def rB : Array Value := ((cbt 16).map vU).toArray
def cin (i : Nat) : Nat := ci.getD i 0
def cit (n : Nat) : List Nat := (List.range n).map cin
theorem cin_lt : ∀ i, i < 16 → cin i < 65536 := by decide +kernel
theorem cit_all : cit 16 = ci := by decide +kernel
theorem cit_len (n : Nat) : (cit n).length = n := by simp [cit]
theorem cit_succ (n : Nat) : cit (n + 1) = cit n ++ [cin n] := by unfold cit; rw [List.range_succ, List.map_append]; rfl
theorem cit_step (n x : Nat) : lin (cit (n + 1)) x = lin (cit n) x ^^^ (if x / 2 ^ n % 2 = 1 then cin n else 0) := by
  rw [cit_succ, lin_snoc, cit_len]
theorem cit_lt (n x : Nat) (hn : n ≤ 16) : lin (cit n) x < 65536 :=
  lin_lt (n := 16) _ (fun c hc => by
    obtain ⟨i, hi, rfl⟩ := List.mem_map.1 hc
    exact cin_lt i (by have := List.mem_range.1 hi; omega)) x
theorem cit_get {n i : Nat} (h : i < n) : (cit n)[i]? = some (cin i) := by simp [cit, h]
theorem wi_cit (x : Nat) : wi x = lin (cit 16) x := by rw [cit_all]; rfl
def rI : Array Value := ((cit 16).map vU).toArray
theorem rB_size : rB.size = 16 := by simp [rB, cbt_len]
theorem rI_size : rI.size = 16 := by simp [rI, cit_len]
theorem rB_get {t : Nat} (h : t < 16) : rB[t]? = some (.int .u16 (cbn t : Nat)) := by
  unfold rB; rw [List.getElem?_toArray]; exact vU_get (cbt_get h)
theorem rI_get {t : Nat} (h : t < 16) : rI[t]? = some (.int .u16 (cin t : Nat)) := by
  unfold rI; rw [List.getElem?_toArray]; exact vU_get (cit_get h)

/-- the basis stands as it was laid. -/
def Cab (w : World) : Prop := ∃ ty fr, w.heap[0]? = some (.cells rB ty fr)
theorem Cab.below {w w' : World} (h : Cab w) (hb : Below w.heap.size w w') : Cab w' := by
  obtain ⟨t1, f1, h1⟩ := h
  exact ⟨t1, f1, by rw [hb.block _ (Array.getElem?_eq_some_iff.1 h1).1]; exact h1⟩
/-- the two variables stand as they were laid. -/
def Cant (w : World) : Prop := (∃ ty fr, w.heap[0]? = some (.cells rB ty fr)) ∧ (∃ ty fr, w.heap[1]? = some (.cells rI ty fr))
theorem Cant.below {w w' : World} (h : Cant w) (hb : Below w.heap.size w w') : Cant w' := by
  obtain ⟨⟨t1, f1, h1⟩, ⟨t2, f2, h2⟩⟩ := h
  refine ⟨⟨t1, f1, ?_⟩, ⟨t2, f2, ?_⟩⟩
  · rw [hb.block _ (Array.getElem?_eq_some_iff.1 h1).1]; exact h1
  · rw [hb.block _ (Array.getElem?_eq_some_iff.1 h2).1]; exact h2
theorem Cant.size {w : World} (h : Cant w) : 0 < w.heap.size ∧ 1 < w.heap.size := by
  obtain ⟨⟨t1, f1, h1⟩, ⟨t2, f2, h2⟩⟩ := h
  exact ⟨(Array.getElem?_eq_some_iff.1 h1).1, (Array.getElem?_eq_some_iff.1 h2).1⟩
theorem info_16 : (Tryd.prog.info? 58).map (·.size) = some 16 := by kernel_rfl
theorem lt16 {t : Nat} (h : t < 16) : t = 0 ∨ t = 1 ∨ t = 2 ∨ t = 3 ∨ t = 4 ∨ t = 5 ∨ t = 6 ∨ t = 7 ∨ t = 8 ∨ t = 9 ∨ t = 10 ∨ t = 11 ∨ t = 12 ∨ t = 13 ∨ t = 14 ∨ t = 15 := by omega
theorem ixB {t : Nat} (h : t < 16) (w : World) : (Instr.index 58 (.agg rB) (.int .i64 (t : Int))).run Tryd.prog w = .ok (.int .u16 (cbn t : Nat)) w := by
  rcases lt16 h with rfl | rfl | rfl | rfl | rfl | rfl | rfl | rfl | rfl | rfl | rfl | rfl | rfl | rfl | rfl | rfl <;> kernel_rfl
theorem ixI {t : Nat} (h : t < 16) (w : World) : (Instr.index 58 (.agg rI) (.int .i64 (t : Int))).run Tryd.prog w = .ok (.int .u16 (cin t : Nat)) w := by
  rcases lt16 h with rfl | rfl | rfl | rfl | rfl | rfl | rfl | rfl | rfl | rfl | rfl | rfl | rfl | rfl | rfl | rfl <;> kernel_rfl

set_option maxHeartbeats 2000000 in
set_option maxRecDepth 100000 in
theorem helement_b (i : Int) (w : World) (hC : Cab w) :
    Calls Tryd.prog 29 #[.int .i64 i] w fun e w' => e = .returned (.tuple #[.int .u16 (ew i : Nat), .int .i64 (ee i : Nat)]) ∧ w' = w := by
  by_cases h : 0 ≤ i ∧ i ≤ 65535
  · obtain ⟨n, rfl⟩ := Int.eq_ofNat_of_zero_le h.1
    have hn : n ≤ 65535 := by omega
    have e1 : ew (n : Int) = we n := by unfold ew; rw [if_pos h]; rfl
    have e2 : ee (n : Int) = 0 := by unfold ee; rw [if_pos h]
    rw [e1, e2]
    have HW : Hid (we n = lin (cbt 16) n) := we_cbt n
    have D1 : decide ((n : Int) < 0) = false := by simp
    have D2 : decide ((65535 : Int) < (n : Int)) = false := by simp; omega
    have D3 : decide ((65536 : Int) ≤ (n : Int)) = false := by simp; omega
    obtain ⟨ty, fr, hg⟩ := hC
    obtain ⟨R, hR⟩ : ∃ R, R = rB := ⟨_, rfl⟩
    rw [← hR] at hg
    have hsz : R.size = 16 := by rw [hR, rB_size]
    have hget : ∀ t : Nat, t < 16 → ∀ w, (Instr.index 58 (.agg R) (.int .i64 (t : Int))).run Tryd.prog w = .ok (.int .u16 (cbn t : Nat)) w := fun t ht w => by rw [hR]; exact ixB ht w
    have hi16 : (Tryd.prog.info? 58).map (·.size) = some R.size := by rw [hsz]; exact info_16
    clear e1 e2 h hR
    go_enter Tryd.func29, Tryd.ntmps29
    go_wp2_with (refine wpList_load_row rfl 58 _ rfl 0 rfl ty R fr _ hg Tryd.underlying58 rfl hi16 ?_)
    go_loopw [4, 14] (fun wv tv wq => ∃ t : Nat, t ≤ 16 ∧ tv = .int .i64 t ∧ wv = .int .u16 (lin (cbt t) n : Nat) ∧ wq = w) (fun _ tv _ => 16 - (intOf tv).toNat)
    case atStart => exact ⟨0, by decide, rfl, rfl, rfl⟩
    case round =>
      obtain ⟨t, ht, rfl, rfl, hwq⟩ := hrel
      by_cases hlt : t < 16
      · have q1 := hget t hlt
        have tb : ((t : Nat) : Int) < 16 := by omega
        have A1 := i64_andH n t (by omega)
        have st := cbt_step t n
        have l1 := cbt_lt t n (by omega)
        have l2 := cbn_lt t hlt
        have HQ : Hid (wr = w) := hwq
        clear hwq
        by_cases hbit : n / 2 ^ t % 2 = 1
        · have X := u16_xor_nat (lin (cbt t) n) (cbn t) l1 l2
          rw [hbit] at A1
          rw [if_pos hbit] at st
          have HS : Hid (lin (cbt (t + 1)) n = lin (cbt t) n ^^^ cbn t) := st
          clear st hbit
          go_wp2
          go_roundw
          case rel => exact ⟨t + 1, by omega, by go_num, by rw [HS.out], HQ.out⟩
          case measure => simp [intOf]; omega
        · have hb0 : n / 2 ^ t % 2 = 0 := by omega
          rw [hb0] at A1
          rw [if_neg hbit, Nat.xor_zero] at st
          have HS : Hid (lin (cbt (t + 1)) n = lin (cbt t) n) := st
          clear st hbit hb0
          go_wp2
          go_roundw
          case rel => exact ⟨t + 1, by omega, by go_num, by rw [HS.out], HQ.out⟩
          case measure => simp [intOf]; omega
      · have ht6 : t = 16 := by omega
        subst ht6
        subst hwq
        go_wp2
        go_ret2
        rw [HW.out]
        exact ⟨rfl, rfl⟩
  · have e1 : ew i = 0 := by unfold ew; rw [if_neg h]
    have e2 : ee i = 31 := by unfold ee; rw [if_neg h]
    rw [e1, e2]
    clear e1 e2
    by_cases h1 : i < 0
    · have D1 : decide (i < 0) = true := by simpa using h1
      clear h
      go_enter Tryd.func29, Tryd.ntmps29
      go_wp2
      go_ret2
      exact ⟨rfl, rfl⟩
    · have D1 : decide (i < 0) = false := by simpa using h1
      have D2 : decide (65535 < i) = true := by simp; omega
      have D3 : decide (65536 ≤ i) = true := by simp; omega
      clear h h1
      go_enter Tryd.func29, Tryd.ntmps29
      go_wp2
      go_ret2
      exact ⟨rfl, rfl⟩
theorem helement_int (i : Int) (w : World) (hC : Cant w) :
    Calls Tryd.prog 29 #[.int .i64 i] w fun e w' => e = .returned (.tuple #[.int .u16 (ew i : Nat), .int .i64 (ee i : Nat)]) ∧ w' = w := helement_b i w hC.1
set_option maxHeartbeats 2000000 in
set_option maxRecDepth 100000 in
theorem hindex_nat (n : Nat) (w : World) (hn : n < 65536) (hC : Cant w) :
    Calls Tryd.prog 42 #[.int .u16 (n : Int)] w fun e w' => e = .returned (.int .i64 (wi n : Nat)) ∧ w' = w := by
  have HW : Hid (wi n = lin (cit 16) n) := wi_cit n
  have L9 := wi_lt n
  obtain ⟨-, ⟨ty, fr, hg⟩⟩ := hC
  obtain ⟨R, hR⟩ : ∃ R, R = rI := ⟨_, rfl⟩
  rw [← hR] at hg
  have hsz : R.size = 16 := by rw [hR, rI_size]
  have hget : ∀ t : Nat, t < 16 → ∀ w, (Instr.index 58 (.agg R) (.int .i64 (t : Int))).run Tryd.prog w = .ok (.int .u16 (cin t : Nat)) w := fun t ht w => by rw [hR]; exact ixI ht w
  have hi16 : (Tryd.prog.info? 58).map (·.size) = some R.size := by rw [hsz]; exact info_16
  clear hR
  go_enter Tryd.func42, Tryd.ntmps42
  go_wp2_with (refine wpList_load_row rfl 58 _ rfl 1 rfl ty R fr _ hg Tryd.underlying58 rfl hi16 ?_)
  go_loopw [3, 7] (fun wv tv wq => ∃ t : Nat, t ≤ 16 ∧ tv = .int .i64 t ∧ wv = .int .u16 (lin (cit t) n : Nat) ∧ wq = w) (fun _ tv _ => 16 - (intOf tv).toNat)
  case atStart => exact ⟨0, by decide, rfl, rfl, rfl⟩
  case round =>
    obtain ⟨t, ht, rfl, rfl, hwq⟩ := hrel
    by_cases hlt : t < 16
    · have q1 := hget t hlt
      have tb : ((t : Nat) : Int) < 16 := by omega
      have A1 := and16 n t hn
      have st := cit_step t n
      have l1 := cit_lt t n (by omega)
      have l2 := cin_lt t hlt
      have HQ : Hid (wr = w) := hwq
      clear hwq
      by_cases hbit : n / 2 ^ t % 2 = 1
      · have X := u16_xor_nat (lin (cit t) n) (cin t) l1 l2
        rw [hbit] at A1
        rw [if_pos hbit] at st
        have HS : Hid (lin (cit (t + 1)) n = lin (cit t) n ^^^ cin t) := st
        clear st hbit
        go_wp2
        go_roundw
        case rel => exact ⟨t + 1, by omega, by go_num, by rw [HS.out], HQ.out⟩
        case measure => simp [intOf]; omega
      · have hb0 : n / 2 ^ t % 2 = 0 := by omega
        rw [hb0] at A1
        rw [if_neg hbit, Nat.xor_zero] at st
        have HS : Hid (lin (cit (t + 1)) n = lin (cit t) n) := st
        clear st hbit hb0
        go_wp2
        go_roundw
        case rel => exact ⟨t + 1, by omega, by go_num, by rw [HS.out], HQ.out⟩
        case measure => simp [intOf]; omega
    · have ht6 : t = 16 := by omega
      subst ht6
      subst hwq
      have W9 : wrap64 ((lin (cit 16) n : Nat) : Int) = ((lin (cit 16) n : Nat) : Int) := by have := cit_lt 16 n (by omega); unfold wrap64; omega
      go_wp2
      go_ret
      rw [HW.out]
      exact ⟨ret_int W9, rfl⟩

theorem lin_even (l : List Nat) : (∀ c ∈ l, c % 2 = 0) → ∀ x, lin l x % 2 = 0 := by
  induction l with
  | nil => intro _ x; rfl
  | cons c l ih =>
    intro h x
    simp only [lin]
    rw [odd_xor, ih (fun c hc => h c (by simp [hc]))]
    split
    · rw [h c (by simp)]
    · rfl
/-- twice the index: the root. -/
theorem we_even (n : Nat) : we (2 * n) % 2 = 0 := by
  have e : we (2 * n) = lin cb.tail n := by
    show (if 2 * n % 2 = 1 then cb.head (by decide) else 0) ^^^ lin cb.tail (2 * n / 2) = _
    rw [if_neg (by omega), Nat.zero_xor, show 2 * n / 2 = n by omega]
  rw [e]
  exact lin_even cb.tail (by decide) n
theorem root_index {a : Nat} (ha : a < 65536) (h : wi a < 32768) : tr 65581 16 a = 0 ∧ rt16 a = we (2 * wi a) := by
  have e : hs 65581 (we (2 * wi a)) = a := by
    rw [hs_we (by omega), show 2 * wi a / 2 = wi a by omega, we_wi ha]
  refine ⟨(root16_iff ha).1 ⟨we (2 * wi a), we_lt _, e⟩, (root16_only (we_lt _) (we_even _) e).symm⟩
theorem root_none {a : Nat} (ha : a < 65536) (h : ¬ wi a < 32768) : tr 65581 16 a = 1 := by
  rcases fld16.tr_bit (a := a) ha with h0 | h1
  · exfalso
    obtain ⟨y, hy, e⟩ := (root16_iff ha).2 h0
    have h2 := hs_we (wi_lt y)
    rw [we_wi hy, e] at h2
    have h3 := wi_we (i := wi y / 2) (by have := wi_lt y; omega)
    rw [← h2] at h3
    have := wi_lt y
    omega
  · exact h1

theorem zero_u16x16 (w : World) : (zeroValue 58).run Tryd.prog w = .ok (.agg (Array.replicate 16 (Value.int .u16 0))) w := by kernel_rfl
theorem rB_cells : rB.all (·.oneCell') = true := by decide +kernel
/-- what Basis makes. -/
def afterB (w : World) : World := w.alloc (.cells rB 58)

theorem afterB_new (w : World) : (afterB w).heap[w.heap.size]? = some (.cells rB 58 (0, 0)) := heap_alloc_new _ _
theorem afterB_size (w : World) : (afterB w).heap.size = w.heap.size + 1 := by simp [afterB]
theorem afterB_below (w : World) : Below w.heap.size w (afterB w) := (Below.refl _ _).alloc (Nat.le_refl _) _
theorem afterB_old {w : World} {b : Nat} (h : b < w.heap.size) : (afterB w).heap[b]? = w.heap[b]? := heap_alloc_old _ _ h
theorem Cant.afterB {w : World} (h : Cant w) : Cant (afterB w) := h.below (afterB_below w)
theorem cellB {w : World} {g : Nat} (h : w.heap[g]? = some (.cells rB 58 (0, 0))) {t : Nat} (ht : t < 16) : w.cell? ⟨g, t, none⟩ = some (.int .u16 (cbn t : Nat)) := by
  rw [cell_of_row w g t rB _ _ h, rB_get ht]
end Go.Proofs.YtidcdbjhkgpjcaaDoor
