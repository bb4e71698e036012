import Derived.Test.YtjoaagkhanbhiaaSka
namespace Go.Proofs.Ytjoaagkhanbhiaa
open Go.RowKit Gf2
set_option linter.unusedVariables false

def cC : Nat := 8
def pC : Nat := 8
def bC : Nat := 64
/-- a place of an array that is a value. -/
theorem run_at_col (L : Array Value) (k : Nat) (v : Value) (w : World) (hk : k < 8) (hL : L[k]? = some v) : (Instr.index 43 (.agg L) (.int .i64 (k : Int))).run Try.prog w = .ok v w := by
  have hu := Try.underlying43
  have hz : (Try.prog.info? 34).map (·.size) = some 1 := by kernel_rfl
  cases hq : Try.prog.info? 34 with
  | none => simp [hq] at hz
  | some i =>
    have hs : i.size = 1 := by simpa [hq] using hz
    simp [Instr.index, asIntOf, run_underlying hu, sizeOf, typeInfo, hq, hs, part, hL]
    omega
set_option maxHeartbeats 2000000 in
set_option maxRecDepth 100000 in
theorem scols7 (c : Nat) (w : World) (hc : c < 256) :
    Calls Try.prog 9 #[.int .u8 (c : Int)] w fun e w' => e = .returned (.slice (some ⟨w.heap.size, 0, none⟩) 8 8) ∧ Rw w' w.heap.size 8 (fun i => fm 285 c (2 ^ i)) ∧ Below w.heap.size w w' := by
  have hmk := make_u8 8 (by decide)
  have hmk : ∀ w, (Instr.makeSlice 23 (.int .i64 8) (.int .i64 8)).run Try.prog w = .ok (.slice (some ⟨w.heap.size, 0, none⟩) 8 8) (w.alloc (.cells (madeCells #[.int .u8 0] 8) 5)) := hmk
  have c1 := colsOf_nat c (w.alloc (.cells (madeCells #[.int .u8 0] 8) 5)) hc
  obtain ⟨L, hL⟩ : ∃ L, L = colRow c 8 := ⟨_, rfl⟩
  rw [← hL] at c1
  have HL : Hid (L = colRow c 8) := hL
  clear hc hL
  go_enter Try.func9, Try.ntmps9
  go_wp2_with (go_at_call 14; (with_reducible refine c1.mono ?_); rintro e w1 ⟨rfl, hb1⟩)
  have B1 : Below w.heap.size w w1 := ((Below.refl _ _).alloc (Nat.le_refl _) _).trans (hb1.mono (by simp))
  have R1 : Rw w1 w.heap.size 8 (fun _ => 0) := rw_below (made_rw 8 (by decide) w) hb1
  have H1 : Hid (Below w.heap.size w w1 ∧ Rw w1 w.heap.size 8 (fun _ => 0)) := ⟨B1, R1⟩
  clear B1 R1 hb1 c1
  go_loopw [9] (fun i wr => ∃ k : Nat, k ≤ 8 ∧ i = .int .i64 k ∧ Rw wr w.heap.size 8 (fun i => if i < k then fm 285 c (2 ^ i) else 0) ∧ Below w.heap.size w wr) (fun i _ => 8 - (intOf i).toNat)
  case atStart => exact ⟨0, by decide, rfl, H1.out.2.congr (fun i _ => (if_neg (Nat.not_lt_zero _)).symm), H1.out.1⟩
  case round =>
    obtain ⟨k, hk, rfl, hr, hb⟩ := hrel
    by_cases hlt : k < 8
    · have i1 : ((k : Nat) : Int) < 8 := by omega
      have q1 := hr.2.2.cell hlt
      dsimp only at q1
      rw [if_neg (Nat.lt_irrefl _)] at q1
      have q2 := hr.2.2.frozen k
      have g1 := colRow_get c 8 k hlt
      rw [if_pos hlt, ← HL.out] at g1
      have s1 : L.size = 8 := by rw [HL.out, colRow_size]
      have lv : fm 285 c (2 ^ k) < 256 := fm8_lt _ _
      have E1 : IntKind.u8.wrap ((fm 285 c (2 ^ k) : Nat) : Int) = ((fm 285 c (2 ^ k) : Nat) : Int) := by rw [IntKind.wrap_u8]; omega
      obtain ⟨v, hv⟩ : ∃ v, v = fm 285 c (2 ^ k) := ⟨_, rfl⟩
      have HV : Hid (v = fm 285 c (2 ^ k) ∧ Rw wr w.heap.size 8 (fun i => if i < k then fm 285 c (2 ^ i) else 0) ∧ Below w.heap.size w wr) := ⟨hv, hr, hb⟩
      rw [← hv] at g1 E1
      have X1 := fun W => run_at_col L k _ W hlt g1
      clear hr hb hv lv g1 s1
      go_wp2
      go_roundw
      case rel =>
        obtain ⟨hv, g0, g2⟩ := HV.out
        refine ⟨k + 1, hlt, by go_num, (g0.set k v (by rw [hv]; exact fm8_lt _ _)).congr (fun i hi => ?_), g2.setCell (Nat.le_refl _) _⟩
        by_cases e : i = k
        · subst e; rw [if_pos rfl, if_pos (Nat.lt_succ_self _), hv]
        · rw [if_neg e]
          by_cases e2 : i < k
          · rw [if_pos e2, if_pos (by omega)]
          · rw [if_neg e2, if_neg (by omega)]
      case measure => simp [intOf]; omega
    · have hk8 : k = 8 := by omega
      subst hk8
      go_wp2
      go_ret
      exact ⟨rfl, hr.congr (fun i hi => if_pos hi), hb⟩
end Go.Proofs.Ytjoaagkhanbhiaa

namespace Go.Proofs.Ytjoaagkhanbhiaa
open Go.RowKit Gf2
set_option linter.unusedVariables false

theorem or_pow {a t j : Nat} (ha : a < 2 ^ j) : a ||| t * 2 ^ j = a + t * 2 ^ j := by
  rw [Nat.or_comm, Nat.mul_comm, Nat.add_comm, Nat.two_pow_add_eq_or_of_lt ha]
theorem pw64 {t j : Nat} (ht : t < 2) (hj : j < 64) : t * 2 ^ j < 18446744073709551616 := by
  have hp : 2 ^ j ≤ 2 ^ 63 := Nat.pow_le_pow_right (by decide) (by omega)
  have : (2 : Nat) ^ 63 = 9223372036854775808 := by decide
  rcases (show t = 0 ∨ t = 1 by omega) with rfl | rfl <;> omega
theorem pw8 {t j : Nat} (ht : t < 2) (hj : j < 8) : t * 2 ^ j < 256 := by
  have hp : 2 ^ j ≤ 2 ^ 7 := Nat.pow_le_pow_right (by decide) (by omega)
  have : (2 : Nat) ^ 7 = 128 := by decide
  rcases (show t = 0 ∨ t = 1 by omega) with rfl | rfl <;> omega
theorem shl64 {t j : Nat} (ht : t < 2) (hj : j < 64) : IntKind.u64.wrap ((t : Int) * 2 ^ j) = ((t * 2 ^ j : Nat) : Int) := by
  have h := pw64 ht hj
  rw [show (t : Int) * 2 ^ j = ((t * 2 ^ j : Nat) : Int) by rw [Int.natCast_mul, Int.natCast_pow]; rfl, IntKind.wrap_u64]; omega
theorem shl8 {t j : Nat} (ht : t < 2) (hj : j < 8) : IntKind.u8.wrap ((t : Int) * 2 ^ j) = ((t * 2 ^ j : Nat) : Int) := by
  have h := pw8 ht hj
  rw [show (t : Int) * 2 ^ j = ((t * 2 ^ j : Nat) : Int) by rw [Int.natCast_mul, Int.natCast_pow]; rfl, IntKind.wrap_u8]; omega
theorem or64 {a t j : Nat} (ha : a < 2 ^ j) (ht : t < 2) (hj : j < 64) : bits .or .u64 (a : Int) ((t * 2 ^ j : Nat) : Int) = ((a + t * 2 ^ j : Nat) : Int) := by
  have hp : 2 ^ j ≤ 2 ^ 63 := Nat.pow_le_pow_right (by decide) (by omega)
  have : (2 : Nat) ^ 63 = 9223372036854775808 := by decide
  rw [u64_or_nat _ _ (by omega) (pw64 ht hj), or_pow ha]
theorem or8 {a t j : Nat} (ha : a < 2 ^ j) (ht : t < 2) (hj : j < 8) : bits .or .u8 (a : Int) ((t * 2 ^ j : Nat) : Int) = ((a + t * 2 ^ j : Nat) : Int) := by
  have hp : 2 ^ j ≤ 2 ^ 7 := Nat.pow_le_pow_right (by decide) (by omega)
  have : (2 : Nat) ^ 7 = 128 := by decide
  rw [u8_or_nat _ _ (by omega) (pw8 ht hj), or_pow ha]

set_option maxHeartbeats 2000000 in
set_option maxRecDepth 100000 in
theorem splanes7_lens (a : Option Addr) (n ca : Nat) (w : World) (hn : n ≠ 64) :
    Calls Try.prog 4 #[.slice a n ca] w fun e w' => e = .returned (.tuple #[.slice none 0 0, .int .i64 6]) ∧ w' = w := by
  have D : ((n : Int) == 64) = false := by simp; omega
  clear hn
  go_enter Try.func4, Try.ntmps4
  go_wp2
  go_ret2
  exact ⟨rfl, rfl⟩
set_option maxHeartbeats 2000000 in
set_option maxRecDepth 100000 in
theorem sblock7_lens (a : Option Addr) (n ca : Nat) (w : World) (hn : n ≠ 8) :
    Calls Try.prog 7 #[.slice a n ca] w fun e w' => e = .returned (.tuple #[.slice none 0 0, .int .i64 6]) ∧ w' = w := by
  have D : ((n : Int) == 8) = false := by simp; omega
  clear hn
  go_enter Try.func7, Try.ntmps7
  go_wp2
  go_ret2
  exact ⟨rfl, rfl⟩

set_option maxHeartbeats 2000000 in
set_option maxRecDepth 100000 in
theorem splanes7_ok (x : Option Addr) (cx : Nat) (S : Nat → Nat) (w : World) (hv : Rb w (.slice x 64 cx) 64 S) :
    Calls Try.prog 4 #[.slice x 64 cx] w fun e w' => e = .returned (.tuple #[.slice (some ⟨w.heap.size, 0, none⟩) 8 8, .int .i64 0]) ∧ Rv w' w.heap.size 8 (fun i => pln S i 64) ∧ Below w.heap.size w w' := by
  obtain ⟨-, k2, a, ca, e, -, -, k4⟩ := hv
  cases e
  obtain ⟨b, o, rfl, hbl, hcl⟩ := k4 (by decide)
  have hmk := run_make_row' (P := Try.prog) 24 34 (.int .u64 0) 8 Try.underlying24 info_u64 rfl .i64 .i64 8 (by decide) (by decide)
  have hmk2 : ∀ w, (Instr.makeSlice 24 (.int .i64 8) (.int .i64 8)).run Try.prog w = .ok (.slice (some ⟨w.heap.size, 0, none⟩) 8 8) (w.alloc (.cells (madeCells #[.int .u64 0] 8) 34)) := hmk
  have HK : Hid ((∀ i, i < 64 → S i < 256) ∧ b < w.heap.size ∧ ∀ i, i < 64 → w.cell? ⟨b, o + i, none⟩ = some (.int .u8 (S i : Nat))) := ⟨k2, hbl, hcl⟩
  clear k2 k4 hbl hcl hmk
  go_enter Try.func4, Try.ntmps4
  go_wp2
  go_loopw [14] (fun jv wr => ∃ j : Nat, j ≤ 64 ∧ jv = .int .i64 j ∧ Rv wr w.heap.size 8 (fun i => pln S i j) ∧ Below w.heap.size w wr) (fun jv _ => 64 - (intOf jv).toNat)
  case atStart => exact ⟨0, Nat.zero_le _, rfl, made_rv w, (Below.refl _ _).alloc (Nat.le_refl _) _⟩
  case round =>
    obtain ⟨j, hj, rfl, hr, hb⟩ := hrel
    by_cases hlt : j < 64
    · have i1 : ((j : Nat) : Int) < 64 := by omega
      have q1 := (hb.cell (p := ⟨b, o + j, none⟩) HK.out.2.1).trans (HK.out.2.2 j hlt)
      have HR : Hid (Rv wr w.heap.size 8 (fun i => pln S i j) ∧ Below w.heap.size w wr) := ⟨hr, hb⟩
      have lx := HK.out.1 j hlt
      obtain ⟨x, hx⟩ : ∃ x, x = S j := ⟨_, rfl⟩
      have HX : Hid (x = S j ∧ x < 256) := ⟨hx, hx ▸ lx⟩
      rw [← hx] at q1
      clear hr hb hx lx
      go_wp2
      go_loopw [19] (fun bv wq => ∃ d : Nat, d ≤ 8 ∧ bv = .int .i64 d ∧ Rv wq w.heap.size 8 (fun i => if i < d then pln S i (j + 1) else pln S i j) ∧ Below w.heap.size w wq) (fun bv _ => 8 - (intOf bv).toNat)
      case atStart => exact ⟨0, Nat.zero_le _, rfl, HR.out.1.congr (fun i _ => (if_neg (Nat.not_lt_zero _)).symm), HR.out.2⟩
      case round =>
        obtain ⟨d, hd, rfl, hr, hb⟩ := hrel
        by_cases hdl : d < 8
        · have i2 : ((d : Nat) : Int) < 8 := by omega
          have q2 := hr.2.2.cell (i := d) hdl
          dsimp only at q2
          rw [if_neg (Nat.lt_irrefl _)] at q2
          have q3 := hr.2.2.frozen d
          have A1 := u8_bit x d HX.out.2
          have bt := bit_lt x d
          have st : pln S d (j + 1) = pln S d j + x / 2 ^ d % 2 * 2 ^ j := by rw [HX.out.1]; rfl
          have ll := pln_lt S d j
          have C1 : IntKind.u64.wrap ((x / 2 ^ d % 2 : Nat) : Int) = ((x / 2 ^ d % 2 : Nat) : Int) := by rw [IntKind.wrap_u64]; omega
          have M1 := shl64 bt hlt
          have O1 := or64 ll bt hlt
          rw [← st] at O1
          have lo : pln S d (j + 1) < 18446744073709551616 := Nat.lt_of_lt_of_le (pln_lt S d (j + 1)) (by have := Nat.pow_le_pow_right (n := 2) (by decide) (show j + 1 ≤ 64 by omega); simpa using this)
          have HT : Hid (Rv (wr.setCell ⟨w.heap.size, d, none⟩ (.int .u64 (pln S d (j + 1) : Nat))) w.heap.size 8 (fun i => if i < d + 1 then pln S i (j + 1) else pln S i j) ∧ Below w.heap.size w (wr.setCell ⟨w.heap.size, d, none⟩ (.int .u64 (pln S d (j + 1) : Nat)))) :=
            ⟨(hr.set d _ lo).congr (fun i _ => by
              by_cases e : i = d
              · subst e; rw [if_pos rfl, if_pos (Nat.lt_succ_self _)]
              · rw [if_neg e]
                by_cases e2 : i < d
                · rw [if_pos e2, if_pos (by omega)]
                · rw [if_neg e2, if_neg (by omega)]), hb.setCell (Nat.le_refl _) _⟩
          obtain ⟨t, ht⟩ : ∃ t, t = x / 2 ^ d % 2 := ⟨_, rfl⟩
          rw [← ht] at A1 C1 M1 O1
          obtain ⟨u, hu⟩ : ∃ u, u = t * 2 ^ j := ⟨_, rfl⟩
          rw [← hu] at M1 O1
          obtain ⟨z, hz⟩ : ∃ z, z = pln S d (j + 1) := ⟨_, rfl⟩
          rw [← hz] at O1 HT
          obtain ⟨y, hy⟩ : ∃ y, y = pln S d j := ⟨_, rfl⟩
          rw [← hy] at q2 O1
          clear st hr hb ll lo bt ht hu hz hy q1
          go_wp2
          refine region_tail8 12 (by kernel_rfl) (by kernel_rfl) ?_
          simp only [List.take_succ_cons, List.take_zero, List.drop_succ_cons, List.drop_zero]
          repeat still_step
          refine wpStill_nil ?_
          go_wp2
          go_roundw
          case rel => exact ⟨d + 1, by omega, by go_num, ⟨HT.out.1.1, HT.out.1.2.1, HT.out.1.2.2.drew⟩, HT.out.2.drew⟩
          case measure => simp [intOf]; omega
        · have hd8 : d = 8 := by omega
          subst hd8
          rw [show ((8 : Nat) : Int) = 8 from rfl]
          go_wp2
          go_roundw
          case rel => exact ⟨j + 1, by omega, by go_num, hr.congr (fun i hi => if_pos hi), hb⟩
          case measure => simp [intOf]; omega
    · have hj64 : j = 64 := by omega
      subst hj64
      go_wp2
      go_ret2
      exact ⟨rfl, hr, hb⟩

set_option maxHeartbeats 2000000 in
set_option maxRecDepth 100000 in
theorem sblock7_ok (x : Option Addr) (cx : Nat) (S : Nat → Nat) (w : World) (hv : Rq w (.slice x 8 cx) 8 S) :
    Calls Try.prog 7 #[.slice x 8 cx] w fun e w' => e = .returned (.tuple #[.slice (some ⟨w.heap.size, 0, none⟩) 64 64, .int .i64 0]) ∧ Rw w' w.heap.size 64 (fun i => pln S i 8) ∧ Below w.heap.size w w' := by
  obtain ⟨-, k2, a, ca, e, -, -, k4⟩ := hv
  cases e
  obtain ⟨b, o, rfl, hbl, hcl⟩ := k4 (by decide)
  have hmk := make_u8 64 (by decide)
  have hmk2 : ∀ w, (Instr.makeSlice 23 (.int .i64 64) (.int .i64 64)).run Try.prog w = .ok (.slice (some ⟨w.heap.size, 0, none⟩) 64 64) (w.alloc (.cells (madeCells #[.int .u8 0] 64) 5)) := hmk
  have HK : Hid ((∀ i, i < 8 → S i < 18446744073709551616) ∧ b < w.heap.size ∧ ∀ i, i < 8 → w.cell? ⟨b, o + i, none⟩ = some (.int .u64 (S i : Nat))) := ⟨k2, hbl, hcl⟩
  clear k2 k4 hbl hcl hmk
  go_enter Try.func7, Try.ntmps7
  go_wp2
  go_loopw [14] (fun jv wr => ∃ j : Nat, j ≤ 8 ∧ jv = .int .i64 j ∧ Rw wr w.heap.size 64 (fun i => pln S i j) ∧ Below w.heap.size w wr) (fun jv _ => 8 - (intOf jv).toNat)
  case atStart => exact ⟨0, Nat.zero_le _, rfl, made_rw 64 (by decide) w, (Below.refl _ _).alloc (Nat.le_refl _) _⟩
  case round =>
    obtain ⟨j, hj, rfl, hr, hb⟩ := hrel
    by_cases hlt : j < 8
    · have i1 : ((j : Nat) : Int) < 8 := by omega
      have q1 := (hb.cell (p := ⟨b, o + j, none⟩) HK.out.2.1).trans (HK.out.2.2 j hlt)
      have HR : Hid (Rw wr w.heap.size 64 (fun i => pln S i j) ∧ Below w.heap.size w wr) := ⟨hr, hb⟩
      have lx := HK.out.1 j hlt
      obtain ⟨x, hx⟩ : ∃ x, x = S j := ⟨_, rfl⟩
      have HX : Hid (x = S j ∧ x < 18446744073709551616) := ⟨hx, hx ▸ lx⟩
      rw [← hx] at q1
      clear hr hb hx lx
      go_wp2
      go_loopw [19] (fun bv wq => ∃ d : Nat, d ≤ 64 ∧ bv = .int .i64 d ∧ Rw wq w.heap.size 64 (fun i => if i < d then pln S i (j + 1) else pln S i j) ∧ Below w.heap.size w wq) (fun bv _ => 64 - (intOf bv).toNat)
      case atStart => exact ⟨0, Nat.zero_le _, rfl, HR.out.1.congr (fun i _ => (if_neg (Nat.not_lt_zero _)).symm), HR.out.2⟩
      case round =>
        obtain ⟨d, hd, rfl, hr, hb⟩ := hrel
        by_cases hdl : d < 64
        · have i2 : ((d : Nat) : Int) < 64 := by omega
          have q2 := hr.2.2.cell (i := d) hdl
          dsimp only at q2
          rw [if_neg (Nat.lt_irrefl _)] at q2
          have q3 := hr.2.2.frozen d
          have A1 := u64_bit x d HX.out.2
          have bt := bit_lt x d
          have st : pln S d (j + 1) = pln S d j + x / 2 ^ d % 2 * 2 ^ j := by rw [HX.out.1]; rfl
          have ll := pln_lt S d j
          have C1 : IntKind.u8.wrap ((x / 2 ^ d % 2 : Nat) : Int) = ((x / 2 ^ d % 2 : Nat) : Int) := by rw [IntKind.wrap_u8]; omega
          have M1 := shl8 bt hlt
          have O1 := or8 ll bt hlt
          rw [← st] at O1
          have lo : pln S d (j + 1) < 256 := Nat.lt_of_lt_of_le (pln_lt S d (j + 1)) (by have := Nat.pow_le_pow_right (n := 2) (by decide) (show j + 1 ≤ 8 by omega); simpa using this)
          have HT : Hid (Rw (wr.setCell ⟨w.heap.size, d, none⟩ (.int .u8 (pln S d (j + 1) : Nat))) w.heap.size 64 (fun i => if i < d + 1 then pln S i (j + 1) else pln S i j) ∧ Below w.heap.size w (wr.setCell ⟨w.heap.size, d, none⟩ (.int .u8 (pln S d (j + 1) : Nat)))) :=
            ⟨(hr.set d _ lo).congr (fun i _ => by
              by_cases e : i = d
              · subst e; rw [if_pos rfl, if_pos (Nat.lt_succ_self _)]
              · rw [if_neg e]
                by_cases e2 : i < d
                · rw [if_pos e2, if_pos (by omega)]
                · rw [if_neg e2, if_neg (by omega)]), hb.setCell (Nat.le_refl _) _⟩
          obtain ⟨t, ht⟩ : ∃ t, t = x / 2 ^ d % 2 := ⟨_, rfl⟩
          rw [← ht] at A1 C1 M1 O1
          obtain ⟨u, hu⟩ : ∃ u, u = t * 2 ^ j := ⟨_, rfl⟩
          rw [← hu] at M1 O1
          obtain ⟨z, hz⟩ : ∃ z, z = pln S d (j + 1) := ⟨_, rfl⟩
          rw [← hz] at O1 HT
          obtain ⟨y, hy⟩ : ∃ y, y = pln S d j := ⟨_, rfl⟩
          rw [← hy] at q2 O1
          clear st hr hb ll lo bt ht hu hz hy q1
          go_wp2
          refine region_tail8 12 (by kernel_rfl) (by kernel_rfl) ?_
          simp only [List.take_succ_cons, List.take_zero, List.drop_succ_cons, List.drop_zero]
          repeat still_step
          refine wpStill_nil ?_
          go_wp2
          go_roundw
          case rel => exact ⟨d + 1, by omega, by go_num, ⟨HT.out.1.1, HT.out.1.2.1, HT.out.1.2.2.drew⟩, HT.out.2.drew⟩
          case measure => simp [intOf]; omega
        · have hd8 : d = 64 := by omega
          subst hd8
          rw [show ((64 : Nat) : Int) = 64 from rfl]
          go_wp2
          go_roundw
          case rel => exact ⟨j + 1, by omega, by go_num, hr.congr (fun i hi => if_pos hi), hb⟩
          case measure => simp [intOf]; omega
    · have hj64 : j = 8 := by omega
      subst hj64
      go_wp2
      go_ret2
      exact ⟨rfl, hr, hb⟩
end Go.Proofs.Ytjoaagkhanbhiaa
