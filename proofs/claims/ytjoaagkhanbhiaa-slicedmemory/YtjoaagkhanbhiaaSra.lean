import Derived.Test.YtjoaagkhanbhiaaSbd
namespace Go.Proofs.Ytjoaagkhanbhiaa
open Go.RowKit Gf2
set_option linter.unusedVariables false

set_option maxHeartbeats 2000000 in
set_option maxRecDepth 100000 in
theorem refCols7 (c : Nat) (w : World) (hc : c < 256) :
    Calls Try.prog 10 #[.int .u8 (c : Int)] w fun e w' => e = .returned (.slice (some ⟨w.heap.size, 0, none⟩) 8 8) ∧ Rw w' w.heap.size 8 (fun i => fm 285 c (2 ^ i)) ∧ Below w.heap.size w w' := by
  have hmk := make_u8 8 (by decide)
  have hmk : ∀ w, (Instr.makeSlice 23 (.int .i64 8) (.int .i64 8)).run Try.prog w = .ok (.slice (some ⟨w.heap.size, 0, none⟩) 8 8) (w.alloc (.cells (madeCells #[.int .u8 0] 8) 5)) := hmk
  have HC : Hid (c < 256) := hc
  clear hc
  go_enter Try.func10, Try.ntmps10
  go_wp2
  go_loopw [4] (fun i wr => ∃ k : Nat, k ≤ 8 ∧ i = .int .i64 k ∧ Rw wr w.heap.size 8 (fun i => if i < k then fm 285 c (2 ^ i) else 0) ∧ Below w.heap.size w wr) (fun i _ => 8 - (intOf i).toNat)
  case atStart => exact ⟨0, by decide, rfl, (made_rw 8 (by decide) w).congr (fun i _ => (if_neg (Nat.not_lt_zero _)).symm), (Below.refl _ _).alloc (Nat.le_refl _) _⟩
  case round =>
    obtain ⟨k, hk, rfl, hr, hb⟩ := hrel
    by_cases hlt : k < 8
    · have i1 : ((k : Nat) : Int) < 8 := by omega
      have q1 := hr.2.2.cell hlt
      dsimp only at q1
      rw [if_neg (Nat.lt_irrefl _)] at q1
      have q2 := hr.2.2.frozen k
      have hp : 2 ^ k ≤ 128 := by have := Nat.pow_le_pow_right (n := 2) (by decide) (show k ≤ 7 by omega); simpa using this
      have e1 := one8 k hlt
      have cM := fun W => refMul_nat c (2 ^ k) W HC.out (by omega)
      obtain ⟨v, hv⟩ : ∃ v, v = fm 285 c (2 ^ k) := ⟨_, rfl⟩
      have HV : Hid (v = fm 285 c (2 ^ k) ∧ Rw wr w.heap.size 8 (fun i => if i < k then fm 285 c (2 ^ i) else 0) ∧ Below w.heap.size w wr) := ⟨hv, hr, hb⟩
      obtain ⟨P, hP⟩ : ∃ P : Nat, P = 2 ^ k := ⟨_, rfl⟩
      rw [← hv] at cM
      rw [← hP] at e1 cM
      clear hr hb hv hP hp
      go_wp2_with (go_at_call 15; (with_reducible refine (cM _).mono ?_); rintro e w9 ⟨rfl, hw9⟩; have hw9 := hw9.symm; subst hw9)
      go_roundw
      case rel =>
        obtain ⟨hv, g0, g2⟩ := HV.out
        refine ⟨k + 1, hlt, by go_num, (g0.set k v (by rw [hv]; exact fm8_lt _ _)).congr (fun i hi => ?_), g2.setCell (Nat.le_refl _) _⟩
        by_cases e : i = k
        · subst e; rw [if_pos rfl, if_pos (Nat.lt_succ_self _), hv]
        · rw [if_neg e]
          by_cases e2 : i < k
          · rw [if_pos e2, if_pos (by omega)]
          · rw [if_neg e2, if_neg (by omega)]
      case measure => simp [intOf]; omega
    · have hk8 : k = 8 := by omega
      subst hk8
      go_wp2
      go_ret
      exact ⟨rfl, hr.congr (fun i hi => if_pos hi), hb⟩

set_option maxHeartbeats 2000000 in
set_option maxRecDepth 100000 in
theorem refPlanes7_lens (a : Option Addr) (n ca : Nat) (w : World) (hn : n ≠ 64) :
    Calls Try.prog 5 #[.slice a n ca] w fun e w' => e = .returned (.tuple #[.slice none 0 0, .int .i64 6]) ∧ w' = w := by
  have D : ((n : Int) == 64) = false := by simp; omega
  clear hn
  go_enter Try.func5, Try.ntmps5
  go_wp2
  go_ret2
  exact ⟨rfl, rfl⟩
set_option maxHeartbeats 2000000 in
set_option maxRecDepth 100000 in
theorem refPlanes7_ok (x : Option Addr) (cx : Nat) (S : Nat → Nat) (w : World) (hv : Rb w (.slice x 64 cx) 64 S) :
    Calls Try.prog 5 #[.slice x 64 cx] w fun e w' => e = .returned (.tuple #[.slice (some ⟨w.heap.size, 0, none⟩) 8 8, .int .i64 0]) ∧ Rv w' w.heap.size 8 (fun i => pln S i 64) ∧ Below w.heap.size w w' := by
  obtain ⟨-, k2, a, ca, e, -, -, k4⟩ := hv
  cases e
  obtain ⟨b, o, rfl, hbl, hcl⟩ := k4 (by decide)
  have hmk := run_make_row' (P := Try.prog) 24 34 (.int .u64 0) 8 Try.underlying24 info_u64 rfl .i64 .i64 8 (by decide) (by decide)
  have hmk2 : ∀ w, (Instr.makeSlice 24 (.int .i64 8) (.int .i64 8)).run Try.prog w = .ok (.slice (some ⟨w.heap.size, 0, none⟩) 8 8) (w.alloc (.cells (madeCells #[.int .u64 0] 8) 34)) := hmk
  have HK : Hid ((∀ i, i < 64 → S i < 256) ∧ b < w.heap.size ∧ ∀ i, i < 64 → w.cell? ⟨b, o + i, none⟩ = some (.int .u8 (S i : Nat))) := ⟨k2, hbl, hcl⟩
  clear k2 k4 hbl hcl hmk
  go_enter Try.func5, Try.ntmps5
  go_wp2
  go_loopw [5] (fun jv wr => ∃ j : Nat, j ≤ 64 ∧ jv = .int .i64 j ∧ Rv wr w.heap.size 8 (fun i => pln S i j) ∧ Below w.heap.size w wr) (fun jv _ => 64 - (intOf jv).toNat)
  case atStart => exact ⟨0, Nat.zero_le _, rfl, made_rv w, (Below.refl _ _).alloc (Nat.le_refl _) _⟩
  case round =>
    obtain ⟨j, hj, rfl, hr, hb⟩ := hrel
    by_cases hlt : j < 64
    · have i1 : ((j : Nat) : Int) < 64 := by omega
      have HR : Hid (Rv wr w.heap.size 8 (fun i => pln S i j) ∧ Below w.heap.size w wr) := ⟨hr, hb⟩
      clear hr hb
      go_wp2
      go_loopw [6] (fun bv wq => ∃ d : Nat, d ≤ 8 ∧ bv = .int .i64 d ∧ Rv wq w.heap.size 8 (fun i => if i < d then pln S i (j + 1) else pln S i j) ∧ Below w.heap.size w wq) (fun bv _ => 8 - (intOf bv).toNat)
      case atStart => exact ⟨0, Nat.zero_le _, rfl, HR.out.1.congr (fun i _ => (if_neg (Nat.not_lt_zero _)).symm), HR.out.2⟩
      case round =>
        obtain ⟨d, hd, rfl, hr, hb⟩ := hrel
        by_cases hdl : d < 8
        · have i2 : ((d : Nat) : Int) < 8 := by omega
          have q1 := (hb.cell (p := ⟨b, o + j, none⟩) HK.out.2.1).trans (HK.out.2.2 j hlt)
          have q2 := hr.2.2.cell (i := d) hdl
          dsimp only at q2
          rw [if_neg (Nat.lt_irrefl _)] at q2
          have q3 := hr.2.2.frozen d
          have A1 := u8_bit (S j) d (HK.out.1 j hlt)
          have st : pln S d (j + 1) = pln S d j + S j / 2 ^ d % 2 * 2 ^ j := rfl
          have ll := pln_lt S d j
          have lt64 : pln S d (j + 1) < 18446744073709551616 := Nat.lt_of_lt_of_le (pln_lt S d (j + 1)) (by have := Nat.pow_le_pow_right (n := 2) (by decide) (show j + 1 ≤ 64 by omega); simpa using this)
          have E1 := one64 j hlt
          have O1 := or_plane (pln S d j) j ll hlt
          have step : ∀ v, v = pln S d (j + 1) → ∀ wx : World, Rv wx w.heap.size 8 (fun i => if i = d then v else if i < d then pln S i (j + 1) else pln S i j) → Rv wx w.heap.size 8 (fun i => if i < d + 1 then pln S i (j + 1) else pln S i j) := fun v hv wx hx => hx.congr (fun i _ => by
            by_cases e : i = d
            · subst e; rw [if_pos rfl, if_pos (Nat.lt_succ_self _), hv]
            · rw [if_neg e]
              by_cases e2 : i < d
              · rw [if_pos e2, if_pos (by omega)]
              · rw [if_neg e2, if_neg (by omega)])
          have HQ : Hid (Rv wr w.heap.size 8 (fun i => if i < d then pln S i (j + 1) else pln S i j) ∧ Below w.heap.size w wr ∧ pln S d (j + 1) < 18446744073709551616) := ⟨hr, hb, lt64⟩
          have HT : Hid (∀ v, v = pln S d (j + 1) → ∀ wx : World, Rv wx w.heap.size 8 (fun i => if i = d then v else if i < d then pln S i (j + 1) else pln S i j) → Rv wx w.heap.size 8 (fun i => if i < d + 1 then pln S i (j + 1) else pln S i j)) := step
          obtain ⟨x, hx⟩ : ∃ x, x = S j := ⟨_, rfl⟩
          rw [← hx] at q1 A1 st
          by_cases hbit : x / 2 ^ d % 2 = 1
          · rw [hbit] at A1
            rw [hbit, Nat.one_mul] at st
            have HS : Hid (pln S d (j + 1) = pln S d j + 2 ^ j) := st
            clear st hbit hx hr hb ll lt64 step
            go_wp2
            go_roundw
            case rel =>
              have Z : ((pln S d j : Nat) : Int) + 2 ^ j = ((pln S d (j + 1) : Nat) : Int) := by rw [HS.out, Int.natCast_add, Int.natCast_pow]; rfl
              rw [Z]
              exact ⟨d + 1, by omega, by go_num, HT.out _ rfl _ (HQ.out.1.set d _ HQ.out.2.2), HQ.out.2.1.setCell (Nat.le_refl _) _⟩
            case measure => simp [intOf]; omega
          · have h0 : x / 2 ^ d % 2 = 0 := by have := bit_lt x d; omega
            rw [h0] at A1
            rw [h0, Nat.zero_mul, Nat.add_zero] at st
            have HS : Hid (pln S d (j + 1) = pln S d j) := st
            clear st hbit h0 hx hr hb ll lt64 step E1 O1
            go_wp2
            go_roundw
            case rel =>
              refine ⟨d + 1, by omega, by go_num, HT.out (pln S d j) HS.out.symm _ (HQ.out.1.congr (fun i _ => ?_)), HQ.out.2.1⟩
              by_cases e : i = d
              · subst e; rw [if_pos rfl, if_neg (Nat.lt_irrefl _)]
              · rw [if_neg e]
            case measure => simp [intOf]; omega
        · have hd8 : d = 8 := by omega
          subst hd8
          rw [show ((8 : Nat) : Int) = 8 from rfl]
          go_wp2
          go_roundw
          case rel => exact ⟨j + 1, by omega, by go_num, hr.congr (fun i hi => if_pos hi), hb⟩
          case measure => simp [intOf]; omega
    · have hj64 : j = 64 := by omega
      subst hj64
      go_wp2
      go_ret2
      exact ⟨rfl, hr, hb⟩
end Go.Proofs.Ytjoaagkhanbhiaa
