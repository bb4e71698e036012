import Derived.Test.YtlblkckglelbdaaGreatMwbk
import Derived.Laws.BitsLemmas
import Derived.Test.YtlblkckglelbdaaGreatMwaj
import Derived.Test.YtlblkckglelbdaaGreatMwal
namespace Go.Proofs.YtlblkckglelbdaaGreat
open Go.RowKit Gf2
set_option linter.unusedVariables false

-- the top's own field (mul8 as in Wka)
def xt (a : Nat) : Nat → Nat
  | 0 => a
  | t + 1 => tw (xt a t)
theorem xt_lt {a : Nat} (ha : a < 256) : ∀ t, xt a t < 256
  | 0 => ha
  | t + 1 => tw_lt (xt_lt ha t)
theorem two_pow8 : ∀ t, t < 7 → fm 285 2 (2 ^ t) = 2 ^ (t + 1) := by decide +kernel
theorem xt_fm {a : Nat} (ha : a < 256) : ∀ t, t < 8 → xt a t = fm 285 a (2 ^ t)
  | 0, _ => by show a = fm 285 a 1; rw [fld8.fm_one ha]
  | t + 1, h => by
    show tw (xt a t) = _
    rw [← tw_fm (xt_lt ha t), xt_fm ha t (by omega), ← two_pow8 t (by omega), ← fld8.fm_assoc, fm_comm 285 2 a, fld8.fm_assoc]
theorem bits8 : ∀ b, b < 256 → ∀ t, t < 8 → b % 2 ^ (t + 1) = (b % 2 ^ t) ^^^ (if b / 2 ^ t % 2 = 1 then 2 ^ t else 0) := by decide +kernel
theorem fm_step {a b t : Nat} (ha : a < 256) (hb : b < 256) (ht : t < 8) : fm 285 a (b % 2 ^ (t + 1)) = fm 285 a (b % 2 ^ t) ^^^ (if b / 2 ^ t % 2 = 1 then xt a t else 0) := by
  rw [bits8 b hb t ht, fld8.fm_xor]
  split
  · rw [xt_fm ha t ht]
  · rw [fld8.fm_zero]
theorem and256 : ∀ x, x < 256 → (2 * x) &&& 256 = if 256 ≤ 2 * x then 256 else 0 := by decide +kernel
theorem and1_8 (b t : Nat) (hb : b < 256) : bits BinOp.and IntKind.i64 ((b : Int) / 2 ^ t) 1 = ((b / 2 ^ t % 2 : Nat) : Int) := by
  have h := i64_and_nat (b / 2 ^ t) 1 (Nat.lt_of_le_of_lt (Nat.div_le_self _ _) (by omega)) (by decide)
  rw [Nat.and_one_is_mod] at h
  rw [← h]
  congr 1
set_option maxHeartbeats 2000000 in
set_option maxRecDepth 100000 in
theorem mul8_nat (a b : Nat) (w : World) (ha : a < 256) (hb : b < 256) :
    Calls Tryz.prog 63 #[.int .u8 (a : Int), .int .u8 (b : Int)] w fun e w' => e = .returned (.int .u8 (fm 285 a b : Nat)) ∧ w' = w := by
  go_enter Tryz.func63, Tryz.ntmps63
  go_wp2
  go_loopw [5, 7, 8] (fun xv sv tv wr => ∃ t : Nat, t ≤ 8 ∧ xv = .int .i64 (xt a t : Nat) ∧ sv = .int .i64 (fm 285 a (b % 2 ^ t) : Nat) ∧ tv = .int .i64 t ∧ wr = w) (fun _ _ t _ => 8 - (intOf t).toNat)
  case atStart => exact ⟨0, by decide, rfl, by rw [Nat.pow_zero, Nat.mod_one, fld8.fm_zero]; rfl, rfl, rfl⟩
  case round =>
    obtain ⟨t, ht, rfl, rfl, rfl, hw⟩ := hrel
    have hw := hw.symm
    subst hw
    by_cases hlt : t < 8
    · have hx := xt_lt ha t
      have hs : fm 285 a (b % 2 ^ t) < 256 := fm8_lt _ _
      have A1 := and1_8 b t hb
      have st := fm_step ha hb hlt
      have X1 := i64_xor_nat (fm 285 a (b % 2 ^ t)) (xt a t) (by omega) (by omega)
      have X2 : bits BinOp.and IntKind.i64 ((xt a t : Int) * 2) 256 = (((2 * xt a t) &&& 256 : Nat) : Int) := by
        have := i64_and_nat (2 * xt a t) 256 (by omega) (by decide)
        rw [← this]; congr 1; omega
      rw [and256 _ hx] at X2
      have X3 : bits BinOp.xor IntKind.i64 ((xt a t : Int) * 2) 285 = ((2 * xt a t ^^^ 285 : Nat) : Int) := by
        have := i64_xor_nat (2 * xt a t) 285 (by omega) (by decide)
        rw [← this]; congr 1; omega
      have HT : Hid (t < 8 ∧ xt a (t + 1) = tw (xt a t)) := ⟨hlt, rfl⟩
      have HS : Hid (fm 285 a (b % 2 ^ (t + 1)) = fm 285 a (b % 2 ^ t) ^^^ (if b / 2 ^ t % 2 = 1 then xt a t else 0)) := st
      have it : ((t : Nat) : Int) < 8 := by omega
      have t0 : ((t : Nat) : Int) < 64 := by omega
      clear st
      generalize fm 285 a (b % 2 ^ t) = s at *
      generalize xt a t = x at *
      by_cases hbit : b / 2 ^ t % 2 = 1
      · rw [hbit] at A1
        have A1 : bits BinOp.and IntKind.i64 ((b : Int) / 2 ^ t) 1 = 1 := A1
        have e1 := HS.out
        rw [if_pos hbit] at e1
        have HS : Hid _ := e1
        clear e1 hbit
        by_cases hx2 : 256 ≤ 2 * x
        · rw [if_pos hx2] at X2
          have X2 : bits BinOp.and IntKind.i64 ((x : Int) * 2) 256 = 256 := X2
          have e2 : tw x = 2 * x ^^^ 285 := by unfold tw; rw [if_pos hx2]
          have HX : Hid _ := e2
          clear e2 hx2 ht hlt
          go_wp2
          go_roundw
          case rel => exact ⟨t + 1, HT.out.1, by rw [HT.out.2, HX.out], by rw [HS.out], rfl, by first | trivial | rfl⟩
          case measure => exact meas_lt8 HT.out.1
        · rw [if_neg hx2] at X2
          have X2 : bits BinOp.and IntKind.i64 ((x : Int) * 2) 256 = 0 := X2
          have e2 : tw x = 2 * x := by unfold tw; rw [if_neg hx2]
          have HX : Hid _ := e2
          clear e2 hx2 ht hlt X3
          go_wp2
          go_roundw
          case rel => exact ⟨t + 1, HT.out.1, by rw [HT.out.2, HX.out]; congr 1; omega, by rw [HS.out], rfl, by first | trivial | rfl⟩
          case measure => exact meas_lt8 HT.out.1
      · have h0 : b / 2 ^ t % 2 = 0 := by omega
        rw [h0] at A1
        have A1 : bits BinOp.and IntKind.i64 ((b : Int) / 2 ^ t) 1 = 0 := A1
        have e1 := HS.out
        rw [if_neg hbit, Nat.xor_zero] at e1
        have HS : Hid _ := e1
        clear e1 hbit X1 h0
        by_cases hx2 : 256 ≤ 2 * x
        · rw [if_pos hx2] at X2
          have X2 : bits BinOp.and IntKind.i64 ((x : Int) * 2) 256 = 256 := X2
          have e2 : tw x = 2 * x ^^^ 285 := by unfold tw; rw [if_pos hx2]
          have HX : Hid _ := e2
          clear e2 hx2 ht hlt
          go_wp2
          go_roundw
          case rel => exact ⟨t + 1, HT.out.1, by rw [HT.out.2, HX.out], by rw [HS.out], rfl, by first | trivial | rfl⟩
          case measure => exact meas_lt8 HT.out.1
        · rw [if_neg hx2] at X2
          have X2 : bits BinOp.and IntKind.i64 ((x : Int) * 2) 256 = 0 := X2
          have e2 : tw x = 2 * x := by unfold tw; rw [if_neg hx2]
          have HX : Hid _ := e2
          clear e2 hx2 ht hlt X3
          go_wp2
          go_roundw
          case rel => exact ⟨t + 1, HT.out.1, by rw [HT.out.2, HX.out]; congr 1; omega, by rw [HS.out], rfl, by first | trivial | rfl⟩
          case measure => exact meas_lt8 HT.out.1
    · obtain rfl : t = 8 := by omega
      have hs : fm 285 a b < 256 := fm8_lt _ _
      have e8 : b % 2 ^ 8 = b := Nat.mod_eq_of_lt hb
      rw [e8]
      go_wp2
      go_ret
      exact ⟨by first | rfl | exact ret_int (by omega), by first | trivial | rfl⟩
/-- inv8 behind t rounds: the square and the product. -/
def iq8 (a : Nat) : Nat → Nat
  | 0 => a
  | t + 1 => fm 285 (iq8 a t) (iq8 a t)
def is8 (a : Nat) : Nat → Nat
  | 0 => 1
  | t + 1 => fm 285 (is8 a t) (iq8 a (t + 1))
theorem iq8_lt {a : Nat} (ha : a < 256) : ∀ t, iq8 a t < 256
  | 0 => ha
  | t + 1 => fm8_lt _ _
theorem is8_lt (a : Nat) : ∀ t, is8 a t < 256
  | 0 => by show 1 < 256; decide
  | t + 1 => fm8_lt _ _
theorem is8_all : ∀ a, a < 256 → a ≠ 0 → fm 285 a (is8 a 7) = 1 := by decide +kernel
theorem is8_fi {a : Nat} (ha : a < 256) (h0 : a ≠ 0) : is8 a 7 = fi 285 a := fld8.fi_unique ha h0 (is8_lt a 7) (is8_all a ha h0)
set_option maxHeartbeats 2000000 in
set_option maxRecDepth 100000 in
theorem inv8_nat (a : Nat) (w : World) (ha : a < 256) :
    Calls Tryz.prog 86 #[.int .u8 (a : Int)] w fun e w' => e = .returned (.int .u8 (is8 a 7 : Nat)) ∧ w' = w := by
  have HA : Hid (a < 256) := ha
  clear ha
  go_enter Tryz.func86, Tryz.ntmps86
  go_wp2
  go_loopw [3, 4, 5] (fun sv pv tv wr => ∃ t : Nat, t ≤ 7 ∧ tv = .int .i64 ((t : Int) + 1) ∧ sv = .int .u8 (is8 a t : Nat) ∧ pv = .int .u8 (iq8 a t : Nat) ∧ wr = w) (fun _ _ t _ => 9 - (intOf t).toNat)
  case atStart => exact ⟨0, by decide, rfl, rfl, rfl, rfl⟩
  case round =>
    obtain ⟨t, ht, rfl, rfl, rfl, rfl⟩ := hrel
    by_cases hlt : t < 7
    · have ib : ((t : Nat) : Int) + 1 < 8 := by omega
      have c1 := mul8_nat (iq8 a t) (iq8 a t) wr (iq8_lt HA.out t) (iq8_lt HA.out t)
      have c2 := mul8_nat (is8 a t) (iq8 a (t + 1)) wr (is8_lt a t) (iq8_lt HA.out (t + 1))
      have e1 : fm 285 (iq8 a t) (iq8 a t) = iq8 a (t + 1) := rfl
      have e2 : fm 285 (is8 a t) (iq8 a (t + 1)) = is8 a (t + 1) := rfl
      rw [e1] at c1
      rw [e2] at c2
      have HT : Hid (t < 7) := hlt
      have HW : Hid (wrap64 ((t : Int) + 1 + 1) = ((t + 1 : Nat) : Int) + 1) := by show _ = _; unfold wrap64; omega
      obtain ⟨q1, hq1⟩ : ∃ q1, Hid (iq8 a (t + 1) = q1) := ⟨_, rfl⟩
      obtain ⟨s1, hs1⟩ : ∃ s1, Hid (is8 a (t + 1) = s1) := ⟨_, rfl⟩
      rw [hq1.out] at c1 c2
      rw [hs1.out] at c2
      generalize iq8 a t = q at *
      generalize is8 a t = s at *
      clear hlt ht e1 e2
      go_wp2_with (first
        | (go_at_call 63; (with_reducible refine c1.mono ?_); rintro e w9 ⟨rfl, hw9⟩; have hw9 := hw9.symm; subst hw9; clear c1)
        | (go_at_call 63; (with_reducible refine c2.mono ?_); rintro e w9 ⟨rfl, hw9⟩; have hw9 := hw9.symm; subst hw9; clear c2))
      go_roundw
      case rel => exact ⟨t + 1, HT.out, by congr 1, by rw [hs1.out], by rw [hq1.out], by first | trivial | rfl⟩
      case measure => have := HT.out; simp [intOf]; omega
    · have ib : ¬ ((t : Nat) : Int) + 1 < 8 := by omega
      obtain rfl : t = 7 := by omega
      clear hlt ht
      go_wp2
      go_ret
      exact ⟨rfl, rfl⟩
end Go.Proofs.YtlblkckglelbdaaGreat
namespace Go.Proofs.YtlblkckglelbdaaGreat
open Go.RowKit Gf2
set_option linter.unusedVariables false

-- the top's own rows8: the generator's rows
/-- the product of x and all numbers below l. -/
def wh8 (x l : Nat) : Nat := pr l (fun t => x ^^^ t)
theorem wh8_lt (x l : Nat) : wh8 x l < 256 := pr_lt _ _
theorem wh8_step (x l : Nat) : wh8 x (l + 1) = fm 285 (wh8 x l) (x ^^^ l) := rfl
theorem qq_lt8 (l t i : Nat) : qq l t i < 256 := by unfold qq; exact pr_lt _ _
theorem wh_qq8 {x i : Nat} (hx : x < 256) (hi : i < 256) : ∀ l, l ≤ 256 → (l ≤ i → wh8 x l = qq i l x) ∧ (i < l → wh8 x l = fm 285 (qq i l x) (x ^^^ i))
  | 0, _ => ⟨fun _ => rfl, fun h => absurd h (Nat.not_lt_zero _)⟩
  | l + 1, hl => by
    obtain ⟨h1, h2⟩ := wh_qq8 hx hi l (by omega)
    refine ⟨fun h => ?_, fun h => ?_⟩
    · rw [wh8_step, h1 (by omega), qq_step19 (by omega)]
    · by_cases e : l = i
      · subst e
        rw [wh8_step, h1 (Nat.le_refl _), qq_skip19]
      · rw [wh8_step, h2 (by omega), qq_step19 e, fld8.fm_assoc, fld8.fm_assoc, fm_comm 285 (x ^^^ i)]
/-- an entry of the rows. -/
theorem row_v8 {k x i : Nat} (hi : i < k) (hk : k ≤ x) (hx : x < 256) : fm 285 (is8 (x ^^^ i) 7) (fm 285 (wh8 x k) (is8 (wg k i) 7)) = gen11 ((0 : Nat) : Int) k x i := by
  have x0 : x ^^^ i ≠ 0 := xor_ne (by omega)
  have xl : x ^^^ i < 256 := xor_lt8 hx (by omega)
  have w0 := wg_ne19 (k := k) (l := i) (by omega) (by omega)
  have wl := wg_lt k i
  have ef : fi 285 (wg k i) = fv (wg k i) := by
    have h1 := fv_mul wl w0
    exact (fld8.fi_unique wl w0 (by unfold fv; split <;> first | decide | exact fld8.fi_lt wl w0) (by rw [fm_comm]; exact h1)).symm
  rw [is8_fi xl x0, is8_fi wl w0, ef, (wh_qq8 hx (by omega) k (by omega)).2 hi, ← fld8.fm_assoc, ← fld8.fm_assoc, fm_comm 285 (fi 285 _), fld8.fm_assoc (qq i k x), fm_comm 285 (fi 285 (x ^^^ i)), fld8.fi_mul xl x0, fld8.fm_one (qq_lt8 _ _ _)]
  show _ = gen11 0 k x i
  rw [gen0_eq hx (by omega) (by omega)]
theorem row_c8 {k x i : Nat} (hi : i < k) (hk : k ≤ x) (hx : x < 256) : is8 (x ^^^ i) 7 = gen11 ((1 : Nat) : Int) k x i := by
  have x0 : x ^^^ i ≠ 0 := xor_ne (by omega)
  have xl : x ^^^ i < 256 := xor_lt8 hx (by omega)
  rw [is8_fi xl x0]
  show _ = gen11 1 k x i
  unfold gen11 par11
  rw [if_neg (by omega), if_pos (by decide)]
  show fi 285 (x ^^^ i) = cau k (x - k) i
  unfold cau ti
  rw [show k + (x - k) = x by omega, if_neg x0]
end Go.Proofs.YtlblkckglelbdaaGreat
namespace Go.Proofs.YtlblkckglelbdaaGreat
open Go.RowKit Gf2
set_option linter.unusedVariables false

-- the top's own rows8, walked
theorem u8x8 {x i : Nat} (hx : x < 256) (hi : i < 256) : bits .xor .u8 (x : Int) (i : Int) = ((x ^^^ i : Nat) : Int) := u8_xor_nat x i hx hi
/-- the rows so far. -/
def Rr8 (w1 wr : World) (f k : Nat) (v : Value) (j : Nat) : Prop := ∃ C B S, Gl8 w1.heap.size wr v j (fun _ => k) C B S ∧ Below w1.heap.size w1 wr ∧ ∀ r, r < j → ∀ i, i < k → S r i = gen11 (f : Int) k (k + r) i
theorem Rr8.row {w1 wr w5 : World} {f k j : Nat} {v : Value} (h : Rr8 w1 wr f k v j) (hk : 1 ≤ k) (hj : j < 256) {u : Value} {F : Nat → Nat} (hu : Gw wr w5 u k F) (hF : ∀ i, i < k → F i = gen11 (f : Int) k (k + j) i) :
    ∃ g c v' w', u = .slice (some ⟨g, 0, none⟩) k c ∧ (Builtin.append_ #[22, 22] 22 #[v, .slice (some ⟨w5.heap.size, 0, none⟩) 1 1]).run Tryz.prog (w5.alloc (.cells #[.slice (some ⟨g, 0, none⟩) k c] 27)) = .ok v' w' ∧ Rr8 w1 w' f k v' (j + 1) := by
  obtain ⟨C, B, S, hG, hb, hS⟩ := h
  obtain ⟨hb5, h2⟩ := hu
  rcases h2 with ⟨h0, -⟩ | ⟨g, c, T, rfl, a2, a3, a4, a5⟩
  · omega
  have hG5 := hG.below hb5
  have b15 : Below w1.heap.size w1 w5 := hb.trans (hb5.mono hb.size)
  obtain ⟨v', w', hrun, hG', hb'⟩ := hG5.app (b := g) (c := c) (l := k) (T := T) b15.size (Nat.le_trans hb.size a3) a4 a2 (fun r hr => by have := (hG.rows r hr).2.2.lt; omega) (fun e => by have := (World.ownsRow.lt hG.list g e).2; omega) (by omega)
  refine ⟨g, c, v', w', rfl, hrun, upn C j c, upn B j g, upn S j T, ?_, b15.trans hb', fun r hr i hi => ?_⟩
  · refine ⟨hG'.list.congr (fun r hr => ?_), fun r hr => ?_, hG'.inj, hG'.ne⟩
    · by_cases e : r = j
      · rw [e, upn_same, upn_same]
      · rw [upn_other _ _ e, upn_other _ _ e]
    · have h9 := hG'.rows r hr
      refine ⟨h9.1, ?_, h9.2.2⟩
      have h8 := h9.2.1
      by_cases e : r = j
      · rw [e] at h8 ⊢
        rwa [upn_same] at h8
      · rwa [upn_other _ _ e] at h8
  · by_cases e : r = j
    · rw [e, upn_same, a5 i hi]; exact hF i hi
    · rw [upn_other _ _ e]; exact hS r (by omega) i hi
set_option maxHeartbeats 8000000 in
set_option maxRecDepth 100000 in
theorem rows8_v (f k m : Nat) (w : World) (hf : f ≤ 1) (h1 : 1 ≤ k) (h2 : k + m ≤ 256) :
    Calls Tryz.prog 62 #[.int .i64 (f : Int), .int .i64 (k : Int), .int .i64 (m : Int)] w fun e w' => ∃ v, e = .returned v ∧ Lb w' v m (fun _ => k) (fun r i => gen11 (f : Int) k (k + r) i) ∧ Below w.heap.size w w' := by
  have HN : Hid (f ≤ 1 ∧ 1 ≤ k ∧ k + m ≤ 256) := ⟨hf, h1, h2⟩
  clear hf h1 h2
  go_enter Tryz.func62, Tryz.ntmps62
  go_wp2
  go_loopw [7, 8] (fun u s wr => ∃ i : Nat, i ≤ k ∧ s = .int .i64 (i : Int) ∧ Gw w wr u i (fun i => is8 (wg k i) 7)) (fun _ s _ => k - (intOf s).toNat)
  case atStart => exact ⟨0, Nat.zero_le _, rfl, Gw.start _ _⟩
  case round =>
    obtain ⟨i, hi, rfl, hU⟩ := hrel
    by_cases hlt : i < k
    · have ib : ((i : Nat) : Int) < (k : Int) := Int.ofNat_lt.2 hlt
      have HU : Hid (i < k ∧ Gw w wr u7 i (fun i => is8 (wg k i) 7)) := ⟨hlt, hU⟩
      have HWi : Hid (wrap64 ((i : Int) + 1) = (i : Int) + 1) := wrap_lt8 (j := i) (b := k) hlt (by have := HN.out; omega)
      obtain ⟨w2, hw2⟩ : ∃ w2, Hid (wr = w2) := ⟨_, rfl⟩
      rw [hw2.out] at HU
      clear hU hi hlt
      go_wp2
      rw [hw2.out]
      clear hw2
      go_loopw [9, 10] (fun p s wr => ∃ l : Nat, l ≤ k ∧ s = .int .i64 (l : Int) ∧ p = .int .u8 ((wg l i : Nat) : Int) ∧ wr = w2) (fun _ s _ => k - (intOf s).toNat)
      case atStart => exact ⟨0, Nat.zero_le _, rfl, rfl, rfl⟩
      case round =>
        obtain ⟨l, hl, rfl, rfl, rfl⟩ := hrel
        by_cases hlk : l < k
        · have il : ((l : Nat) : Int) < (k : Int) := Int.ofNat_lt.2 hlk
          have HL : Hid (l < k) := hlk
          have HWl : Hid (wrap64 ((l : Int) + 1) = (l : Int) + 1) := wrap_lt8 (j := l) (b := k) hlk (by have := HN.out; omega)
          by_cases e : l = i
          · subst e
            have HE : Hid (wg (l + 1) l = wg l l) := wg_skip l
            clear hl hlk
            go_wp2
            go_roundw
            case rel => exact ⟨l + 1, HL.out, by first | rfl | (rw [HWl.out]; rfl), by rw [HE.out], by first | rfl | trivial⟩
            case measure => first | exact meas_lt8 HL.out | (rw [HWl.out]; exact meas_lt8 HL.out)
          · have hne : (((l : Nat) : Int) != ((i : Nat) : Int)) = true := by simp; omega
            have i8 : i < 256 := by have := HU.out.1; have := HN.out; omega
            have l8 : l < 256 := by have := HN.out; omega
            have X1 := u8x8 i8 l8
            have U1 := u8s19 i8
            have U2 := u8s19 l8
            have c1 := mul8_nat (wg l i) (i ^^^ l) wr (wg_lt _ _) (xor_lt8 i8 l8)
            rw [← wg_step e] at c1
            have hne2 : ¬ l = i := e
            obtain ⟨p1, hp1⟩ : ∃ p1, Hid (wg (l + 1) i = p1) := ⟨_, rfl⟩
            rw [hp1.out] at c1
            generalize wg l i = p0 at *
            generalize i ^^^ l = y at *
            clear hl hlk e i8 l8
            go_wp2_with (go_at_call 63; (with_reducible refine c1.mono ?_); rintro e w9 ⟨rfl, hw9⟩; have hw9 := hw9.symm; subst hw9; clear c1 X1 U1 U2)
            go_roundw
            case rel => exact ⟨l + 1, HL.out, by first | rfl | (rw [HWl.out]; rfl), by rw [hp1.out], by first | rfl | trivial⟩
            case measure => first | exact meas_lt8 HL.out | (rw [HWl.out]; exact meas_lt8 HL.out)
        · have il : ¬ ((l : Nat) : Int) < (k : Int) := by omega
          have hlk2 : l = k := by omega
          rw [hlk2]
          have c2 := inv8_nat (wg k i) wr (wg_lt _ _)
          obtain ⟨w', v', hrun, hU2⟩ := app_gw HU.out.2 (is8 (wg k i) 7) (is8_lt _ _) (by have := HU.out.1; have := HN.out; omega)
          have HU2 : Hid (Gw w w' v' (i + 1) (fun i => is8 (wg k i) 7)) := hU2.congr (fun x hx => by
            by_cases e : x < i
            · rw [if_pos e]
            · rw [if_neg e, show x = i by omega])
          have il2 : ¬ ((k : Nat) : Int) < (k : Int) := by omega
          generalize wg k i = pk at c2 hrun ⊢
          clear hl hlk hlk2 il hU2
          go_wp2_with (first
            | (go_at_call 86; (with_reducible refine c2.mono ?_); rintro e w9 ⟨rfl, hw9⟩; have hw9 := hw9.symm; subst hw9; clear c2)
            | (at_builtin; refine Lib.wpList_append_run _ rfl _ _ _ _ rfl _ _ rfl rfl _ _ hrun ?_; clear hrun))
          go_roundw
          case rel => exact ⟨i + 1, HU.out.1, by first | rfl | (rw [HWi.out]; rfl), HU2.out⟩
          case measure => first | exact meas_lt8 HU.out.1 | (rw [HWi.out]; exact meas_lt8 HU.out.1)
    · have ib : ¬ ((i : Nat) : Int) < (k : Int) := by omega
      have hin : i = k := by omega
      rw [hin] at hU
      obtain ⟨w1, hw1⟩ : ∃ w1, Hid (wr = w1) := ⟨_, rfl⟩
      rw [hw1.out] at hU
      have HU : Hid (Gw w w1 u7 k (fun i => is8 (wg k i) 7)) := hU
      obtain ⟨ua, uc, rfl⟩ := hU.form
      have HR0 : Hid (Rr8 w1 w1 f k (.slice none 0 0) 0) := ⟨fun _ => 0, fun _ => 0, fun _ _ => 0, Gl8.start _ _ _ _ _ _, Below.refl _ _, fun r hr => absurd hr (Nat.not_lt_zero _)⟩
      rw [hin]
      clear hU hi hlt hin ib
      have ib : ¬ ((k : Nat) : Int) < (k : Int) := by omega
      go_wp2
      rw [hw1.out]
      clear hw1 ib
      go_loopw [11, 12] (fun v s wr => ∃ j : Nat, j ≤ m ∧ s = .int .i64 (j : Int) ∧ Rr8 w1 wr f k v j) (fun _ s _ => m - (intOf s).toNat)
      case atStart => exact ⟨0, Nat.zero_le _, rfl, HR0.out⟩
      case round =>
        obtain ⟨j, hj, rfl, hR⟩ := hrel
        clear HR0
        by_cases hjm : j < m
        · have ij : ((j : Nat) : Int) < (m : Int) := Int.ofNat_lt.2 hjm
          obtain ⟨w2, hw2⟩ : ∃ w2, Hid (wr = w2) := ⟨_, rfl⟩
          rw [hw2.out] at hR
          have HR : Hid (j < m ∧ Rr8 w1 w2 f k u11 j) := ⟨hjm, hR⟩
          have HWj : Hid (wrap64 ((j : Int) + 1) = (j : Int) + 1) := wrap_lt8 (j := j) (b := m) hjm (by have := HN.out; omega)
          obtain ⟨x, hx⟩ : ∃ x, x = k + j := ⟨_, rfl⟩
          have W1 : wrap64 ((k : Int) + (j : Int)) = (x : Int) := by have := HN.out; unfold wrap64; omega
          have HX : Hid (x = k + j ∧ x < 256) := by have := HN.out; exact ⟨hx, by omega⟩
          have U1 := u8s19 HX.out.2
          clear hR hj hjm hx
          go_wp2
          rw [hw2.out]
          clear hw2 W1 U1
          go_loopw [14, 15] (fun p s wr => ∃ l : Nat, l ≤ k ∧ s = .int .i64 (l : Int) ∧ p = .int .u8 ((wh8 x l : Nat) : Int) ∧ wr = w2) (fun _ s _ => k - (intOf s).toNat)
          case atStart => exact ⟨0, Nat.zero_le _, rfl, rfl, rfl⟩
          case round =>
            obtain ⟨l, hl, rfl, rfl, rfl⟩ := hrel
            by_cases hlk : l < k
            · have il : ((l : Nat) : Int) < (k : Int) := Int.ofNat_lt.2 hlk
              have HL : Hid (l < k) := hlk
              have HWl : Hid (wrap64 ((l : Int) + 1) = (l : Int) + 1) := wrap_lt8 (j := l) (b := k) hlk (by have := HN.out; omega)
              have l8 : l < 256 := by have := HN.out; omega
              have X1 := u8x8 HX.out.2 l8
              have U2 := u8s19 l8
              have c1 := mul8_nat (wh8 x l) (x ^^^ l) wr (wh8_lt _ _) (xor_lt8 HX.out.2 l8)
              rw [← wh8_step] at c1
              obtain ⟨p1, hp1⟩ : ∃ p1, Hid (wh8 x (l + 1) = p1) := ⟨_, rfl⟩
              rw [hp1.out] at c1
              generalize wh8 x l = p0 at *
              generalize x ^^^ l = y at *
              clear hl hlk l8
              go_wp2_with (go_at_call 63; (with_reducible refine c1.mono ?_); rintro e w9 ⟨rfl, hw9⟩; have hw9 := hw9.symm; subst hw9; clear c1 X1 U2)
              go_roundw
              case rel => exact ⟨l + 1, HL.out, by first | rfl | (rw [HWl.out]; rfl), by rw [hp1.out], by first | rfl | trivial⟩
              case measure => first | exact meas_lt8 HL.out | (rw [HWl.out]; exact meas_lt8 HL.out)
            · have il : ¬ ((l : Nat) : Int) < (k : Int) := by omega
              have hlk2 : l = k := by omega
              rw [hlk2]
              have il2 : ¬ ((k : Nat) : Int) < (k : Int) := by omega
              clear hl hlk hlk2 il
              go_wp2
              clear il2
              obtain ⟨w3, hw3⟩ : ∃ w3, Hid (wr = w3) := ⟨_, rfl⟩
              rw [hw3.out] at HR ⊢
              clear hw3
              obtain ⟨hj9, hR9⟩ := HR.out
              have HB1 : Hid (Below w1.heap.size w1 w3) := by obtain ⟨_, _, _, -, h9, -⟩ := hR9; exact h9
              clear hj9 hR9
              go_loopw [16, 17] (fun u s wr => ∃ i : Nat, i ≤ k ∧ s = .int .i64 (i : Int) ∧ Gw w3 wr u i (fun i => gen11 (f : Int) k x i)) (fun _ s _ => k - (intOf s).toNat)
              case atStart => exact ⟨0, Nat.zero_le _, rfl, Gw.start _ _⟩
              case round =>
                obtain ⟨i, hi, rfl, hG⟩ := hrel
                by_cases hik : i < k
                · have ii : ((i : Nat) : Int) < (k : Int) := Int.ofNat_lt.2 hik
                  have i8 : i < 256 := by have := HN.out; omega
                  have HI : Hid (i < k) := hik
                  have HWi : Hid (wrap64 ((i : Int) + 1) = (i : Int) + 1) := wrap_lt8 (j := i) (b := k) hik (by have := HN.out; omega)
                  have X1 := u8x8 HX.out.2 i8
                  have U2 := u8s19 i8
                  have c1 := inv8_nat (x ^^^ i) wr (xor_lt8 HX.out.2 i8)
                  by_cases hf0 : f = 0
                  · have F0 : (((f : Nat) : Int) == 0) = true := by simp [hf0]
                    have hv := row_v8 (x := x) hik (by have := HX.out; omega) HX.out.2
                    have hUb := HU.out.rb.below (HB1.out.trans (hG.1.mono HB1.out.size))
                    obtain ⟨-, -, a9, c9, e9, -, -, h4⟩ := hUb
                    cases e9
                    obtain ⟨ub, uo, rfl, -, hc9⟩ := h4 (by omega)
                    have q1 : wr.cell? ⟨ub, uo + i, none⟩ = some (.int .u8 ((is8 (wg k i) 7 : Nat) : Int)) := hc9 i hik
                    have c2 := mul8_nat (wh8 x k) (is8 (wg k i) 7) wr (wh8_lt _ _) (is8_lt _ _)
                    have c3 := mul8_nat (is8 (x ^^^ i) 7) (fm 285 (wh8 x k) (is8 (wg k i) 7)) wr (is8_lt _ _) (fm8_lt _ _)
                    rw [hv] at c3
                    have hv8 : gen11 ((0 : Nat) : Int) k x i < 256 := by rw [← hv]; exact fm8_lt _ _
                    obtain ⟨w', v', hrun, hG2⟩ := app_gw hG (gen11 ((0 : Nat) : Int) k x i) hv8 (by have := HN.out; omega)
                    have HG2 : Hid (Gw w3 w' v' (i + 1) (fun i => gen11 (f : Int) k x i)) := hG2.congr (fun y hy => by
                      by_cases e : y < i
                      · rw [if_pos e]
                      · rw [if_neg e, show y = i by omega, hf0])
                    generalize gen11 ((0 : Nat) : Int) k x i = gv at *
                    generalize fm 285 (wh8 x k) (is8 (wg k i) 7) = p2 at *
                    generalize is8 (wg k i) 7 = ui at *
                    generalize wh8 x k = wh at *
                    generalize is8 (x ^^^ i) 7 = c0 at *
                    generalize x ^^^ i = y at *
                    clear hG hi hik i8 hv h4 hc9 hf0 hv8 hG2
                    go_wp2_with (first
                      | (go_at_call 86; (with_reducible refine c1.mono ?_); rintro e w9 ⟨rfl, hw9⟩; have hw9 := hw9.symm; subst hw9; clear c1)
                      | (go_at_call 63; (with_reducible refine c2.mono ?_); rintro e w9 ⟨rfl, hw9⟩; have hw9 := hw9.symm; subst hw9; clear c2)
                      | (go_at_call 63; (with_reducible refine c3.mono ?_); rintro e w9 ⟨rfl, hw9⟩; have hw9 := hw9.symm; subst hw9; clear c3)
                      | (at_builtin; refine Lib.wpList_append_run _ rfl _ _ _ _ rfl _ _ rfl rfl _ _ hrun ?_; clear hrun))
                    go_roundw
                    case rel => exact ⟨i + 1, HI.out, by first | rfl | (rw [HWi.out]; rfl), HG2.out⟩
                    case measure => first | exact meas_lt8 HI.out | (rw [HWi.out]; exact meas_lt8 HI.out)
                  · have F0 : (((f : Nat) : Int) == 0) = false := by simp [hf0]
                    have F0N : ¬ f = 0 := hf0
                    have hv := row_c8 (x := x) hik (by have := HX.out; omega) HX.out.2
                    obtain ⟨w', v', hrun, hG2⟩ := app_gw hG (is8 (x ^^^ i) 7) (is8_lt _ _) (by have := HN.out; omega)
                    have HG2 : Hid (Gw w3 w' v' (i + 1) (fun i => gen11 (f : Int) k x i)) := hG2.congr (fun y hy => by
                      by_cases e : y < i
                      · rw [if_pos e]
                      · rw [if_neg e, hv, show y = i by omega, show f = 1 by have := HN.out; omega])
                    generalize is8 (x ^^^ i) 7 = c0 at *
                    generalize x ^^^ i = y at *
                    clear hG hi hik i8 hv hf0 hG2
                    go_wp2_with (first
                      | (go_at_call 86; (with_reducible refine c1.mono ?_); rintro e w9 ⟨rfl, hw9⟩; have hw9 := hw9.symm; subst hw9; clear c1)
                      | (at_builtin; refine Lib.wpList_append_run _ rfl _ _ _ _ rfl _ _ rfl rfl _ _ hrun ?_; clear hrun))
                    go_roundw
                    case rel => exact ⟨i + 1, HI.out, by first | rfl | (rw [HWi.out]; rfl), HG2.out⟩
                    case measure => first | exact meas_lt8 HI.out | (rw [HWi.out]; exact meas_lt8 HI.out)
                · have ii : ¬ ((i : Nat) : Int) < (k : Int) := by omega
                  have hin : i = k := by omega
                  rw [hin] at hG
                  obtain ⟨g, c, v', w', rfl, hrun, hR2⟩ := HR.out.2.row HN.out.2.1 (by have := HR.out.1; have := HN.out; omega) hG (fun y hy => by rw [HX.out.1])
                  have HR2 : Hid (Rr8 w1 w' f k v' (j + 1)) := hR2
                  clear hG hi hik hin hR2
                  go_wp2_with (at_builtin; refine Lib.wpList_append_run _ rfl _ _ _ _ rfl _ _ rfl rfl _ _ hrun ?_; clear hrun)
                  go_roundw
                  case rel => exact ⟨j + 1, HR.out.1, by first | rfl | (rw [HWj.out]; rfl), HR2.out⟩
                  case measure => first | exact meas_lt8 HR.out.1 | (rw [HWj.out]; exact meas_lt8 HR.out.1)
        · have ij : ¬ ((j : Nat) : Int) < (m : Int) := by omega
          have hjm2 : j = m := by omega
          rw [hjm2] at hR
          obtain ⟨C, B, S, hG, hb, hS⟩ := hR
          have HF : Hid (Lb wr u11 m (fun _ => k) (fun r i => gen11 (f : Int) k (k + r) i) ∧ Below w.heap.size w wr) := ⟨hG.lb.congr (fun r hr i hi => hS r hr i hi), HU.out.1.trans (hb.mono HU.out.1.size)⟩
          clear hG hb hS hj hjm hjm2
          go_wp2
          go_ret
          exact ⟨_, rfl, HF.out⟩
end Go.Proofs.YtlblkckglelbdaaGreat
namespace Go.Proofs.YtlblkckglelbdaaGreat
open Go.RowKit Gf2
set_option linter.unusedVariables false

-- the top's own parity8
theorem lb_form8 {w : World} {v : Value} {n : Nat} {l : Nat → Nat} {S : Nat → Nat → Nat} (h : Lb w v n l S) : ∃ a c, v = .slice a n c := by
  obtain ⟨V, ⟨_, a, c, e, _⟩, _⟩ := h
  exact ⟨a, c, e⟩
theorem rb_at8 {W : World} {xa : Option Addr} {l xc i : Nat} {F : Nat → Nat} (h : Rb W (.slice xa l xc) l F) (hi : i < l) : ∃ b o, xa = some ⟨b, o, none⟩ ∧ W.cell? ⟨b, o + i, none⟩ = some (.int .u8 ((F i : Nat) : Int)) := by
  obtain ⟨-, -, a, c, e, -, -, h4⟩ := h
  cases e
  obtain ⟨b, o, rfl, -, hc⟩ := h4 (by omega)
  exact ⟨b, o, rfl, hc i hi⟩
theorem gen_lt8 {f k x i : Nat} (hf : f ≤ 1) (hi : i < k) (hx : k ≤ x ∧ x < 256) : gen11 (f : Int) k x i < 256 := by
  rcases (show f = 0 ∨ f = 1 by omega) with rfl | rfl
  · rw [← row_v8 hi hx.1 hx.2]; exact fm8_lt _ _
  · rw [← row_c8 hi hx.1 hx.2]; exact is8_lt _ _
/-- a list of lists, opened once for all later worlds. -/
theorem lb_all8 {w : World} {aS : Option Addr} {n cS : Nat} {l : Nat → Nat} {S : Nat → Nat → Nat} (h : Lb w (.slice aS n cS) n l S) : ∃ (xa : Nat → Option Addr) (xc : Nat → Nat), ∀ W, Below w.heap.size w W → (∀ x, x < n → ∃ b o, aS = some ⟨b, o, none⟩ ∧ W.cell? ⟨b, o + x, none⟩ = some (.slice (xa x) (l x) (xc x))) ∧ ∀ x, x < n → Rb W (.slice (xa x) (l x) (xc x)) (l x) (S x) := by
  obtain ⟨xa, xc, h1, h2⟩ := lb_open19 h
  refine ⟨xa, xc, fun W hW => ⟨fun x hx => ?_, fun x hx => (h2 x hx).below hW⟩⟩
  obtain ⟨b, o, e, q⟩ := h1 x hx
  exact ⟨b, o, e, (hW.cell (cell_lt5 q)).trans q⟩
set_option maxHeartbeats 8000000 in
set_option maxRecDepth 100000 in
theorem parity8_v (f k m T : Nat) (da : Option Addr) (dc : Nat) (D : Nat → Nat → Nat) (w : World) (hf : f ≤ 1) (h1 : 1 ≤ k) (h2 : k + m ≤ 256) (hT1 : 1 ≤ T) (hT : T ≤ 1048576) (hD : Lb w (.slice da k dc) k (fun _ => T) D) :
    Calls Tryz.prog 33 #[.int .i64 (f : Int), .int .i64 (k : Int), .int .i64 (m : Int), .slice da k dc] w fun e w' => ∃ v lo C B S, e = .returned v ∧ w.heap.size ≤ lo ∧ Gl8 lo w' v m (fun _ => T) C B S ∧ (∀ r, r < m → ∀ t, t < T → S r t = sm19f f k (k + r) (fun l => D l t) k) ∧ Below w.heap.size w w' := by
  have c1 := rows8_v f k m w hf h1 h2
  have HN : Hid (f ≤ 1 ∧ 1 ≤ k ∧ k + m ≤ 256 ∧ 1 ≤ T ∧ T ≤ 1048576) := ⟨hf, h1, h2, hT1, hT⟩
  obtain ⟨ya, yc, hy⟩ := lb_all8 hD
  have HD : Hid (∀ W, Below w.heap.size w W → (∀ x, x < k → ∃ b o, da = some ⟨b, o, none⟩ ∧ W.cell? ⟨b, o + x, none⟩ = some (.slice (ya x) T (yc x))) ∧ ∀ x, x < k → Rb W (.slice (ya x) T (yc x)) T (D x)) := hy
  clear hf h1 h2 hT1 hT hD hy
  go_enter Tryz.func33, Tryz.ntmps33
  go_wp2_with (go_at_call 62; (with_reducible refine c1.mono ?_); rintro e w1 ⟨v, rfl, hl, hb1⟩; obtain ⟨ra, rc, rfl⟩ := lb_form8 hl; obtain ⟨xa, xc, hx⟩ := lb_all8 hl; have HR : Hid (∀ W, Below w1.heap.size w1 W → (∀ x, x < m → ∃ b o, ra = some ⟨b, o, none⟩ ∧ W.cell? ⟨b, o + x, none⟩ = some (.slice (xa x) k (xc x))) ∧ ∀ x, x < m → Rb W (.slice (xa x) k (xc x)) k (fun i => gen11 (f : Int) k (k + x) i)) := hx; clear hx; have HB : Hid _ := hb1; clear c1 hl hb1)
  go_loopw [9, 22] (fun v s wr => ∃ (j : Nat) (C B : Nat → Nat) (S : Nat → Nat → Nat), j ≤ m ∧ s = .int .i64 (j : Int) ∧ Gl8 w1.heap.size wr v j (fun _ => T) C B S ∧ Below w1.heap.size w1 wr ∧ ∀ r, r < j → ∀ t, t < T → S r t = sm19f f k (k + r) (fun l => D l t) k) (fun _ s _ => m - (intOf s).toNat)
  case atStart => exact ⟨0, fun _ => 0, fun _ => 0, fun _ _ => 0, Nat.zero_le _, rfl, Gl8.start _ _ _ _ _ _, Below.refl _ _, fun r hr => absurd hr (Nat.not_lt_zero _)⟩
  case round =>
    obtain ⟨j, C, B, S, hj, rfl, hG, hb, hS⟩ := hrel
    by_cases hjm : j < m
    · have ij : ((j : Nat) : Int) < (m : Int) := Int.ofNat_lt.2 hjm
      have HWj : Hid (wrap64 ((j : Int) + 1) = (j : Int) + 1) := wrap_lt8 (j := j) (b := m) hjm (by have := HN.out; omega)
      obtain ⟨rb, ro, rfl, q1⟩ := (HR.out wr hb).1 j hjm
      have bw : Below w.heap.size w wr := HB.out.trans (hb.mono HB.out.size)
      obtain ⟨db, dO, rfl, q2⟩ := (HD.out wr bw).1 0 (by have := HN.out; omega)
      simp only [Nat.add_zero] at q2
      have k0 : (0 : Int) < (k : Int) := by have := HN.out; omega
      have k0N : 0 < k := by have := HN.out; omega
      have hmk := make_u8 T (by have := HN.out; omega)
      have r0 := made_rw T (by have := HN.out; omega) wr
      have bm : Below wr.heap.size wr (wr.alloc (.cells (madeCells #[.int .u8 0] T) 5)) := (Below.refl _ _).alloc (Nat.le_refl _) _
      obtain ⟨w2, hw2⟩ : ∃ w2, Hid (wr.alloc (.cells (madeCells #[.int .u8 0] T) 5) = w2) := ⟨_, rfl⟩
      obtain ⟨gs, hgs⟩ : ∃ gs, Hid (wr.heap.size = gs) := ⟨_, rfl⟩
      obtain ⟨w3, hw3⟩ : ∃ w3, Hid (wr = w3) := ⟨_, rfl⟩
      rw [hw2.out] at r0 bm
      rw [hgs.out] at r0
      rw [hw3.out] at bm hG hb
      have HG : Hid (j < m ∧ Gl8 w1.heap.size w3 u9 j (fun _ => T) C B S ∧ Below w1.heap.size w1 w3 ∧ (∀ r, r < j → ∀ t, t < T → S r t = sm19f f k (k + r) (fun l => D l t) k) ∧ w3.heap.size = gs) := ⟨hjm, hG, hb, hS, by rw [← hw3.out, hgs.out]⟩
      have H2 : Hid (Rw w2 gs T (fun t => sm19f f k (k + j) (fun l => D l t) 0) ∧ Below w3.heap.size w3 w2) := ⟨r0, bm⟩
      clear hG hb hS hj hjm bw r0 bm
      go_wp2
      rw [hw2.out, hgs.out]
      clear q1 q2 k0 k0N hmk hw2
      have HROW : Hid (∀ W, Below w3.heap.size w3 W → Rb W (.slice (xa j) k (xc j)) k (fun i => gen11 (f : Int) k (k + j) i) ∧ Below w.heap.size w W) := fun W hW => ⟨(HR.out W (HG.out.2.2.1.trans (hW.mono HG.out.2.2.1.size))).2 j HG.out.1, HB.out.trans ((HG.out.2.2.1.trans (hW.mono HG.out.2.2.1.size)).mono HB.out.size)⟩
      clear hw3 hgs
      go_loopw [33] (fun s wr => ∃ i : Nat, i ≤ k ∧ s = .int .i64 (i : Int) ∧ Rw wr gs T (fun t => sm19f f k (k + j) (fun l => D l t) i) ∧ Below w3.heap.size w3 wr) (fun s _ => k - (intOf s).toNat)
      case atStart => exact ⟨0, Nat.zero_le _, rfl, H2.out.1, H2.out.2⟩
      case round =>
        obtain ⟨i, hi, rfl, hr, hb⟩ := hrel
        clear H2
        by_cases hik : i < k
        · have ii : ((i : Nat) : Int) < (k : Int) := Int.ofNat_lt.2 hik
          have HWi : Hid (wrap64 ((i : Int) + 1) = (i : Int) + 1) := wrap_lt8 (j := i) (b := k) hik (by have := HN.out; omega)
          obtain ⟨hrow, bw⟩ := HROW.out wr hb
          obtain ⟨xb, xo, ex, q3'⟩ := rb_at8 hrow hik
          obtain ⟨db', do', e', q4⟩ := (HD.out wr bw).1 i hik
          cases e'
          have HI : Hid (i < k ∧ Below w3.heap.size w3 wr ∧ Rw wr gs T (fun t => sm19f f k (k + j) (fun l => D l t) i)) := ⟨hik, hb, hr⟩
          have hcv8 : gen11 (f : Int) k (k + j) i < 256 := gen_lt8 (by have := HN.out; omega) hik (by have := HG.out.1; have := HN.out; omega)
          obtain ⟨cv, hcv⟩ : ∃ cv, Hid (gen11 (f : Int) k (k + j) i = cv) := ⟨_, rfl⟩
          have q3 : wr.cell? ⟨xb, xo + i, none⟩ = some (.int .u8 ((gen11 (f : Int) k (k + j) i : Nat) : Int)) := q3'
          rw [hcv.out] at q3 hcv8
          have HC8 : Hid (cv < 256) := hcv8
          obtain ⟨w4, hw4⟩ : ∃ w4, Hid (wr = w4) := ⟨_, rfl⟩
          rw [hw4.out] at HI
          clear hr hb hi hik hrow bw q3' hcv8
          rw [ex]
          go_wp2
          clear q3 q4
          rw [hw4.out]
          clear hw4
          go_loopw [43] (fun s wr => ∃ t : Nat, t ≤ T ∧ s = .int .i64 (t : Int) ∧ Rw wr gs T (fun y => if y < t then sm19f f k (k + j) (fun l => D l y) (i + 1) else sm19f f k (k + j) (fun l => D l y) i) ∧ Below w3.heap.size w3 wr) (fun s _ => T - (intOf s).toNat)
          case atStart => exact ⟨0, Nat.zero_le _, rfl, HI.out.2.2.congr (fun y _ => (if_neg (Nat.not_lt_zero _)).symm), HI.out.2.1⟩
          case round =>
            obtain ⟨t, ht, rfl, hr, hb⟩ := hrel
            by_cases htT : t < T
            · have it : ((t : Nat) : Int) < (T : Int) := Int.ofNat_lt.2 htT
              have HWt : Hid (wrap64 ((t : Int) + 1) = (t : Int) + 1) := wrap_succ8 (j := t) (by have := HN.out; unfold big; omega)
              obtain ⟨-, bw⟩ := HROW.out wr hb
              have hdr := (HD.out wr bw).2 i HI.out.1
              have hd8 : D i t < 256 := hdr.2.1 t htT
              obtain ⟨vb, vo, ev, q5⟩ := rb_at8 hdr htT
              have q6 : wr.cell? ⟨gs, t, none⟩ = some (.int .u8 ((sm19f f k (k + j) (fun l => D l t) i : Nat) : Int)) := (hr.2.2.cell htT).trans (by dsimp only; rw [if_neg (Nat.lt_irrefl _)])
              have q7 := hr.2.2.frozen t
              have c2 := mul8_nat cv (D i t) wr.drew HC8.out hd8
              have s8 := sm19f_lt f k (k + j) (fun l => D l t) i
              have hst : sm19f f k (k + j) (fun l => D l t) (i + 1) = sm19f f k (k + j) (fun l => D l t) i ^^^ fm 285 cv (D i t) := by rw [← hcv.out]; rfl
              have XX := u8_xor_nat (sm19f f k (k + j) (fun l => D l t) i) (fm 285 cv (D i t)) s8 (fm8_lt _ _)
              rw [← hst] at XX
              have HX : Hid (t < T ∧ Rw (wr.drew.setCell ⟨gs, t, none⟩ (.int .u8 ((sm19f f k (k + j) (fun l => D l t) (i + 1) : Nat) : Int))) gs T (fun y => if y < t + 1 then sm19f f k (k + j) (fun l => D l y) (i + 1) else sm19f f k (k + j) (fun l => D l y) i) ∧ Below w3.heap.size w3 (wr.drew.setCell ⟨gs, t, none⟩ (.int .u8 ((sm19f f k (k + j) (fun l => D l t) (i + 1) : Nat) : Int)))) := by
                refine ⟨htT, ((show Rw wr.drew gs T _ from hr.drewN 1).set t (sm19f f k (k + j) (fun l => D l t) (i + 1)) (sm19f_lt _ _ _ _ _)).congr (fun y _ => ?_), (below_drewN hb 1).setCell (by rw [HG.out.2.2.2.2]; exact Nat.le_refl _) _⟩
                by_cases e : y = t
                · rw [if_pos e, if_pos (by omega), e]
                · rw [if_neg e]
                  by_cases e2 : y < t
                  · rw [if_pos e2, if_pos (by omega)]
                  · rw [if_neg e2, if_neg (by omega)]
              generalize sm19f f k (k + j) (fun l => D l t) (i + 1) = snew at *
              generalize sm19f f k (k + j) (fun l => D l t) i = sold at *
              generalize fm 285 cv (D i t) = pr9 at *
              generalize D i t = dv at *
              clear hr hb ht htT hdr hd8 s8 hst bw
              rw [ev]
              go_upto_region 12 with (fail)
              refine region_tail8 8 (by kernel_rfl) (by kernel_rfl) ?_
              simp only [List.take_succ_cons, List.take_zero, List.drop_succ_cons, List.drop_zero]
              repeat still_step
              still_call c2
              repeat still_step
              refine wpStill_nil ?_
              go_wp2
              go_roundw
              case rel => exact ⟨t + 1, HX.out.1, by first | rfl | (rw [HWt.out]; rfl), HX.out.2.1, HX.out.2.2⟩
              case measure => first | exact meas_lt8 HX.out.1 | (rw [HWt.out]; exact meas_lt8 HX.out.1)
            · have it : ¬ ((t : Nat) : Int) < (T : Int) := by omega
              have HX : Hid (Rw wr gs T (fun t => sm19f f k (k + j) (fun l => D l t) (i + 1)) ∧ Below w3.heap.size w3 wr) := ⟨hr.congr (fun y hy => if_pos (by omega)), hb⟩
              clear hr hb ht htT
              go_wp2
              go_roundw
              case rel => exact ⟨i + 1, HI.out.1, by first | rfl | (rw [HWi.out]; rfl), HX.out.1, HX.out.2⟩
              case measure => first | exact meas_lt8 HI.out.1 | (rw [HWi.out]; exact meas_lt8 HI.out.1)
        · have ii : ¬ ((i : Nat) : Int) < (k : Int) := by omega
          have hin : i = k := by omega
          rw [hin] at hr
          obtain ⟨hj9, hG, hbG, hS, hgs⟩ := HG.out
          have b13 : Below w1.heap.size w1 wr := hbG.trans (hb.mono hbG.size)
          obtain ⟨v', w', hrun, hG2, hb2⟩ := (hG.below hb).app (b := gs) (c := T) (l := T) (T := fun t => sm19f f k (k + j) (fun l => D l t) k) b13.size (by have := hbG.size; omega) hr (Nat.le_refl _) (fun r hr => by have := (hG.rows r hr).2.2.lt; omega) (fun e => by have := (World.ownsRow.lt hG.list gs e).2; omega) (by have := HN.out; omega)
          have HF : Hid (j < m ∧ Gl8 w1.heap.size w' v' (j + 1) (fun _ => T) (upn C j T) (upn B j gs) (upn S j (fun t => sm19f f k (k + j) (fun l => D l t) k)) ∧ Below w1.heap.size w1 w' ∧ ∀ r, r < j + 1 → ∀ t, t < T → upn S j (fun t => sm19f f k (k + j) (fun l => D l t) k) r t = sm19f f k (k + r) (fun l => D l t) k) := by
            refine ⟨hj9, ⟨hG2.list.congr (fun r hr => ?_), fun r hr => ?_, hG2.inj, hG2.ne⟩, b13.trans hb2, fun r hr t ht => ?_⟩
            · by_cases e : r = j
              · rw [e, upn_same, upn_same]
              · rw [upn_other _ _ e, upn_other _ _ e]
            · have h9 := hG2.rows r hr
              refine ⟨h9.1, ?_, h9.2.2⟩
              have h8 := h9.2.1
              by_cases e : r = j
              · rw [e] at h8 ⊢
                rwa [upn_same] at h8
              · rwa [upn_other _ _ e] at h8
            · by_cases e : r = j
              · rw [e, upn_same]
              · rw [upn_other _ _ e]; exact hS r (by omega) t ht
          clear hr hb hi hik hin hj9 hG hbG hS hgs b13 hG2 hb2
          go_wp2_with (at_builtin; refine Lib.wpList_append_run _ rfl _ _ _ _ rfl _ _ rfl rfl _ _ hrun ?_; clear hrun)
          go_roundw
          case rel => exact ⟨j + 1, _, _, _, HF.out.1, by first | rfl | (rw [HWj.out]; rfl), HF.out.2.1, HF.out.2.2.1, HF.out.2.2.2⟩
          case measure => first | exact meas_lt8 HF.out.1 | (rw [HWj.out]; exact meas_lt8 HF.out.1)
    · have ij : ¬ ((j : Nat) : Int) < (m : Int) := by omega
      have hjm2 : j = m := by omega
      rw [hjm2] at hG hS
      have HF : Hid (w.heap.size ≤ w1.heap.size ∧ Gl8 w1.heap.size wr u9 m (fun _ => T) C B S ∧ (∀ r, r < m → ∀ t, t < T → S r t = sm19f f k (k + r) (fun l => D l t) k) ∧ Below w.heap.size w wr) := ⟨HB.out.size, hG, hS, HB.out.trans (hb.mono HB.out.size)⟩
      clear hG hb hS hj hjm hjm2
      go_wp2
      go_ret
      exact ⟨_, rfl, w1.heap.size, HF.out.1, C, B, S, HF.out.2.1, HF.out.2.2.1, HF.out.2.2.2⟩
end Go.Proofs.YtlblkckglelbdaaGreat
namespace Go.Proofs.YtlblkckglelbdaaGreat
open Go.RowKit Gf2
set_option linter.unusedVariables false

-- the top's own ints, valid, right
set_option maxHeartbeats 2000000 in
set_option maxRecDepth 100000 in
theorem ints_t (aU : Option Addr) (cU : Nat) (aV : Option Addr) (cV m : Nat) (S T : Nat → Int) (w : World) (h : Qi w (.slice aU m cU) m S) (k : Qi w (.slice aV m cV) m T) (e : ∀ i, i < m → S i = T i) :
    Calls Tryz.prog 6 #[.slice aU m cU, .slice aV m cV] w fun e w' => e = .returned (.bool true) ∧ ∃ q, w' = w.drewN q := by
  have HC : Hid (m ≤ big ∧ ∀ i, i < m → ∃ b o b' o', aU = some ⟨b, o, none⟩ ∧ aV = some ⟨b', o', none⟩ ∧ ∀ q, (w.drewN q).cell? ⟨b, o + i, none⟩ = some (.int .i64 (S i)) ∧ (w.drewN q).cell? ⟨b', o' + i, none⟩ = some (.int .i64 (S i))) := by
    obtain ⟨h0, -, a, c, e1, -, -, h4⟩ := h
    obtain ⟨-, -, a', c', e2, -, -, k4⟩ := k
    cases e1
    cases e2
    refine ⟨h0, fun i hi => ?_⟩
    obtain ⟨b, o, rfl, -, hc⟩ := h4 (by omega)
    obtain ⟨b', o', rfl, -, kc⟩ := k4 (by omega)
    exact ⟨b, o, b', o', rfl, rfl, fun q => ⟨hc i hi, by rw [e i hi]; exact kc i hi⟩⟩
  clear h k e
  go_enter Tryz.func6, Tryz.ntmps6
  go_wp2
  go_loopw [13] (fun i wr => ∃ r q : Nat, r ≤ m ∧ i = .int .i64 r ∧ Hid (wr = w.drewN q)) (fun i _ => m - (intOf i).toNat)
  case atStart => exact ⟨0, 0, Nat.zero_le _, rfl, rfl⟩
  case round =>
    obtain ⟨r, q, hr, rfl, hw⟩ := hrel
    by_cases hlt : r < m
    · obtain ⟨b, o, b', o', rfl, rfl, hc⟩ := HC.out.2 r hlt
      obtain ⟨q1, q2⟩ := hc q
      rw [← hw.out] at q1 q2
      have ib : ((r : Nat) : Int) < (m : Int) := Int.ofNat_lt.2 hlt
      have W1 := wrap_succ8 (j := r) (Nat.lt_of_lt_of_le hlt HC.out.1)
      have HX : Hid (r < m) := hlt
      generalize S r = s at q1 q2
      clear hc HC hlt hr
      go_wp2
      go_quiet (fail)
      go_wp2
      go_roundw
      case rel => exact ⟨r + 1, q + nq, HX.out, by first | rfl | (rw [W1]; rfl), by show _ = _; rw [hw.out, World.drewN_drewN]⟩
      case measure => first | exact meas_lt8 HX.out | (rw [W1]; exact meas_lt8 HX.out)
    · have hkm : r = m := by omega
      subst hkm
      have HQ : Hid (∃ q, wr = w.drewN q) := ⟨q, hw.out⟩
      clear hw HC hlt hr
      go_wp2
      go_ret
      exact ⟨rfl, HQ.out⟩
theorem valid_no_t (f k m : Int) (w : World) (hf2 : f ≠ 2) (h : ¬ ((f = 0 ∨ f = 1) ∧ 1 ≤ k ∧ 1 ≤ m ∧ k ≤ 256 ∧ m ≤ 256 ∧ k + m ≤ 256)) :
    Calls Tryz.prog 8 #[.int .i64 f, .int .i64 k, .int .i64 m] w fun e w' => e = .returned (.bool false) ∧ w' = w := by
  by_cases a1 : k < 1
  · have d1 : decide (k < 1) = true := decide_eq_true a1
    clear h hf2
    go_enter Tryz.func8, Tryz.ntmps8
    go_wp2
    go_ret
    exact ⟨rfl, rfl⟩
  have d1 : decide (k < 1) = false := decide_eq_false a1
  by_cases a2 : m < 1
  · have d2 : decide (m < 1) = true := decide_eq_true a2
    clear h hf2
    go_enter Tryz.func8, Tryz.ntmps8
    go_wp2
    go_ret
    exact ⟨rfl, rfl⟩
  have d2 : decide (m < 1) = false := decide_eq_false a2
  have e2 : (f == 2) = false := by simpa using hf2
  by_cases h0 : f = 0 ∨ f = 1
  case neg =>
    have e0 : (f == 0) = false := by simpa using fun e => h0 (.inl e)
    have e1 : (f == 1) = false := by simpa using fun e => h0 (.inr e)
    clear h h0
    go_enter Tryz.func8, Tryz.ntmps8
    go_wp2
    go_ret
    exact ⟨rfl, rfl⟩
  by_cases a3 : k ≤ 256
  case neg =>
    have d3 : decide (k ≤ 256) = false := decide_eq_false a3
    clear h e2
    rcases h0 with rfl | rfl
    · go_enter Tryz.func8, Tryz.ntmps8
      go_wp2
      go_ret
      exact ⟨rfl, rfl⟩
    · go_enter Tryz.func8, Tryz.ntmps8
      go_wp2
      go_ret
      exact ⟨rfl, rfl⟩
  have d3 : decide (k ≤ 256) = true := decide_eq_true a3
  by_cases a4 : m ≤ 256
  case neg =>
    have d4 : decide (m ≤ 256) = false := decide_eq_false a4
    clear h e2
    rcases h0 with rfl | rfl
    · go_enter Tryz.func8, Tryz.ntmps8
      go_wp2
      go_ret
      exact ⟨rfl, rfl⟩
    · go_enter Tryz.func8, Tryz.ntmps8
      go_wp2
      go_ret
      exact ⟨rfl, rfl⟩
  have d4 : decide (m ≤ 256) = true := decide_eq_true a4
  have a5 : ¬ k + m ≤ 256 := fun e => h ⟨h0, by omega, by omega, a3, a4, e⟩
  have W0 : wrap64 (k + m) = k + m := by unfold wrap64; omega
  have d5 : decide (k + m ≤ 256) = false := decide_eq_false a5
  clear h e2
  rcases h0 with rfl | rfl
  · go_enter Tryz.func8, Tryz.ntmps8
    go_wp2
    go_ret
    exact ⟨rfl, rfl⟩
  · go_enter Tryz.func8, Tryz.ntmps8
    go_wp2
    go_ret
    exact ⟨rfl, rfl⟩
theorem valid_yes_t (f k m : Nat) (w : World) (hf : f ≤ 1) (h1 : 1 ≤ k) (h2 : 1 ≤ m) (h3 : k + m ≤ 256) :
    Calls Tryz.prog 8 #[.int .i64 (f : Int), .int .i64 (k : Int), .int .i64 (m : Int)] w fun e w' => e = .returned (.bool true) ∧ w' = w := by
  have a1 : ¬ (k : Int) < 1 := by omega
  have d1 : decide ((k : Int) < 1) = false := decide_eq_false a1
  have a2 : ¬ (m : Int) < 1 := by omega
  have d2 : decide ((m : Int) < 1) = false := decide_eq_false a2
  have a3 : (k : Int) ≤ 256 := by omega
  have d3 : decide ((k : Int) ≤ 256) = true := decide_eq_true a3
  have a4 : (m : Int) ≤ 256 := by omega
  have d4 : decide ((m : Int) ≤ 256) = true := decide_eq_true a4
  have W0 : wrap64 ((k : Int) + (m : Int)) = (k : Int) + (m : Int) := by unfold wrap64; omega
  have a5 : (k : Int) + (m : Int) ≤ 256 := by omega
  have d5 : decide ((k : Int) + (m : Int) ≤ 256) = true := decide_eq_true a5
  rcases (show f = 0 ∨ f = 1 by omega) with rfl | rfl
  · go_enter Tryz.func8, Tryz.ntmps8
    go_wp2
    go_ret
    exact ⟨rfl, rfl⟩
  · go_enter Tryz.func8, Tryz.ntmps8
    go_wp2
    go_ret
    exact ⟨rfl, rfl⟩
set_option maxHeartbeats 2000000 in
set_option maxRecDepth 100000 in
theorem right_yes_t (f k T : Nat) (da : Option Addr) (dc : Nat) (D : Nat → Nat → Nat) (w : World) (hf : f ≤ 1) (h1 : 1 ≤ k) (h2 : k ≤ 256) (hT : 1 ≤ T) (hD : Lb w (.slice da k dc) k (fun _ => T) D) :
    Calls Tryz.prog 9 #[.int .i64 (f : Int), .int .i64 (k : Int), .slice da k dc] w fun e w' => e = .returned (.bool true) ∧ w' = w := by
  obtain ⟨ya, yc, hy⟩ := lb_all8 hD
  have HD : Hid (∀ x, x < k → ∃ b o, da = some ⟨b, o, none⟩ ∧ w.cell? ⟨b, o + x, none⟩ = some (.slice (ya x) T (yc x))) := (hy w (Below.refl _ _)).1
  obtain ⟨b, o, rfl, q0⟩ := HD.out 0 (by omega)
  simp only [Nat.add_zero] at q0
  have HN : Hid (1 ≤ k ∧ k ≤ 256) := ⟨h1, h2⟩
  have k0 : (0 : Int) < (k : Int) := by omega
  have k0N : 0 < k := by omega
  have d1 : decide ((k : Int) < 1) = false := decide_eq_false (by omega)
  have d2 : decide ((T : Int) < 1) = false := decide_eq_false (by omega)
  have e2 : ((f : Int) == 2) = false := by simp; omega
  clear hD hy hf h1 h2 hT
  go_enter Tryz.func9, Tryz.ntmps9
  go_wp2
  clear d1 d2 e2
  go_loopw [38] (fun i wr => ∃ r : Nat, r ≤ k ∧ i = .int .i64 r ∧ wr = w) (fun i _ => k - (intOf i).toNat)
  case atStart => exact ⟨0, Nat.zero_le _, rfl, rfl⟩
  case round =>
    obtain ⟨r, hr, rfl, rfl⟩ := hrel
    by_cases hlt : r < k
    · obtain ⟨b', o', e, q1⟩ := HD.out r hlt
      cases e
      have ib : ((r : Nat) : Int) < (k : Int) := Int.ofNat_lt.2 hlt
      have W1 := wrap_lt8 hlt (by have := HN.out; omega)
      have HX : Hid (r < k) := hlt
      clear hlt hr
      go_wp2
      go_roundw
      case rel => exact ⟨r + 1, HX.out, by first | rfl | (rw [W1]; rfl), by first | rfl | trivial⟩
      case measure => first | exact meas_lt8 HX.out | (rw [W1]; exact meas_lt8 HX.out)
    · have ib : ¬ ((r : Nat) : Int) < (k : Int) := by omega
      clear hlt hr
      go_wp2
      go_ret
      exact ⟨rfl, rfl⟩
set_option maxHeartbeats 2000000 in
set_option maxRecDepth 100000 in
theorem right_no_t (f k : Nat) (n : Nat → Nat) (da : Option Addr) (dc : Nat) (D : Nat → Nat → Nat) (w : World) (hf : f ≤ 1) (h1 : 1 ≤ k) (h2 : k ≤ 256) (hD : Lb w (.slice da k dc) k n D) (hn : ¬ (1 ≤ n 0 ∧ ∀ i, i < k → n i = n 0)) :
    Calls Tryz.prog 9 #[.int .i64 (f : Int), .int .i64 (k : Int), .slice da k dc] w fun e w' => e = .returned (.bool false) ∧ w' = w := by
  obtain ⟨ya, yc, hy⟩ := lb_all8 hD
  have HD : Hid (∀ x, x < k → ∃ b o, da = some ⟨b, o, none⟩ ∧ w.cell? ⟨b, o + x, none⟩ = some (.slice (ya x) (n x) (yc x))) := (hy w (Below.refl _ _)).1
  obtain ⟨b, o, rfl, q0⟩ := HD.out 0 (by omega)
  simp only [Nat.add_zero] at q0
  have k0 : (0 : Int) < (k : Int) := by omega
  have k0N : 0 < k := by omega
  have d1 : decide ((k : Int) < 1) = false := decide_eq_false (by omega)
  have e2 : ((f : Int) == 2) = false := by simp; omega
  clear hD hy hf
  by_cases hz : 1 ≤ n 0
  case neg =>
    have n0 : n 0 = 0 := by omega
    rw [n0] at q0
    have d2 : decide (((0 : Nat) : Int) < 1) = true := by decide
    clear hn hz n0 HD h1 h2
    go_enter Tryz.func9, Tryz.ntmps9
    go_wp2
    go_ret
    exact ⟨rfl, rfl⟩
  have d2 : decide (((n 0 : Nat) : Int) < 1) = false := decide_eq_false (by omega)
  have HN : Hid (1 ≤ k ∧ k ≤ 256 ∧ ¬ ∀ i, i < k → n i = n 0) := ⟨h1, h2, fun e => hn ⟨hz, e⟩⟩
  obtain ⟨n0, hn0⟩ : ∃ n0, Hid (n 0 = n0) := ⟨_, rfl⟩
  rw [hn0.out] at q0 d2 HN
  clear hn hz h1 h2
  go_enter Tryz.func9, Tryz.ntmps9
  go_wp2
  clear d1 d2 e2
  go_loopw [38] (fun i wr => ∃ r : Nat, r ≤ k ∧ i = .int .i64 r ∧ (∀ j, j < r → n j = n0) ∧ wr = w) (fun i _ => k - (intOf i).toNat)
  case atStart => exact ⟨0, Nat.zero_le _, rfl, fun j h => absurd h (Nat.not_lt_zero _), rfl⟩
  case round =>
    obtain ⟨r, hr, rfl, hall, rfl⟩ := hrel
    by_cases hlt : r < k
    · obtain ⟨b', o', e, q1⟩ := HD.out r hlt
      cases e
      have ib : ((r : Nat) : Int) < (k : Int) := Int.ofNat_lt.2 hlt
      have W1 := wrap_lt8 hlt (by have := HN.out; omega)
      have HX : Hid (r < k ∧ ∀ j, j < r → n j = n0) := ⟨hlt, hall⟩
      by_cases e9 : n r = n0
      · rw [e9] at q1
        have HY : Hid (n r = n0) := e9
        clear hlt hr hall e9
        go_wp2
        go_roundw
        case rel => exact ⟨r + 1, HX.out.1, by first | rfl | (rw [W1]; rfl), fun j hj => by
          by_cases e : j = r
          · rw [e]; exact HY.out
          · exact HX.out.2 j (by omega), by first | rfl | trivial⟩
        case measure => first | exact meas_lt8 HX.out.1 | (rw [W1]; exact meas_lt8 HX.out.1)
      · have hne : (((n r : Nat) : Int) != ((n0 : Nat) : Int)) = true := by simp; omega
        generalize n r = nr at q1 hne e9
        clear hlt hr hall
        go_wp2
        go_ret
        exact ⟨rfl, rfl⟩
    · exfalso
      exact HN.out.2.2 (fun i hi => hall i (by omega))
end Go.Proofs.YtlblkckglelbdaaGreat
