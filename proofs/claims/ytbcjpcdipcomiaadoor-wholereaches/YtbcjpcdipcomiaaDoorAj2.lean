import Derived.Test.YtbcjpcdipcomiaaDoorAj1
import Derived.Test.YtbcjpcdipcomiaaDoorLta
import Derived.Test.YtbcjpcdipcomiaaDoorEsj
import Derived.Test.YtbcjpcdipcomiaaDoorEsk
namespace Go.Proofs.YtbcjpcdipcomiaaDoor
open Go.RowKit Gf2
set_option linter.unusedVariables false

-- layer 14: words added to words
theorem sr_at {w wr : World} {g N o n h p t i : Nat} {F S T : Nat → Nat} (hR : R6 w g N F) (hs : ∀ i, i < n → w.cell? ⟨h, p + i, none⟩ = some (.int .u16 (S i : Nat)))
    (hd : h ≠ g ∨ (p + n ≤ N ∧ (p + n ≤ o ∨ o + n ≤ p))) (hO : Only g w wr) (hr : R6 wr g N (pl F o t T)) (ht : t ≤ n) (hi : i < n) : wr.cell? ⟨h, p + i, none⟩ = some (.int .u16 (S i : Nat)) := by
  by_cases e : h = g
  · subst e
    obtain ⟨h1, h2⟩ := hd.resolve_left (fun h => h rfl)
    rw [hr.2.2.cell (i := p + i) (by omega), pl_out (by omega), ← hR.2.2.cell (i := p + i) (by omega)]
    exact hs i hi
  · rw [← hs i hi]
    unfold World.cell?
    rw [hO.2.2 h e]
theorem pl_next {F S : Nat → Nat} {o t : Nat} : (fun i => if i = o + t then S t else pl F o t S i) = pl F o (t + 1) S := by
  funext i
  unfold pl
  by_cases e : i = o + t
  · rw [if_pos e, if_pos (by omega), e, Nat.add_sub_cancel_left]
  · by_cases e2 : o ≤ i ∧ i < o + t
    · rw [if_neg e, if_pos e2, if_pos (by omega)]
    · rw [if_neg e, if_neg e2, if_neg (by omega)]
theorem pl_none {F S : Nat → Nat} {o : Nat} : pl F o 0 S = F := by
  funext i
  exact pl_out (by omega)
set_option maxHeartbeats 4000000 in
set_option maxRecDepth 100000 in
theorem add14 (a a' : Option Addr) (g N o n cd h p cs : Nat) (F S : Nat → Nat) (w : World) (hR : R6 w g N F) (ho : o + n ≤ N) (hn : n ≤ 140737488355328) (ha : 0 < n → a = some ⟨g, o, none⟩) (ha' : 0 < n → a' = some ⟨h, p, none⟩)
    (hS : ∀ i, i < n → S i < 65536) (hs : ∀ i, i < n → w.cell? ⟨h, p + i, none⟩ = some (.int .u16 (S i : Nat))) (hd : h ≠ g ∨ (p + n ≤ N ∧ (p + n ≤ o ∨ o + n ≤ p))) :
    Calls Tryd.prog 22 #[.slice a n cd, .slice a' n cs] w fun e w' => e = .returned (.tuple #[]) ∧ R6 w' g N (pl F o n (fun i => F (o + i) ^^^ S i)) ∧ Only g w w' := by
  have HN : Hid (R6 w g N F ∧ o + n ≤ N ∧ (∀ i, i < n → S i < 65536) ∧ (∀ i, i < n → w.cell? ⟨h, p + i, none⟩ = some (.int .u16 (S i : Nat))) ∧ (h ≠ g ∨ (p + n ≤ N ∧ (p + n ≤ o ∨ o + n ≤ p)))) := ⟨hR, ho, hS, hs, hd⟩
  clear hR ho hS hs hd
  go_enter Tryd.func22, Tryd.ntmps22
  go_wp2
  go_loopw [8] (fun tv wr => ∃ t : Nat, t ≤ n ∧ tv = .int .i64 t ∧ R6 wr g N (pl F o t (fun i => F (o + i) ^^^ S i)) ∧ Only g w wr) (fun tv _ => n - (intOf tv).toNat)
  case atStart => exact ⟨0, Nat.zero_le _, rfl, by rw [pl_none]; exact HN.out.1, Only.refl _ _⟩
  case round =>
    obtain ⟨t, ht, rfl, hr, hb⟩ := hrel
    by_cases hlt : t < n
    · obtain rfl := ha (by omega)
      obtain rfl := ha' (by omega)
      obtain ⟨n1, n2, n3, n4, n5⟩ := HN.out
      have tb : ((t : Nat) : Int) < (n : Int) := by omega
      have W1 := wrap_succ8 (j := t) (by unfold big; omega)
      have q1 := sr_at n1 n4 n5 hb hr ht hlt
      have q2 := hr.2.2.cell (i := o + t) (by omega)
      have q3 := hr.2.2.frozen (o + t)
      rw [pl_out (by omega)] at q2
      have l1 := n1.2.1 (o + t) (by omega)
      have l2 := n3 t hlt
      have X := u16_xor_nat (F (o + t)) (S t) l1 l2
      have lx := Nat.xor_lt_two_pow (n := 16) l1 l2
      have HV : Hid (R6 (wr.setCell ⟨g, o + t, none⟩ (.int .u16 ((F (o + t) ^^^ S t : Nat) : Int))) g N (pl F o (t + 1) (fun i => F (o + i) ^^^ S i)) ∧ Only g w (wr.setCell ⟨g, o + t, none⟩ (.int .u16 ((F (o + t) ^^^ S t : Nat) : Int)))) :=
        ⟨(hr.set _ _ lx).congr (fun i hi => congrFun (pl_next (F := F) (S := fun i => F (o + i) ^^^ S i) (o := o) (t := t)) i), hb.setCell _ _⟩
      obtain ⟨D, hD⟩ : ∃ D, D = F (o + t) := ⟨_, rfl⟩
      obtain ⟨G, hG⟩ : ∃ G, G = S t := ⟨_, rfl⟩
      rw [← hD, ← hG] at X HV
      rw [← hD] at q2
      rw [← hG] at q1
      clear hr hb n1 n2 n3 n4 n5 l1 l2 lx hD hG ha ha'
      go_wp2
      go_roundw
      case rel => exact ⟨t + 1, hlt, by first | rfl | (rw [W1]; rfl), HV.out.1, HV.out.2⟩
      case measure => first | exact meas_lt8 hlt | (rw [W1]; exact meas_lt8 hlt)
    · have hti : t = n := by omega
      subst hti
      have HV : Hid (R6 wr g N (pl F o t (fun i => F (o + i) ^^^ S i)) ∧ Only g w wr) := ⟨hr, hb⟩
      clear hr hb
      go_wp2
      ((try simp only [Exit.inBlock, Exit.then]); first | (refine bodyPost_ret (results_none rfl _ _ _) rfl ?_) | (refine bodyPost_end (results_none rfl _ _ _) rfl ?_))
      exact ⟨rfl, HV.out⟩
end Go.Proofs.YtbcjpcdipcomiaaDoor
namespace Go.Proofs.YtbcjpcdipcomiaaDoor
open Go.RowKit Gf2
set_option linter.unusedVariables false

-- layer 14: a factor and its lists
/-- the lists of c in block T, filled up to place m. -/
def Lt14 (w : World) (T c m : Nat) : Prop := w.rowIs T 62 64 (fun x => .int .u16 (tgm c m x : Nat))
theorem Lt14.next {w : World} {T c m : Nat} (h : Lt14 w T c m) : Lt14 (w.setCell ⟨T, m, none⟩ (.int .u16 (tg c m : Nat))) T c (m + 1) := by
  refine (h.set m _).congr (fun i hi => ?_)
  unfold tgm
  by_cases e : i = m
  · rw [if_pos e, if_pos (by omega), e]
  · rw [if_neg e]
    by_cases e2 : i < m
    · rw [if_pos e2, if_pos (by omega)]
    · rw [if_neg e2, if_neg (by omega)]
theorem Lt14.start {w : World} {T c q : Nat} (h : Lt14 w T c (q * 16)) : Lt14 w T c (q * 16 + 1) := by
  refine h.congr (fun i hi => ?_)
  unfold tgm
  by_cases e : i < q * 16
  · rw [if_pos e, if_pos (by omega)]
  · rw [if_neg e]
    by_cases e2 : i < q * 16 + 1
    · rw [if_pos e2, show i = 16 * q by omega, tg_start]
    · rw [if_neg e2]
theorem hb_sum : ∀ q, q < 4 → ∀ b, b < 4 → ∀ n, n < 2 ^ b → hb (q * 16 + (2 ^ b + n)) = hb (q * 16 + n) ^^^ 2 ^ b * 16 ^ q := by decide +kernel
theorem tg_sum (c : Nat) {q b n : Nat} (hq : q < 4) (hb' : b < 4) (hn : n < 2 ^ b) : tg c (q * 16 + (2 ^ b + n)) = tg c (q * 16 + n) ^^^ fm 65581 c (2 ^ b * 16 ^ q) := by
  unfold tg
  rw [hb_sum q hq b hb' n hn, fld16.fm_xor]
theorem bit_shl : ∀ q, q < 4 → ∀ b, b < 4 → IntKind.u16.wrap (((2 ^ b : Nat) : Int) * 2 ^ (4 * q)) = ((2 ^ b * 16 ^ q : Nat) : Int) ∧ 2 ^ b * 16 ^ q < 65536 ∧ 2 ^ b < 16 := by decide +kernel
theorem Only.lt14 {g T c m : Nat} {a b : World} (h : Lt14 a T c m) (ho : Only g a b) (hne : T ≠ g) : Lt14 b T c m := h.of_block (ho.2.2 T hne)
theorem Lt14.below {T c m : Nat} {a b : World} (h : Lt14 a T c m) (hb : Below a.heap.size a b) : Lt14 b T c m := h.of_block (hb.block T h.lt)
theorem Lt14.kp {g T c m : Nat} {a b : World} (h : Lt14 a T c m) (hk : Kp g a b) (hne : T ≠ g) : Lt14 b T c m := h.of_block (hk.2 T h.lt hne)
theorem dbl14 (n : Nat) : ((n : Int) * 2) = ((2 * n : Nat) : Int) := by omega
theorem two_mul14 {q n : Nat} : q * 16 + 2 * n = q * 16 + n + n := by omega
theorem meas14 {n : Nat} (h : n < 16) (h0 : 0 < n) : 16 - (intOf (Value.int .i64 ((2 * n : Nat) : Int))).toNat < 16 - (intOf (Value.int .i64 (n : Int))).toNat := by
  simp only [intOf]; omega
theorem prod_nums {q B n M b : Nat} (hq : q < 4) (hB : B = 2 ^ b) (hb : b < 4) (hn : n < B) (hM : M = B + n) : q * 16 + n < 64 ∧ q * 16 + M < 64 ∧ q * 16 + n < q * 16 + B + n ∧ ((M : Nat) : Int) < 16 ∧ ((n : Nat) : Int) < 16 ∧
    ((n : Nat) : Int) < (B : Int) ∧ wrap64 ((B : Int) + (n : Int)) = (M : Int) ∧ q * 16 + B + n = q * 16 + M ∧ q * 16 + B + (n + 1) = q * 16 + M + 1 ∧ wrap64 ((n : Int) + 1) = (n : Int) + 1 := by
  have : 2 ^ b ≤ 8 := Nat.pow_le_pow_right (n := 2) (by decide) (show b ≤ 3 by omega)
  refine ⟨by omega, by omega, by omega, by omega, by omega, by omega, ?_, by omega, by omega, ?_⟩
  · unfold wrap64; omega
  · unfold wrap64; omega
set_option maxHeartbeats 4000000 in
set_option maxRecDepth 100000 in
theorem products14 (c : Nat) (w : World) (hc : c < 65536) : Calls Tryd.prog 27 #[.int .u16 (c : Nat)] w fun e w' => e = .returned (.pointer (some ⟨w.heap.size, 0, none⟩)) ∧ Lt14 w' w.heap.size c 64 ∧ Below w.heap.size w w' := by
  obtain ⟨T, hT⟩ : ∃ T, T = w.heap.size := ⟨_, rfl⟩
  go_enter Tryd.func27, Tryd.ntmps27
  go_wp2
  rw [← hT]
  replace hT : Hid (T = w.heap.size) := hT
  go_loopw [10] (fun tv wr => ∃ q : Nat, q ≤ 4 ∧ tv = .int .i64 q ∧ Lt14 wr T c (q * 16) ∧ Below w.heap.size w wr) (fun tv _ => 4 - (intOf tv).toNat)
  case atStart =>
    refine ⟨0, Nat.zero_le _, rfl, ⟨_, by rw [hT.out]; exact heap_alloc_new _ _, rfl, fun i hi => ?_⟩, below_alloc _ _⟩
    show (Array.replicate 64 (Value.int .u16 0))[i]? = _
    rw [Array.getElem?_replicate, if_pos hi]
    rfl
  case round =>
    obtain ⟨q, hq, rfl, hr, hb⟩ := hrel
    by_cases hlt : q < 4
    · have tb : ((q : Nat) : Int) < 4 := by omega
      have HS : Hid (Lt14 wr T c (q * 16 + 1) ∧ Below w.heap.size w wr) := ⟨hr.start, hb⟩
      have W0 := wrap_succ8 (j := q) (by unfold big; omega)
      clear hr hb
      go_wp2
      go_loopw [6] (fun bv wq => ∃ b B : Nat, Hid (b ≤ 4 ∧ B = 2 ^ b) ∧ bv = .int .i64 B ∧ Lt14 wq T c (q * 16 + B) ∧ Below w.heap.size w wq) (fun bv _ => 16 - (intOf bv).toNat)
      case atStart => exact ⟨0, 1, ⟨by decide, rfl⟩, rfl, HS.out⟩
      case round =>
        rename_i hrel
        obtain ⟨b, B, hbB, rfl, hr2, hb2⟩ := hrel
        by_cases hlb : B < 16
        · have tb2 : ((B : Nat) : Int) < 16 := by omega
          have hb4 : b < 4 := by
            rcases Nat.lt_or_ge b 4 with h | h
            · exact h
            · exfalso
              rw [hbB.out.2, show b = 4 by have := hbB.out.1; omega] at hlb
              omega
          obtain ⟨s1, s2, -⟩ := bit_shl q hlt b hb4
          rw [← hbB.out.2] at s1 s2
          have c1 := hmul_nat c (B * 16 ^ q) wr hc s2
          have HM : Hid (Lt14 wr T c (q * 16 + B) ∧ Below w.heap.size w wr ∧ B = 2 ^ b ∧ b < 4) := ⟨hr2, hb2, hbB.out.2, hb4⟩
          have W2 : wrap64 ((B : Int) * 2) = ((2 * B : Nat) : Int) := by unfold wrap64; omega
          obtain ⟨Y, hY⟩ : ∃ Y, Y = fm 65581 c (B * 16 ^ q) := ⟨_, rfl⟩
          have hYl : Y < 65536 := by rw [hY]; exact fld16.fm_lt _ _
          rw [← hY] at c1
          obtain ⟨P, hP⟩ : ∃ P, P = B * 16 ^ q := ⟨_, rfl⟩
          rw [← hP] at c1 s1
          replace hP : Hid (P = B * 16 ^ q) := hP
          replace hY : Hid (Y = fm 65581 c (B * 16 ^ q)) := hY
          clear hr2 hb2 hbB hb4 s2
          go_wp2_with (go_at_call 28; (with_reducible refine c1.mono ?_); rintro e w9 ⟨rfl, rfl⟩; clear c1)
          go_loopw [29] (fun nv wz => ∃ n : Nat, n ≤ B ∧ nv = .int .i64 n ∧ Lt14 wz T c (q * 16 + B + n) ∧ Below w.heap.size w wz) (fun nv _ => B - (intOf nv).toNat)
          case atStart => exact ⟨0, Nat.zero_le _, rfl, HM.out.1, HM.out.2.1⟩
          case round =>
            rename_i hrel
            obtain ⟨n, hn, rfl, hr3, hb3⟩ := hrel
            by_cases hln : n < B
            · obtain ⟨M, hM⟩ : ∃ M, M = B + n := ⟨_, rfl⟩
              obtain ⟨m1, m2, m3, tb5, tb4, tb3, W4, m4, m5, W3⟩ := prod_nums hlt HM.out.2.2.1 HM.out.2.2.2 hln hM
              have W5 := wrap_k W4
              have q1 := hr3.cell (i := q * 16 + n) m1
              have q2 := hr3.cell (i := q * 16 + M) m2
              have q3 := hr3.frozen (q * 16 + M)
              have e1 : tgm c (q * 16 + B + n) (q * 16 + n) = tg c (q * 16 + n) := by unfold tgm; rw [if_pos m3]
              rw [e1] at q1
              have X := u16_xor_nat (tg c (q * 16 + n)) Y (tg_lt _ _) hYl
              have e2 : tg c (q * 16 + M) = tg c (q * 16 + n) ^^^ Y := by
                rw [hM, hY.out, HM.out.2.2.1]
                exact tg_sum c hlt HM.out.2.2.2 (by rw [← HM.out.2.2.1]; exact hln)
              have HV : Hid (Lt14 (wr.setCell ⟨T, q * 16 + M, none⟩ (.int .u16 ((tg c (q * 16 + n) ^^^ Y : Nat) : Int))) T c (q * 16 + B + (n + 1)) ∧ Below w.heap.size w (wr.setCell ⟨T, q * 16 + M, none⟩ (.int .u16 ((tg c (q * 16 + n) ^^^ Y : Nat) : Int)))) := by
                rw [← e2]
                rw [m4] at hr3
                have h2 := hr3.next
                rw [m5]
                exact ⟨h2, hb3.setCell (by rw [hT.out]; exact Nat.le_refl _) _⟩
              obtain ⟨V, hV⟩ : ∃ V, V = tg c (q * 16 + n) := ⟨_, rfl⟩
              rw [← hV] at X HV q1
              clear hr3 hb3 hV e1 e2 hM m1 m2 m3 m4 m5 s1 W0 W2
              go_wp2
              refine region_tail13 13 (by kernel_rfl) (by kernel_rfl) ?_
              simp only [List.take_succ_cons, List.take_zero, List.drop_succ_cons, List.drop_zero]
              repeat still_step
              refine wpStill_nil ?_
              go_wp2
              go_roundw
              case rel => exact ⟨n + 1, hln, by first | rfl | (rw [W3]; rfl), HV.out.1.drew, HV.out.2.drew⟩
              case measure => first | exact meas_lt8 hln | (rw [W3]; exact meas_lt8 hln)
            · obtain rfl : n = B := Nat.le_antisymm hn (Nat.le_of_not_lt hln)
              have HV : Hid (Lt14 wr T c (q * 16 + 2 * n) ∧ Below w.heap.size w wr) := ⟨by rw [two_mul14]; exact hr3, hb3⟩
              clear hr3 hb3
              go_wp2
              go_roundw
              case rel => exact ⟨b + 1, 2 * n, ⟨HM.out.2.2.2, by rw [HM.out.2.2.1, Nat.pow_succ, Nat.mul_comm]⟩, by first | rfl | (rw [W2]; rfl) | rw [dbl14], HV.out.1, HV.out.2⟩
              case measure => (have h0 : 0 < n := by rw [HM.out.2.2.1]; exact Nat.two_pow_pos b); first | exact meas14 hlb h0 | (rw [W2]; exact meas14 hlb h0) | (rw [dbl14]; exact meas14 hlb h0)
        · obtain rfl : B = 16 := by
            have h1 := hbB.out.2
            have : 2 ^ b ≤ 16 := Nat.pow_le_pow_right (n := 2) (by decide) hbB.out.1
            omega
          have HV : Hid (Lt14 wr T c ((q + 1) * 16) ∧ Below w.heap.size w wr) := ⟨by rw [Nat.add_mul]; exact hr2, hb2⟩
          clear hr2 hb2 hbB
          go_wp2
          go_roundw
          case rel => exact ⟨q + 1, hlt, by first | rfl | (rw [W0]; rfl), HV.out.1, HV.out.2⟩
          case measure => first | exact meas_lt8 hlt | (rw [W0]; exact meas_lt8 hlt)
    · obtain rfl : q = 4 := by omega
      have HV : Hid (Lt14 wr T c 64 ∧ Below w.heap.size w wr) := ⟨hr, hb⟩
      clear hr hb
      go_wp2
      go_ret
      have hT := hT.out
      subst hT
      exact ⟨rfl, HV.out⟩
end Go.Proofs.YtbcjpcdipcomiaaDoor
namespace Go.Proofs.YtbcjpcdipcomiaaDoor
open Go.RowKit Gf2
set_option linter.unusedVariables false

-- layer 14: the factor, and products added
/-- the factor c in block q, its lists (if it has them) at lo or behind. -/
def Fac (w : World) (lo q c : Nat) : Prop := c < 65536 ∧ lo ≤ q ∧ q < w.heap.size ∧ w.cell? ⟨q, 0, none⟩ = some (.int .u16 (c : Nat)) ∧
  (w.cell? ⟨q, 1, none⟩ = some (.pointer none) ∨ ∃ T, lo ≤ T ∧ w.cell? ⟨q, 1, none⟩ = some (.pointer (some ⟨T, 0, none⟩)) ∧ Lt14 w T c 64)
theorem Fac.kp {w w' : World} {lo q c g : Nat} (h : Fac w lo q c) (hk : Kp g w w') (hg : g < lo) : Fac w' lo q c := by
  obtain ⟨h0, h1, h2, h3, h4⟩ := h
  refine ⟨h0, h1, Nat.lt_of_lt_of_le h2 hk.size, (hk.cell h2 (by omega)).trans h3, ?_⟩
  rcases h4 with h4 | ⟨T, t1, t2, t3⟩
  · exact .inl ((hk.cell h2 (by omega)).trans h4)
  · exact .inr ⟨T, t1, (hk.cell h2 (by omega)).trans t2, t3.kp hk (by omega)⟩
set_option maxHeartbeats 4000000 in
set_option maxRecDepth 100000 in
theorem newFactor14 (c n : Nat) (hc : c < 65536) (w : World) : Calls Tryd.prog 21 #[.int .u16 (c : Nat), .int .i64 (n : Int)] w fun e w' => ∃ q, e = .returned (.pointer (some ⟨q, 0, none⟩)) ∧ Fac w' w.heap.size q c ∧ Below w.heap.size w w' := by
  by_cases hn : n < 16
  · have tb : (n : Int) < 16 := by omega
    clear hn
    go_enter Tryd.func21, Tryd.ntmps21
    go_wp2
    go_ret
    refine ⟨_, rfl, ⟨hc, Nat.le_refl _, by simp, ?_, .inl ?_⟩, below_alloc _ _⟩
    · rw [cell_of_row _ w.heap.size 0 _ _ _ (heap_alloc_new _ _)]; rfl
    · rw [cell_of_row _ w.heap.size 1 _ _ _ (heap_alloc_new _ _)]; rfl
  · have tb : ¬ (n : Int) < 16 := by omega
    have c1 := products14 c w hc
    clear hn
    go_enter Tryd.func21, Tryd.ntmps21
    go_wp2_with (go_at_call 27; ((with_reducible refine (c1).mono ?_); (rintro e w1 ⟨rfl, h1, b1⟩)))
    go_ret
    have b2 := below_alloc w1 (.cells #[.int .u16 (c : Nat), .pointer (some ⟨w.heap.size, 0, none⟩)] 53)
    refine ⟨_, rfl, ⟨hc, b1.size, by simp, ?_, .inr ⟨w.heap.size, Nat.le_refl _, ?_, h1.below b2⟩⟩, bthen13 b1 b2⟩
    · rw [cell_of_row _ w1.heap.size 0 _ _ _ (heap_alloc_new _ _)]; rfl
    · rw [cell_of_row _ w1.heap.size 1 _ _ _ (heap_alloc_new _ _)]; rfl
end Go.Proofs.YtbcjpcdipcomiaaDoor
namespace Go.Proofs.YtbcjpcdipcomiaaDoor
open Go.RowKit Gf2
set_option linter.unusedVariables false

-- layer 14: products added to words
theorem xor_add_pow14 {a b k : Nat} (ha : a < 2 ^ k) : a ^^^ b * 2 ^ k = a + b * 2 ^ k := by
  symm
  rw [Nat.add_comm, Nat.mul_comm]
  apply Nat.eq_of_testBit_eq
  intro j
  rw [Nat.testBit_xor, Nat.testBit_two_pow_mul_add _ ha, Nat.testBit_two_pow_mul]
  by_cases h : j < k
  · rw [if_pos h]; simp [Nat.not_le.2 h]
  · rw [if_neg h, Nat.testBit_lt_two_pow (Nat.lt_of_lt_of_le ha (Nat.pow_le_pow_right (by decide) (by omega)))]
    simp [Nat.not_lt.1 h]
theorem nib_sum14 {v : Nat} (hv : v < 65536) : v = v % 16 * 16 ^ 0 ^^^ v / 16 % 16 * 16 ^ 1 ^^^ v / 256 % 16 * 16 ^ 2 ^^^ v / 4096 * 16 ^ 3 := by
  rw [show v % 16 * 16 ^ 0 = v % 16 by omega, show v / 16 % 16 * 16 ^ 1 = v / 16 % 16 * 2 ^ 4 by omega, show v / 256 % 16 * 16 ^ 2 = v / 256 % 16 * 2 ^ 8 by omega, show v / 4096 * 16 ^ 3 = v / 4096 * 2 ^ 12 by omega]
  rw [xor_add_pow14 (k := 4) (by omega), xor_add_pow14 (k := 8) (by omega), xor_add_pow14 (k := 12) (by omega)]
  omega
theorem hb_at {q n : Nat} (hn : n < 16) : hb (16 * q + n) = n * 16 ^ q := by
  unfold hb
  rw [Nat.mul_add_mod, Nat.mod_eq_of_lt hn, Nat.mul_add_div (by decide), Nat.div_eq_of_lt hn, Nat.add_zero]
theorem tg_four (c : Nat) {v : Nat} (hv : v < 65536) : tg c (v % 16) ^^^ tg c (16 + v / 16 % 16) ^^^ tg c (32 + v / 256 % 16) ^^^ tg c (48 + v / 4096) = fm 65581 c v := by
  have h0 := hb_at (q := 0) (n := v % 16) (by omega)
  have h1 := hb_at (q := 1) (n := v / 16 % 16) (by omega)
  have h2 := hb_at (q := 2) (n := v / 256 % 16) (by omega)
  have h3 := hb_at (q := 3) (n := v / 4096) (by omega)
  rw [Nat.mul_zero, Nat.zero_add] at h0
  rw [Nat.mul_one] at h1
  unfold tg
  rw [h0, h1, show 32 + v / 256 % 16 = 16 * 2 + v / 256 % 16 by omega, show 48 + v / 4096 = 16 * 3 + v / 4096 by omega, h2, h3, ← fld16.fm_xor, ← fld16.fm_xor, ← fld16.fm_xor, ← nib_sum14 hv]
theorem u16_15 (v : Nat) (hv : v < 65536) : bits .and .u16 (v : Int) 15 = ((v % 16 : Nat) : Int) := by
  have h := u16_and_nat v 15 hv (by decide)
  rw [show (15 : Nat) = 2 ^ 4 - 1 by decide, Nat.and_two_pow_sub_one_eq_mod] at h
  exact h
/-- a word's four half bytes, and how the code takes them. -/
theorem four_nums {V n0 m1 n1 m2 n2 n3 : Nat} (hV : V < 65536) (h0 : n0 = V % 16) (h1 : m1 = V / 16) (h2 : n1 = m1 % 16) (h3 : m2 = V / 256) (h4 : n2 = m2 % 16) (h5 : n3 = V / 4096) :
    bits .and .u16 (V : Int) 15 = (n0 : Int) ∧ (V : Int) / 16 = (m1 : Int) ∧ bits .and .u16 (m1 : Int) 15 = (n1 : Int) ∧ (V : Int) / 256 = (m2 : Int) ∧ bits .and .u16 (m2 : Int) 15 = (n2 : Int) ∧ (V : Int) / 4096 = (n3 : Int) ∧
    (n0 : Int) < 16 ∧ (n1 : Int) < 16 ∧ (n2 : Int) < 16 ∧ (n3 : Int) < 16 := by
  refine ⟨?_, by omega, ?_, by omega, ?_, by omega, by omega, by omega, by omega, by omega⟩
  · rw [h0]; exact u16_15 V hV
  · rw [h2]; exact u16_15 m1 (by omega)
  · rw [h4]; exact u16_15 m2 (by omega)
theorem Lt14.at {w : World} {T c x : Nat} (h : Lt14 w T c 64) (hx : x < 64) : w.cell? ⟨T, x, none⟩ = some (.int .u16 (tg c x : Nat)) := by
  have := h.cell (i := x) hx
  unfold tgm at this
  rw [if_pos hx] at this
  exact this
set_option maxHeartbeats 8000000 in
set_option maxRecDepth 100000 in
theorem addProducts14 (a a' : Option Addr) (g N o n cd h p cs lo q c : Nat) (F S : Nat → Nat) (w : World) (hf : Fac w lo q c) (hg : g < lo) (hR : R6 w g N F) (ho : o + n ≤ N) (hn : n ≤ 140737488355328) (ha : 0 < n → a = some ⟨g, o, none⟩) (ha' : 0 < n → a' = some ⟨h, p, none⟩)
    (hS : ∀ i, i < n → S i < 65536) (hs : ∀ i, i < n → w.cell? ⟨h, p + i, none⟩ = some (.int .u16 (S i : Nat))) (hd : h ≠ g ∨ (p + n ≤ N ∧ (p + n ≤ o ∨ o + n ≤ p))) :
    Calls Tryd.prog 23 #[.pointer (some ⟨q, 0, none⟩), .slice a n cd, .slice a' n cs] w fun e w' => e = .returned (.tuple #[]) ∧ R6 w' g N (pl F o n (fun i => F (o + i) ^^^ fm 65581 c (S i))) ∧ Only g w w' := by
  have HN : Hid (R6 w g N F ∧ o + n ≤ N ∧ (∀ i, i < n → S i < 65536) ∧ (∀ i, i < n → w.cell? ⟨h, p + i, none⟩ = some (.int .u16 (S i : Nat))) ∧ (h ≠ g ∨ (p + n ≤ N ∧ (p + n ≤ o ∨ o + n ≤ p))) ∧ g < lo) := ⟨hR, ho, hS, hs, hd, hg⟩
  obtain ⟨hc, f1, f2, y0, f4⟩ := hf
  have HQ : Hid (lo ≤ q ∧ q < w.heap.size ∧ w.cell? ⟨q, 0, none⟩ = some (.int .u16 (c : Nat)) ∧ c < 65536) := ⟨f1, f2, y0, hc⟩
  clear hR ho hS hs hd hg f1 f2 hc
  rcases f4 with y1 | ⟨T, t1, y1, t3⟩
  · go_enter Tryd.func23, Tryd.ntmps23
    go_wp2
    go_loopw [17] (fun tv wr => ∃ t : Nat, t ≤ n ∧ tv = .int .i64 t ∧ R6 wr g N (pl F o t (fun i => F (o + i) ^^^ fm 65581 c (S i))) ∧ Only g w wr) (fun tv _ => n - (intOf tv).toNat)
    case atStart => exact ⟨0, Nat.zero_le _, rfl, by rw [pl_none]; exact HN.out.1, Only.refl _ _⟩
    case round =>
      obtain ⟨t, ht, rfl, hr, hb⟩ := hrel
      by_cases hlt : t < n
      · obtain rfl := ha (by omega)
        obtain rfl := ha' (by omega)
        obtain ⟨n1, n2, n3, n4, n5, n6⟩ := HN.out
        have tb : ((t : Nat) : Int) < (n : Int) := by omega
        have W1 := wrap_succ8 (j := t) (by unfold big; omega)
        have q1 := sr_at n1 n4 n5 hb hr ht hlt
        have q2 := hr.2.2.cell (i := o + t) (by omega)
        have q3 := hr.2.2.frozen (o + t)
        have q4 : wr.cell? ⟨q, 0, none⟩ = some (.int .u16 (c : Nat)) := (hb.kp.cell HQ.out.2.1 (by have := HQ.out.1; omega)).trans HQ.out.2.2.1
        rw [pl_out (by omega)] at q2
        have l1 := n1.2.1 (o + t) (by omega)
        have l2 := n3 t hlt
        have c1 := fun W => hmul_nat c (S t) W HQ.out.2.2.2 l2
        have l3 := fm16_lt c (S t)
        have X := u16_xor_nat (F (o + t)) (fm 65581 c (S t)) l1 l3
        have lx := Nat.xor_lt_two_pow (n := 16) l1 l3
        have HV : Hid (R6 (wr.setCell ⟨g, o + t, none⟩ (.int .u16 ((F (o + t) ^^^ fm 65581 c (S t) : Nat) : Int))) g N (pl F o (t + 1) (fun i => F (o + i) ^^^ fm 65581 c (S i))) ∧ Only g w (wr.setCell ⟨g, o + t, none⟩ (.int .u16 ((F (o + t) ^^^ fm 65581 c (S t) : Nat) : Int)))) :=
          ⟨(hr.set _ _ lx).congr (fun i hi => congrFun (pl_next (F := F) (S := fun i => F (o + i) ^^^ fm 65581 c (S i)) (o := o) (t := t)) i), hb.setCell _ _⟩
        obtain ⟨D, hD⟩ : ∃ D, D = F (o + t) := ⟨_, rfl⟩
        obtain ⟨G, hG⟩ : ∃ G, G = S t := ⟨_, rfl⟩
        obtain ⟨Y, hY⟩ : ∃ Y, Y = fm 65581 c (S t) := ⟨_, rfl⟩
        rw [← hD, ← hY] at X HV
        rw [← hD] at q2
        rw [← hG] at hY
        rw [← hG] at c1
        rw [← hY] at c1
        rw [← hG] at q1
        clear hr hb n1 n2 n3 n4 n5 n6 l1 l2 l3 lx hD hG hY ha ha' y0 y1
        go_wp2
        refine region_tail13 12 (by kernel_rfl) (by kernel_rfl) ?_
        simp only [List.take_succ_cons, List.take_zero, List.drop_succ_cons, List.drop_zero]
        repeat still_step
        still_call (c1 _)
        repeat still_step
        refine wpStill_nil ?_
        go_wp2
        go_roundw
        case rel => exact ⟨t + 1, hlt, by first | rfl | (rw [W1]; rfl), HV.out.1.drew, HV.out.2.drew⟩
        case measure => first | exact meas_lt8 hlt | (rw [W1]; exact meas_lt8 hlt)
      · have hti : t = n := by omega
        subst hti
        have HV : Hid (R6 wr g N (pl F o t (fun i => F (o + i) ^^^ fm 65581 c (S i))) ∧ Only g w wr) := ⟨hr, hb⟩
        clear hr hb
        go_wp2
        ((try simp only [Exit.inBlock, Exit.then]); first | (refine bodyPost_ret (results_none rfl _ _ _) rfl ?_) | (refine bodyPost_end (results_none rfl _ _ _) rfl ?_))
        exact ⟨rfl, HV.out⟩
  · have HT : Hid (lo ≤ T ∧ Lt14 w T c 64 ∧ w.cell? ⟨q, 1, none⟩ = some (.pointer (some ⟨T, 0, none⟩))) := ⟨t1, t3, y1⟩
    clear t1 t3
    go_enter Tryd.func23, Tryd.ntmps23
    go_wp2
    go_loopw [37] (fun tv wr => ∃ t : Nat, t ≤ n ∧ tv = .int .i64 t ∧ R6 wr g N (pl F o t (fun i => F (o + i) ^^^ fm 65581 c (S i))) ∧ Only g w wr) (fun tv _ => n - (intOf tv).toNat)
    case atStart => exact ⟨0, Nat.zero_le _, rfl, by rw [pl_none]; exact HN.out.1, Only.refl _ _⟩
    case round =>
      obtain ⟨t, ht, rfl, hr, hb⟩ := hrel
      by_cases hlt : t < n
      · obtain rfl := ha (by omega)
        obtain rfl := ha' (by omega)
        obtain ⟨n1, n2, n3, n4, n5, n6⟩ := HN.out
        have tb : ((t : Nat) : Int) < (n : Int) := by omega
        have W1 := wrap_succ8 (j := t) (by unfold big; omega)
        have q1 := sr_at n1 n4 n5 hb hr ht hlt
        have q2 := hr.2.2.cell (i := o + t) (by omega)
        have q3 := hr.2.2.frozen (o + t)
        have q4 : wr.cell? ⟨q, 1, none⟩ = some (.pointer (some ⟨T, 0, none⟩)) := (hb.kp.cell HQ.out.2.1 (by have := HQ.out.1; omega)).trans HT.out.2.2
        have hL := Only.lt14 HT.out.2.1 hb (by have := HT.out.1; omega)
        rw [pl_out (by omega)] at q2
        have l1 := n1.2.1 (o + t) (by omega)
        have l2 := n3 t hlt
        have l3 := fm16_lt c (S t)
        have X := u16_xor_nat (F (o + t)) (fm 65581 c (S t)) l1 l3
        have lx := Nat.xor_lt_two_pow (n := 16) l1 l3
        have HV : Hid (R6 (wr.setCell ⟨g, o + t, none⟩ (.int .u16 ((F (o + t) ^^^ fm 65581 c (S t) : Nat) : Int))) g N (pl F o (t + 1) (fun i => F (o + i) ^^^ fm 65581 c (S i))) ∧ Only g w (wr.setCell ⟨g, o + t, none⟩ (.int .u16 ((F (o + t) ^^^ fm 65581 c (S t) : Nat) : Int)))) :=
          ⟨(hr.set _ _ lx).congr (fun i hi => congrFun (pl_next (F := F) (S := fun i => F (o + i) ^^^ fm 65581 c (S i)) (o := o) (t := t)) i), hb.setCell _ _⟩
        have qs := tg_four c l2
        obtain ⟨V, hV⟩ : ∃ V, V = S t := ⟨_, rfl⟩
        rw [← hV] at q1 l2 qs
        obtain ⟨n0, hn0⟩ : ∃ n0, n0 = V % 16 := ⟨_, rfl⟩
        obtain ⟨m1, hm1⟩ : ∃ m1, m1 = V / 16 := ⟨_, rfl⟩
        obtain ⟨k1, hk1⟩ : ∃ k1, k1 = m1 % 16 := ⟨_, rfl⟩
        obtain ⟨m2, hm2⟩ : ∃ m2, m2 = V / 256 := ⟨_, rfl⟩
        obtain ⟨k2, hk2⟩ : ∃ k2, k2 = m2 % 16 := ⟨_, rfl⟩
        obtain ⟨k3, hk3⟩ : ∃ k3, k3 = V / 4096 := ⟨_, rfl⟩
        obtain ⟨A0, R1, A1, R2, A2, R3, i0, i1, i2, i3⟩ := four_nums l2 hn0 hm1 hk1 hm2 hk2 hk3
        rw [← hn0, ← hm1, ← hk1, ← hm2, ← hk2, ← hk3] at qs
        have u0 := hL.at (x := n0) (by omega)
        have u1 := hL.at (x := 16 + k1) (by omega)
        have u2 := hL.at (x := 32 + k2) (by omega)
        have u3 := hL.at (x := 48 + k3) (by omega)
        have lZ0 := tg_lt c n0
        have lZ1 := tg_lt c (16 + k1)
        have lZ2 := tg_lt c (32 + k2)
        have lZ3 := tg_lt c (48 + k3)
        obtain ⟨D, hD⟩ : ∃ D, D = F (o + t) := ⟨_, rfl⟩
        obtain ⟨Y, hY⟩ : ∃ Y, Y = fm 65581 c (S t) := ⟨_, rfl⟩
        rw [← hD, ← hY] at X HV
        rw [← hD] at q2
        rw [hV, ← hY] at qs
        generalize tg c n0 = Z0 at u0 lZ0 qs
        generalize tg c (16 + k1) = Z1 at u1 lZ1 qs
        generalize tg c (32 + k2) = Z2 at u2 lZ2 qs
        generalize tg c (48 + k3) = Z3 at u3 lZ3 qs
        have X1 := u16_xor_nat Z0 Z1 lZ0 lZ1
        have l01 : Z0 ^^^ Z1 < 65536 := Nat.xor_lt_two_pow (n := 16) lZ0 lZ1
        have X2 := u16_xor_nat (Z0 ^^^ Z1) Z2 l01 lZ2
        have X3 := u16_xor_nat (Z0 ^^^ Z1 ^^^ Z2) Z3 (Nat.xor_lt_two_pow (n := 16) l01 lZ2) lZ3
        rw [qs] at X3
        generalize Z0 ^^^ Z1 = Y1 at X1 X2 X3
        generalize Y1 ^^^ Z2 = Y2 at X2 X3
        clear hr hb n1 n2 n3 n4 n5 n6 l1 l2 l3 lx hD hY ha ha' y0 y1 hL hV hn0 hm1 hk1 hm2 hk2 hk3 lZ0 lZ1 lZ2 lZ3 l01 qs
        go_wp2
        refine region_tail13 51 (by kernel_rfl) (by kernel_rfl) ?_
        simp only [List.take_succ_cons, List.take_zero, List.drop_succ_cons, List.drop_zero]
        repeat still_step
        refine wpStill_nil ?_
        go_wp2
        go_roundw
        case rel => exact ⟨t + 1, hlt, by first | rfl | (rw [W1]; rfl), HV.out.1.drew, HV.out.2.drew⟩
        case measure => first | exact meas_lt8 hlt | (rw [W1]; exact meas_lt8 hlt)
      · have hti : t = n := by omega
        subst hti
        have HV : Hid (R6 wr g N (pl F o t (fun i => F (o + i) ^^^ fm 65581 c (S i))) ∧ Only g w wr) := ⟨hr, hb⟩
        clear hr hb
        go_wp2
        ((try simp only [Exit.inBlock, Exit.then]); first | (refine bodyPost_ret (results_none rfl _ _ _) rfl ?_) | (refine bodyPost_end (results_none rfl _ _ _) rfl ?_))
        exact ⟨rfl, HV.out⟩
end Go.Proofs.YtbcjpcdipcomiaaDoor
