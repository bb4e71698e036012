import Derived.Test.YtoofoamondepoaaDoorLcc
import Derived.StillTail
namespace Go.Proofs.YtoofoamondepoaaDoor
open Go.RowKit Gf2
set_option linter.unusedVariables false

theorem region_tail13 {P : Program} {id : Nat} {Q : Exit → Act → World → Prop} {a : Act} {w : World} {l : List Oper} (n : Nat) (hm : P.follows .mixedOrders = true) (hB : Region.lexTailB .any l.toArray n = true)
    (h : wpStill P l.toArray w.drew (fun a' => wpList P l.toArray Q (l.drop n) a' w.drew) (l.take n) a) : (Code.region id l.toArray true).wp P Q a w := wp_region_still_tail n hm hB h
theorem ew_nat13 {n : Nat} (h : n ≤ 65535) : ew (n : Int) = we n ∧ ee (n : Int) = 0 := by
  unfold ew ee
  rw [if_pos (by omega), if_pos (by omega)]
  exact ⟨rfl, rfl⟩
theorem shr_cast (V i : Nat) : ((V : Int) / 2 ^ i) = ((V / 2 ^ i : Nat) : Int) := by simp
/-- Element of a shifted index. -/
theorem element_shr (V i : Nat) (hV : V < 65536) (w : World) (hC : Cant w) :
    Calls Tryd.prog 19 #[.int .i64 ((V : Int) / 2 ^ i)] w fun e w' => e = .returned (.tuple #[.int .u16 (we (V / 2 ^ i) : Nat), .int .i64 0]) ∧ w' = w := by
  have h : V / 2 ^ i ≤ 65535 := Nat.le_trans (Nat.div_le_self _ _) (by omega)
  have c := helement_int ((V / 2 ^ i : Nat) : Int) w hC
  rw [(ew_nat13 h).1, (ew_nat13 h).2] at c
  rw [shr_cast]
  exact c
set_option maxHeartbeats 2000000 in
set_option maxRecDepth 100000 in
theorem vanish13 (i x : Nat) (hi : i ≤ 16) (hx : x < 65536) (w : World) (hC : Cant w) :
    Calls Tryd.prog 29 #[.int .i64 (i : Int), .int .u16 (x : Int)] w fun e w' => e = .returned (.int .u16 (sv i x : Nat)) ∧ w' = w := by
  have c1 := hindex_nat x w hx hC
  have hV := wi_lt x
  have c2 := element_shr (wi x) i hV w hC
  have e : sv i x = we (wi x / 2 ^ i) := rfl
  rw [e]
  obtain ⟨V, hV'⟩ : ∃ V, V = wi x := ⟨_, rfl⟩
  rw [← hV'] at c1 c2 hV ⊢
  clear e hV' hC
  have ib : ((i : Nat) : Int) ≤ 16 := by omega
  have iv : ((V : Nat) : Int) < 65536 := by omega
  go_enter Tryd.func29, Tryd.ntmps29
  go_wp2_with (first | (go_at_call 38; ((with_reducible refine (c1).mono ?_); rintro e w' ⟨rfl, rfl⟩)) | (go_at_call 19; ((with_reducible refine (c2).mono ?_); rintro e w' ⟨rfl, rfl⟩)))
  go_ret
  exact ⟨rfl, rfl⟩
/-- what Vanish answers. -/
def vv (i : Int) (x : Nat) : Nat := if 0 ≤ i ∧ i ≤ 16 then sv i.toNat x else 0
def ve (i : Int) : Nat := if 0 ≤ i ∧ i ≤ 16 then 0 else 7
theorem vv_nat {i : Nat} (h : i ≤ 16) (x : Nat) : vv (i : Int) x = sv i x ∧ ve (i : Int) = 0 := by
  unfold vv ve
  rw [if_pos (by omega), if_pos (by omega)]
  exact ⟨rfl, rfl⟩
theorem vv_out {i : Int} (h : ¬ (0 ≤ i ∧ i ≤ 16)) (x : Nat) : vv i x = 0 ∧ ve i = 7 := by
  unfold vv ve
  rw [if_neg h, if_neg h]
  exact ⟨rfl, rfl⟩
theorem vv_lt (i : Int) (x : Nat) : vv i x < 65536 := by
  unfold vv; split
  · exact sv_lt _ _
  · decide
set_option maxHeartbeats 2000000 in
set_option maxRecDepth 100000 in
theorem vanish13_any (i : Int) (x : Nat) (hx : x < 65536) (w : World) (hC : Cant w) :
    Calls Tryd.prog 15 #[.int .i64 i, .int .u16 (x : Int)] w fun e w' => e = .returned (.tuple #[.int .u16 (vv i x : Nat), .int .i64 (ve i : Nat)]) ∧ w' = w := by
  have c1 := outside13 i w
  by_cases h : 0 ≤ i ∧ i ≤ 16
  · obtain ⟨n, rfl⟩ := Int.eq_ofNat_of_zero_le h.1
    have hn : n ≤ 16 := by omega
    rw [(vv_nat hn x).1, (vv_nat hn x).2]
    rw [show decide ((n : Int) < 0 ∨ 16 < (n : Int)) = false by simp; omega] at c1
    have c2 := vanish13 n x hn hx w hC
    clear h hC
    go_enter Tryd.func15, Tryd.ntmps15
    go_wp2_with (first | (go_at_call 33; ((with_reducible refine (c1).mono ?_); rintro e w' ⟨rfl, rfl⟩)) | (go_at_call 29; ((with_reducible refine (c2).mono ?_); rintro e w' ⟨rfl, rfl⟩)))
    go_ret2
    exact ⟨rfl, rfl⟩
  · rw [(vv_out h x).1, (vv_out h x).2]
    rw [show decide (i < 0 ∨ 16 < i) = true by simp; omega] at c1
    clear h hC
    go_enter Tryd.func15, Tryd.ntmps15
    go_wp2_with (go_at_call 33; ((with_reducible refine (c1).mono ?_); rintro e w' ⟨rfl, rfl⟩))
    go_ret2
    exact ⟨rfl, rfl⟩
set_option maxHeartbeats 2000000 in
set_option maxRecDepth 100000 in
theorem skew13_yes (i j : Nat) (hi : i ≤ 16) (hj : j < 65536) (w : World) (hC : Cant w) :
    Calls Tryd.prog 18 #[.int .i64 (i : Int), .int .i64 (j : Int)] w fun e w' => e = .returned (.tuple #[.int .u16 (we (j / 2 ^ i) : Nat), .int .i64 0]) ∧ w' = w := by
  have c1 := outside13 (i : Int) w
  rw [show decide ((i : Int) < 0 ∨ 16 < (i : Int)) = false by simp; omega] at c1
  have c2 := element_shr j i hj w hC
  have D1 : decide ((j : Int) < 0) = false := by simp
  have D2 : decide ((65536 : Int) ≤ (j : Int)) = false := by simp; omega
  have D3 : decide ((65535 : Int) < (j : Int)) = false := by simp; omega
  obtain ⟨Y, hY⟩ : ∃ Y, Y = we (j / 2 ^ i) := ⟨_, rfl⟩
  rw [← hY] at c2 ⊢
  clear hC hj hY
  go_enter Tryd.func18, Tryd.ntmps18
  go_wp2_with (first | (go_at_call 33; ((with_reducible refine (c1).mono ?_); rintro e w' ⟨rfl, rfl⟩)) | (go_at_call 19; ((with_reducible refine (c2).mono ?_); rintro e w' ⟨rfl, rfl⟩)))
  go_ret2
  exact ⟨rfl, rfl⟩
set_option maxHeartbeats 2000000 in
set_option maxRecDepth 100000 in
theorem skew13_range (i j : Int) (hi : ¬ (0 ≤ i ∧ i ≤ 16)) (w : World) :
    Calls Tryd.prog 18 #[.int .i64 i, .int .i64 j] w fun e w' => e = .returned (.tuple #[.int .u16 0, .int .i64 7]) ∧ w' = w := by
  have c1 := outside13 i w
  rw [show decide (i < 0 ∨ 16 < i) = true by simp; omega] at c1
  clear hi
  go_enter Tryd.func18, Tryd.ntmps18
  go_wp2_with (go_at_call 33; ((with_reducible refine (c1).mono ?_); rintro e w' ⟨rfl, rfl⟩))
  go_ret2
  exact ⟨rfl, rfl⟩
set_option maxHeartbeats 2000000 in
set_option maxRecDepth 100000 in
theorem skew13_index (i : Nat) (j : Int) (hi : i ≤ 16) (hj : ¬ (0 ≤ j ∧ j < 65536)) (w : World) :
    Calls Tryd.prog 18 #[.int .i64 (i : Int), .int .i64 j] w fun e w' => e = .returned (.tuple #[.int .u16 0, .int .i64 31]) ∧ w' = w := by
  have c1 := outside13 (i : Int) w
  rw [show decide ((i : Int) < 0 ∨ 16 < (i : Int)) = false by simp; omega] at c1
  by_cases h : j < 0
  · clear hj
    go_enter Tryd.func18, Tryd.ntmps18
    go_wp2_with (go_at_call 33; ((with_reducible refine (c1).mono ?_); rintro e w' ⟨rfl, rfl⟩))
    go_ret2
    exact ⟨rfl, rfl⟩
  · have h2 : 65536 ≤ j := by omega
    clear hj
    go_enter Tryd.func18, Tryd.ntmps18
    go_wp2_with (go_at_call 33; ((with_reducible refine (c1).mono ?_); rintro e w' ⟨rfl, rfl⟩))
    go_ret2
    exact ⟨rfl, rfl⟩
set_option maxHeartbeats 4000000 in
set_option maxRecDepth 100000 in
theorem linear13_yes (i : Nat) (hi : i ≤ 16) (w : World) :
    Calls Tryd.prog 16 #[.int .i64 (i : Int)] w fun e w' => e = .returned (.tuple #[.slice (some ⟨w.heap.size, 0, none⟩) (i + 1) (i + 1), .int .i64 0]) ∧ R6 w' w.heap.size (i + 1) (fun t => oc t i) ∧ Below w.heap.size w w' := by
  have c1 := outside13 (i : Int) w
  rw [show decide ((i : Int) < 0 ∨ 16 < (i : Int)) = false by simp; omega] at c1
  obtain ⟨N, hN⟩ : ∃ N, N = i + 1 := ⟨_, rfl⟩
  rw [← hN]
  have hmk := make_w6 N (by omega)
  rw [show ((N : Nat) : Int) = (i : Int) + 1 by omega] at hmk
  have W0 : wrap64 ((i : Int) + 1) = (i : Int) + 1 := by unfold wrap64; omega
  have HN : Hid (N = i + 1) := hN
  clear hN
  go_enter Tryd.func16, Tryd.ntmps16
  go_wp2_with (go_at_call 33; ((with_reducible refine (c1).mono ?_); (rintro e w9 ⟨rfl, hw9⟩; have hw9 := hw9.symm; subst hw9)))
  clear hmk W0 c1
  have hN := HN.out
  go_loopw [13] (fun tv wr => ∃ t : Nat, t ≤ N ∧ tv = .int .i64 t ∧ R6 wr w.heap.size N (fun x => if x < t then oc x i else 0) ∧ Below w.heap.size w wr) (fun tv _ => N - (intOf tv).toNat)
  case atStart =>
    refine ⟨0, Nat.zero_le _, rfl, ?_, made_b6 _ w⟩
    exact (made_r6 N (by omega) w).congr (fun x _ => (if_neg (Nat.not_lt_zero _)).symm)
  case round =>
    obtain ⟨t, ht, rfl, hr, hb⟩ := hrel
    by_cases hlt : t < N
    · have c2 := occurs13 t i (by omega) hi wr
      have q1 := hr.2.2.cell hlt
      simp only [Nat.lt_irrefl, if_false] at q1
      have q2 := hr.2.2.frozen t
      have ib : ((t : Nat) : Int) < (i : Int) + 1 := by omega
      have W1 := wrap_succ8 (j := t) (by unfold big; omega)
      rcases oc_bit t i with ho | ho
      · rw [ho, show decide (0 = 1) = false by decide] at c2
        have HV : Hid (R6 wr w.heap.size N (fun x => if x < t + 1 then oc x i else 0) ∧ Below w.heap.size w wr) := ⟨hr.congr (fun x _ => by
          by_cases e : x = t
          · subst e; rw [if_neg (Nat.lt_irrefl _), if_pos (Nat.lt_succ_self _), ho]
          · by_cases e2 : x < t
            · rw [if_pos e2, if_pos (by omega)]
            · rw [if_neg e2, if_neg (by omega)]), hb⟩
        clear hr hb q1 q2 ho hN
        go_wp2_with (go_at_call 34; ((with_reducible refine (c2).mono ?_); rintro e w' ⟨rfl, rfl⟩))
        go_roundw
        case rel => exact ⟨t + 1, hlt, by first | rfl | (rw [W1]; rfl), HV.out.1, HV.out.2⟩
        case measure => first | exact meas_lt8 hlt | (rw [W1]; exact meas_lt8 hlt)
      · rw [ho, show decide (1 = 1) = true by decide] at c2
        have HV : Hid (R6 (wr.setCell ⟨w.heap.size, t, none⟩ (.int .u16 1)) w.heap.size N (fun x => if x < t + 1 then oc x i else 0) ∧ Below w.heap.size w (wr.setCell ⟨w.heap.size, t, none⟩ (.int .u16 1))) := ⟨(hr.set t 1 (by decide)).congr (fun x _ => by
          by_cases e : x = t
          · subst e; rw [if_pos rfl, if_pos (Nat.lt_succ_self _), ho]
          · rw [if_neg e]
            by_cases e2 : x < t
            · rw [if_pos e2, if_pos (by omega)]
            · rw [if_neg e2, if_neg (by omega)]), hb.setCell (Nat.le_refl _) _⟩
        clear hr hb ho hN
        go_wp2_with (go_at_call 34; ((with_reducible refine (c2).mono ?_); rintro e w' ⟨rfl, rfl⟩))
        go_roundw
        case rel => exact ⟨t + 1, hlt, by first | rfl | (rw [W1]; rfl), HV.out.1, HV.out.2⟩
        case measure => first | exact meas_lt8 hlt | (rw [W1]; exact meas_lt8 hlt)
    · have ht1 : t = N := by omega
      subst ht1
      have HV : Hid (R6 wr w.heap.size t (fun x => oc x i) ∧ Below w.heap.size w wr) := ⟨hr.congr (fun x hx => if_pos hx), hb⟩
      clear hr hb hN
      go_wp2
      go_ret2
      exact ⟨rfl, HV.out⟩
set_option maxHeartbeats 4000000 in
set_option maxRecDepth 100000 in
theorem linear13_no (i : Int) (hi : ¬ (0 ≤ i ∧ i ≤ 16)) (w : World) :
    Calls Tryd.prog 16 #[.int .i64 i] w fun e w' => e = .returned (.tuple #[.slice none 0 0, .int .i64 7]) ∧ w' = w := by
  have c1 := outside13 i w
  rw [show decide (i < 0 ∨ 16 < i) = true by simp; omega] at c1
  clear hi
  go_enter Tryd.func16, Tryd.ntmps16
  go_wp2_with (go_at_call 33; ((with_reducible refine (c1).mono ?_); rintro e w' ⟨rfl, rfl⟩))
  go_ret2
  exact ⟨rfl, rfl⟩
end Go.Proofs.YtoofoamondepoaaDoor
