import Derived.Test.YtemjodlhpelbaaaDoorAj5
namespace Go.Proofs.YtemjodlhpelbaaaDoor
open Go.RowKit Gf2
set_option linter.unusedVariables false

-- layer 14: the statements' own helpers
set_option maxHeartbeats 2000000 in
set_option maxRecDepth 100000 in
theorem alike14 (u v : Value) (n : Nat) (F : Nat → Nat) (w : World) (h : Q6 w u n F) (k : Q6 w v n F) :
    Calls Tryd.prog 14 #[u, v] w fun e w' => e = .returned (.bool true) ∧ ∃ m, w' = w.drewN m := by
  obtain ⟨hn, hF, a, cap, rfl, -, -, h4⟩ := h
  obtain ⟨-, -, c, cap', rfl, -, -, k4⟩ := k
  go_enter Tryd.func14, Tryd.ntmps14
  go_wp2
  go_loopw [5] (fun i wr => ∃ k m : Nat, k ≤ n ∧ i = .int .i64 k ∧ wr = w.drewN m) (fun i _ => n - (intOf i).toNat)
  case atStart => exact ⟨0, 0, Nat.zero_le _, rfl, rfl⟩
  case round =>
    obtain ⟨k, m, hk, rfl, hw⟩ := hrel
    by_cases hlt : k < n
    · obtain ⟨b, o, rfl, -, hc⟩ := h4 (by omega)
      obtain ⟨b', o', rfl, -, hc'⟩ := k4 (by omega)
      have q1 : wr.cell? ⟨b, o + k, none⟩ = some (.int .u16 (F k : Nat)) := by rw [hw]; exact hc k hlt
      have q2 : wr.cell? ⟨b', o' + k, none⟩ = some (.int .u16 (F k : Nat)) := by rw [hw]; exact hc' k hlt
      have HW : Hid (wr = w.drewN m) := hw
      have ib : ((k : Nat) : Int) < (n : Int) := by omega
      have W1 := wrap_succ8 (j := k) (by omega)
      have HN : Hid (n ≤ big) := hn
      clear hc hc' hw h4 k4 hF hn
      go_wp2
      go_quiet (fail)
      go_wp2
      go_roundw
      case rel => exact ⟨k + 1, m + nq, hlt, by first | rfl | (rw [W1]; rfl), by rw [HW.out, World.drewN_drewN]⟩
      case measure => first | exact meas_lt8 hlt | (rw [W1]; exact meas_lt8 hlt)
    · have hk5 : k = n := by omega
      subst hk5
      subst hw
      go_wp2
      go_ret
      exact ⟨rfl, _, rfl⟩
theorem cut_nums14 {B n most : Nat} (h1 : B ≤ n) (h2 : B ≤ most) (hm : most ≤ 65536) (h0 : 0 < B) : wrap64 (2 * (B : Int)) = ((2 * B : Nat) : Int) ∧ B ≤ 65536 := by
  constructor
  · unfold wrap64; omega
  · omega
theorem meas_cut {B m : Nat} (h0 : 0 < B) (h : 2 * B ≤ m) : m - (intOf (Value.int .i64 ((2 * B : Nat) : Int))).toNat < m - (intOf (Value.int .i64 (B : Int))).toNat := by
  simp only [intOf]; omega
set_option maxHeartbeats 4000000 in
set_option maxRecDepth 100000 in
theorem cut14 (b o n cap most : Nat) (hn : 0 < n) (hc : n ≤ cap) (hm0 : 0 < most) (hm : most ≤ 65536) (w : World) :
    Calls Tryd.prog 10 #[.slice (some ⟨b, o, none⟩) n cap, .int .i64 (most : Int)] w fun e w' => ∃ k c, e = .returned (.slice (some ⟨b, o, none⟩) c cap) ∧ Hid (c = 2 ^ k ∧ c ≤ n ∧ c ≤ most) ∧ w' = w := by
  have n0 : ((n : Int) == 0) = false := by simp; omega
  have n1 : (n : Int) ≠ 0 := by omega
  have HN : Hid (0 < n ∧ n ≤ cap ∧ 0 < most ∧ most ≤ 65536) := ⟨hn, hc, hm0, hm⟩
  clear hn hc hm0 hm
  go_enter Tryd.func10, Tryd.ntmps10
  go_wp2
  go_loopw [5] (fun bv wr => ∃ k B : Nat, Hid (B = 2 ^ k ∧ B ≤ n ∧ B ≤ most) ∧ bv = .int .i64 B ∧ wr = w) (fun bv _ => most - (intOf bv).toNat)
  case atStart => exact ⟨0, 1, ⟨rfl, HN.out.1, HN.out.2.2.1⟩, rfl, rfl⟩
  case round =>
    obtain ⟨k, B, hB, rfl, hw⟩ := hrel
    have B0 : 0 < B := by rw [hB.out.1]; exact Nat.two_pow_pos k
    have HW : Hid (wr = w) := hw
    by_cases hlt : 2 * B ≤ n ∧ 2 * B ≤ most
    · have t1 : (2 : Int) * (B : Int) ≤ (n : Int) := by omega
      have t2 : (2 : Int) * (B : Int) ≤ (most : Int) := by omega
      obtain ⟨W1, -⟩ := cut_nums14 hB.out.2.1 hB.out.2.2 HN.out.2.2.2 B0
      have W2 : wrap64 (2 * (B : Int)) = 2 * (B : Int) := by rw [W1]; rfl
      have HL : Hid (2 * B ≤ n ∧ 2 * B ≤ most ∧ 0 < B) := ⟨hlt.1, hlt.2, B0⟩
      clear hw hlt B0 W1
      go_wp2
      go_roundw
      case rel => exact ⟨k + 1, 2 * B, ⟨by rw [hB.out.1, Nat.pow_succ, Nat.mul_comm], HL.out.1, HL.out.2.1⟩, by first | rfl | (rw [W2]; rfl), HW.out⟩
      case measure => first | exact meas_cut HL.out.2.2 HL.out.2.1 | (rw [W2]; exact meas_cut HL.out.2.2 HL.out.2.1)
    · have hh := head6 b o n cap B (Nat.le_trans hB.out.2.1 HN.out.2.1)
      obtain ⟨W1, -⟩ := cut_nums14 hB.out.2.1 hB.out.2.2 HN.out.2.2.2 B0
      have W2 : wrap64 (2 * (B : Int)) = 2 * (B : Int) := by rw [W1]; rfl
      have HW2 : Hid (wrap64 (2 * (B : Int)) = 2 * (B : Int)) := W2
      clear hw B0 W1 W2
      by_cases h1 : 2 * B ≤ n
      · have t1 : (2 : Int) * (B : Int) ≤ (n : Int) := by omega
        have t2 : ¬ (2 : Int) * (B : Int) ≤ (most : Int) := by omega
        have W2 := HW2.out
        clear hlt h1
        go_wp2
        go_ret
        exact ⟨k, B, rfl, hB, HW.out⟩
      · have t1 : ¬ (2 : Int) * (B : Int) ≤ (n : Int) := by omega
        have W2 := HW2.out
        clear hlt h1
        go_wp2
        go_ret
        exact ⟨k, B, rfl, hB, HW.out⟩
theorem begin_nums14 {k n c : Nat} {a : Int} (hn : n = 2 ^ k) (hm : n ≤ 65536) (hc : c = 65536 / n) : 0 < c ∧ c ≤ 65536 ∧ ∃ (r v : Int) (u : Nat), a.tmod (c : Int) = r ∧ v = r + (c : Int) ∧ wrap64 (r + (c : Int)) = v ∧ v.tmod (c : Int) = (u : Int) ∧ u < c ∧ c * n = 65536 := by
  have hk : k ≤ 16 := by
    rcases Nat.lt_or_ge 16 k with h | h
    · have := Nat.pow_le_pow_right (n := 2) (by decide) (show 17 ≤ k from h)
      omega
    · exact h
  have hcn : c * n = 65536 := by
    rw [hc, hn]
    exact Nat.div_mul_cancel (Nat.pow_dvd_pow 2 hk)
  have c0 : 0 < c := by
    rcases Nat.eq_zero_or_pos c with h | h
    · rw [h] at hcn; omega
    · exact h
  have c1 : c ≤ 65536 := by rw [hc]; exact Nat.div_le_self _ _
  have r1 : a.tmod (c : Int) < c := Int.tmod_lt_of_pos _ (by omega)
  have r2 : -(c : Int) < a.tmod (c : Int) := by
    have := Int.tmod_lt_of_pos (-a) (show (0 : Int) < (c : Int) by omega)
    rw [Int.neg_tmod] at this
    omega
  refine ⟨c0, c1, a.tmod c, a.tmod c + c, ((a.tmod c + c).toNat % c), rfl, rfl, ?_, ?_, Nat.mod_lt _ c0, hcn⟩
  · generalize a.tmod c = r at *
    unfold wrap64; omega
  · rw [Int.tmod_eq_emod_of_nonneg (by omega)]
    have : (a.tmod (c : Int) + (c : Int)) = ((a.tmod (c : Int) + (c : Int)).toNat : Int) := by omega
    rw [this]
    simp
theorem wrap_c {c : Nat} (c1 : c ≤ 65536) : wrap64 (c : Int) = (c : Int) := by unfold wrap64; omega
theorem begin_more {k n c u : Nat} (hn : n = 2 ^ k) (c0 : 0 < c) (c1 : c ≤ 65536) (h5 : u < c) (h6 : c * n = 65536) : ((n : Int) == 0) = false ∧ (n : Int) ≠ 0 ∧ ((c : Int) == 0) = false ∧ (c : Int) ≠ 0 ∧ (n ∣ u * n ∧ u * n + n ≤ 65536) ∧ wrap64 ((u : Int) * (n : Int)) = ((u * n : Nat) : Int) := by
  have hp : 0 < n := by rw [hn]; exact Nat.two_pow_pos k
  have hun : u * n + n ≤ 65536 := by
    have := Nat.mul_le_mul_right n (show u + 1 ≤ c from h5)
    rw [Nat.add_mul, Nat.one_mul] at this
    omega
  refine ⟨by simp; omega, by omega, by simp; omega, by omega, ⟨Nat.dvd_mul_left _ _, hun⟩, ?_⟩
  rw [show ((u : Int) * (n : Int)) = ((u * n : Nat) : Int) by simp]
  generalize u * n = z at *
  unfold wrap64; omega
set_option maxHeartbeats 4000000 in
set_option maxRecDepth 100000 in
theorem begin14 (a : Int) (k n : Nat) (hn : n = 2 ^ k) (hm : n ≤ 65536) (w : World) :
    Calls Tryd.prog 11 #[.int .i64 a, .int .i64 (n : Int)] w fun e w' => ∃ s : Nat, e = .returned (.int .i64 (s : Int)) ∧ Hid (n ∣ s ∧ s + n ≤ 65536) ∧ w' = w := by
  obtain ⟨c, hc⟩ : ∃ c, c = 65536 / n := ⟨_, rfl⟩
  obtain ⟨c0, c1, r, v, u, h1, h2, h3, h4, h5, h6⟩ := begin_nums14 (a := a) hn hm hc
  obtain ⟨n0, n1, d0, d1, hv, W1⟩ := begin_more hn c0 c1 h5 h6
  have td : (65536 : Int).tdiv (n : Int) = (c : Int) := by rw [Int.tdiv_eq_ediv_of_nonneg (by decide), hc]; rfl
  have HV : Hid (n ∣ u * n ∧ u * n + n ≤ 65536) := hv
  have W2 := wrap_c c1
  obtain ⟨s, hs⟩ : ∃ s, s = u * n := ⟨_, rfl⟩
  rw [← hs] at W1 HV
  clear hn hm hc c0 c1 h2 h5 h6 hv hs
  go_enter Tryd.func11, Tryd.ntmps11
  go_wp2
  go_ret
  exact ⟨s, by rw [← W1]; rfl, HV, rfl⟩
end Go.Proofs.YtemjodlhpelbaaaDoor
namespace Go.Proofs.YtemjodlhpelbaaaDoor
open Go.RowKit Gf2
set_option linter.unusedVariables false

-- layer 14: awake
def f2 (a b : Nat) (i : Nat) : Nat := if i = 0 then a else b
theorem lit2 (w : World) (a b : Nat) (ha : a < 65536) (hb : b < 65536) : R6 (w.alloc (.cells #[.int .u16 (a : Nat), .int .u16 (b : Nat)] 31)) w.heap.size 2 (f2 a b) := by
  refine ⟨by decide, fun i hi => ?_, _, heap_alloc_new _ _, rfl, fun i hi => ?_⟩
  · unfold f2
    split
    · exact ha
    · exact hb
  · match i, hi with
    | 0, _ => rfl
    | 1, _ => rfl
theorem aw_1 : ∀ i, i < 2 → fw 0 1 (f2 7 1) 1 i = f2 7 6 i := by decide +kernel
theorem aw_2 : ∀ i, i < 2 → iw 0 (f2 7 6) 1 i = f2 7 1 i := by decide +kernel
theorem aw_3 : ∀ i, i < 2 → fd 2 1 (f4 5 5 3 3) 2 i = f2 6 0 i := by decide +kernel
/-- awake's rows. -/
def m22 (i : Nat) : Nat → Nat := if i = 0 then f2 7 5 else f2 1 0
theorem aw_4 : ∀ x, x < 2 → cw 2 (fun f => fw 0 1 f 1) m22 0 x = f2 7 5 x := by decide +kernel
theorem aw_5 : ∀ x, x < 2 → cw 2 (fun f => fw 0 1 f 1) m22 1 x = f2 6 5 x := by decide +kernel
theorem lit4r (w : World) (a b c d : Nat) (ha : a < 65536) (hb : b < 65536) (hc : c < 65536) (hd : d < 65536) :
    Q6 (w.alloc (.cells #[.int .u16 (a : Nat), .int .u16 (b : Nat), .int .u16 (c : Nat), .int .u16 (d : Nat)] 31)) (.slice (some ⟨w.heap.size, 0, none⟩) 4 4) 4 (f4 a b c d) := lit4 w a b c d ha hb hc hd
/-- two rows of two words. -/
theorem rows22 (w : World) : Rw (((w.alloc (.cells #[.int .u16 ((7 : Nat) : Int), .int .u16 ((5 : Nat) : Int)] 31)).alloc (.cells #[.int .u16 ((1 : Nat) : Int), .int .u16 ((0 : Nat) : Int)] 31)).alloc (.cells #[.slice (some ⟨w.heap.size, 0, none⟩) 2 2, .slice (some ⟨w.heap.size + 1, 0, none⟩) 2 2] 22))
    (w.heap.size + 2) 0 2 2 (fun i => w.heap.size + i) (fun _ => 2) m22 := by
  have r1 := lit2 w 7 5 (by decide) (by decide)
  have r2 := lit2 (w.alloc (.cells #[.int .u16 ((7 : Nat) : Int), .int .u16 ((5 : Nat) : Int)] 31)) 1 0 (by decide) (by decide)
  have b2 := below_alloc (w.alloc (.cells #[.int .u16 ((7 : Nat) : Int), .int .u16 ((5 : Nat) : Int)] 31)) (.cells #[.int .u16 ((1 : Nat) : Int), .int .u16 ((0 : Nat) : Int)] 31)
  have b3 := below_alloc ((w.alloc (.cells #[.int .u16 ((7 : Nat) : Int), .int .u16 ((5 : Nat) : Int)] 31)).alloc (.cells #[.int .u16 ((1 : Nat) : Int), .int .u16 ((0 : Nat) : Int)] 31)) (.cells #[.slice (some ⟨w.heap.size, 0, none⟩) 2 2, .slice (some ⟨w.heap.size + 1, 0, none⟩) 2 2] 22)
  have hn := heap_alloc_new ((w.alloc (.cells #[.int .u16 ((7 : Nat) : Int), .int .u16 ((5 : Nat) : Int)] 31)).alloc (.cells #[.int .u16 ((1 : Nat) : Int), .int .u16 ((0 : Nat) : Int)] 31)) (.cells #[.slice (some ⟨w.heap.size, 0, none⟩) 2 2, .slice (some ⟨w.heap.size + 1, 0, none⟩) 2 2] 22)
  rw [show (w.alloc (.cells #[.int .u16 ((7 : Nat) : Int), .int .u16 ((5 : Nat) : Int)] 31)).heap.size = w.heap.size + 1 by simp] at r2
  rw [show ((w.alloc (.cells #[.int .u16 ((7 : Nat) : Int), .int .u16 ((5 : Nat) : Int)] 31)).alloc (.cells #[.int .u16 ((1 : Nat) : Int), .int .u16 ((0 : Nat) : Int)] 31)).heap.size = w.heap.size + 2 by simp] at hn
  refine ⟨fun i hi => ?_, fun i hi => ?_, fun _ _ => Nat.le_refl _, fun i j _ _ e => by omega, fun i hi => by omega, by simp⟩
  · rw [cell_of_row _ (w.heap.size + 2) (0 + i) _ _ _ hn]
    match i, hi with
    | 0, _ => rfl
    | 1, _ => rfl
  · match i, hi with
    | 0, _ => exact (r1.below b2).below b3
    | 1, _ => exact r2.below b3
theorem awake_a (w : World) (hC : Cab w) (hT : Tzt w) :
    Calls Tryd.prog 13 #[.slice (some ⟨w.heap.size, 0, none⟩) 2 2, .int .i64 0] (w.alloc (.cells #[.int .u16 7, .int .u16 1] 31)) fun e w1 => e = .returned (.tuple #[.slice (some ⟨w.heap.size + 1, 0, none⟩) 2 2, .int .i64 0]) ∧
    Calls Tryd.prog 12 #[.slice (some ⟨w1.heap.size, 0, none⟩) 2 2, .int .i64 0] (w1.alloc (.cells #[.int .u16 7, .int .u16 6] 31)) fun e w2 => e = .returned (.tuple #[.slice (some ⟨w1.heap.size + 1, 0, none⟩) 2 2, .int .i64 0]) ∧
    Calls Tryd.prog 21 #[.slice (some ⟨w2.heap.size, 0, none⟩) 4 4, .int .i64 2, .int .i64 2] (w2.alloc (.cells #[.int .u16 5, .int .u16 5, .int .u16 3, .int .u16 3] 31)) fun e w3 => ∃ g, e = .returned (.tuple #[.slice (some ⟨g, 0, none⟩) 2 2, .int .i64 0]) ∧
    Calls Tryd.prog 19 #[.slice (some ⟨w3.heap.size + 2, 0, none⟩) 2 2, .int .i64 0] (((w3.alloc (.cells #[.int .u16 7, .int .u16 5] 31)).alloc (.cells #[.int .u16 1, .int .u16 0] 31)).alloc (.cells #[.slice (some ⟨w3.heap.size, 0, none⟩) 2 2, .slice (some ⟨w3.heap.size + 1, 0, none⟩) 2 2] 22)) fun e w4 => e = .returned (.int .i64 0) ∧
    (w4.cell? ⟨w3.heap.size + 2, 0, none⟩ = some (.slice (some ⟨w3.heap.size, 0, none⟩) 2 2) ∧ w4.cell? ⟨w3.heap.size + 2, 1, none⟩ = some (.slice (some ⟨w3.heap.size + 1, 0, none⟩) 2 2)) ∧ w3.heap.size + 2 < w4.heap.size ∧
    Hid (Below w.heap.size w w4 ∧ Q6 w4 (.slice (some ⟨w.heap.size + 1, 0, none⟩) 2 2) 2 (f2 7 6) ∧ Q6 w4 (.slice (some ⟨w1.heap.size + 1, 0, none⟩) 2 2) 2 (f2 7 1) ∧ Q6 w4 (.slice (some ⟨g, 0, none⟩) 2 2) 2 (f2 6 0) ∧
      Q6 w4 (.slice (some ⟨w3.heap.size, 0, none⟩) 2 2) 2 (f2 7 5) ∧ Q6 w4 (.slice (some ⟨w3.heap.size + 1, 0, none⟩) 2 2) 2 (f2 6 5)) := by
  have hB := Bs.self hC hT
  have l1 := (lit2 w 7 1 (by decide) (by decide)).all
  have a1 := below_alloc w (.cells #[.int .u16 ((7 : Nat) : Int), .int .u16 ((1 : Nat) : Int)] 31)
  have c1 := fwd14 _ 1 2 0 (f2 7 1) w _ (hB.then a1) l1 (by decide) rfl ⟨0, rfl⟩ (by decide)
  rw [show (w.alloc (.cells #[.int .u16 ((7 : Nat) : Int), .int .u16 ((1 : Nat) : Int)] 31)).heap.size = w.heap.size + 1 by simp] at c1
  refine c1.mono fun e w1 ⟨he, r1, b1⟩ => ⟨he, ?_⟩
  have B1 := bthen13 a1 (by rw [show (w.alloc (.cells #[.int .u16 ((7 : Nat) : Int), .int .u16 ((1 : Nat) : Int)] 31)).heap.size = w.heap.size + 1 by simp]; exact b1)
  have l2 := (lit2 w1 7 6 (by decide) (by decide)).all
  have a2 := below_alloc w1 (.cells #[.int .u16 ((7 : Nat) : Int), .int .u16 ((6 : Nat) : Int)] 31)
  have c2 := inv14 _ 1 2 0 (f2 7 6) w _ ((hB.then B1).then a2) l2 (by decide) rfl ⟨0, rfl⟩ (by decide)
  rw [show (w1.alloc (.cells #[.int .u16 ((7 : Nat) : Int), .int .u16 ((6 : Nat) : Int)] 31)).heap.size = w1.heap.size + 1 by simp] at c2
  refine c2.mono fun e w2 ⟨he, r2, b2⟩ => ⟨he, ?_⟩
  have B2 := bthen13 a2 (by rw [show (w1.alloc (.cells #[.int .u16 ((7 : Nat) : Int), .int .u16 ((6 : Nat) : Int)] 31)).heap.size = w1.heap.size + 1 by simp]; exact b2)
  have l3 := lit4r w2 5 5 3 3 (by decide) (by decide) (by decide) (by decide)
  have a3 := below_alloc w2 (.cells #[.int .u16 ((5 : Nat) : Int), .int .u16 ((5 : Nat) : Int), .int .u16 ((3 : Nat) : Int), .int .u16 ((3 : Nat) : Int)] 31)
  have c3 := fold14 _ 1 2 2 2 4 (f4 5 5 3 3) w _ (((hB.then B1).then B2).then a3) l3 (by decide) rfl (by decide) rfl ⟨1, rfl⟩ (by decide)
  refine c3.mono fun e w3 ⟨g, he, hg, r3, b3⟩ => ⟨g, he, ?_⟩
  have B3 := bthen13 a3 b3
  have R := rows22 w3
  have a4 := below_alloc w3 (.cells #[.int .u16 ((7 : Nat) : Int), .int .u16 ((5 : Nat) : Int)] 31)
  have a5 := below_alloc (w3.alloc (.cells #[.int .u16 ((7 : Nat) : Int), .int .u16 ((5 : Nat) : Int)] 31)) (.cells #[.int .u16 ((1 : Nat) : Int), .int .u16 ((0 : Nat) : Int)] 31)
  have a6 := below_alloc ((w3.alloc (.cells #[.int .u16 ((7 : Nat) : Int), .int .u16 ((5 : Nat) : Int)] 31)).alloc (.cells #[.int .u16 ((1 : Nat) : Int), .int .u16 ((0 : Nat) : Int)] 31)) (.cells #[.slice (some ⟨w3.heap.size, 0, none⟩) 2 2, .slice (some ⟨w3.heap.size + 1, 0, none⟩) 2 2] 22)
  have B4 := bthen13 (bthen13 a4 a5) a6
  have B123 := bthen13 (bthen13 B1 B2) B3
  have hE : ∀ x, Eb (fun i => w3.heap.size + i) 2 x → w3.heap.size ≤ x := fun x ⟨i, _, e⟩ => by rw [e]; exact Nat.le_add_right _ _
  refine (fwr14 1 2 2 0 (w3.heap.size + 2) 0 2 _ _ _ w _ ((hB.then B123).then B4) (fun x hx => Nat.le_trans B123.size (hE x hx)) R (by decide) rfl ⟨0, rfl⟩ (by decide) (by decide)).mono fun e w4 ⟨he, R4, k4⟩ => ⟨he, ⟨R4.cell 0 (by decide), R4.cell 1 (by decide)⟩, R4.lt, ?_⟩
  have B5 : Below w3.heap.size w3 w4 := B4.trans (k4.below hE B4.size)
  refine ⟨bthen13 B123 B5, ((r1.all.congr aw_1).below (bthen13 B2 B3)).below B5, ((r2.all.congr aw_2).below B3).below B5, (r3.all.congr aw_3).below B5, ?_, ?_⟩
  · exact (R4.row 0 (by decide)).all.congr aw_4
  · exact (R4.row 1 (by decide)).all.congr aw_5
theorem alike_lit (w0 w : World) (v : Value) (a b : Nat) (x y : Int) (hx : x = (a : Nat)) (hy : y = (b : Nat)) (ha : a < 65536) (hb : b < 65536) (hB : Below w0.heap.size w0 w) (h : Q6 w v 2 (f2 a b)) :
    Calls Tryd.prog 14 #[v, .slice (some ⟨w.heap.size, 0, none⟩) 2 2] (w.alloc (.cells #[.int .u16 x, .int .u16 y] 31)) fun e w' => e = .returned (.bool true) ∧ Below w0.heap.size w0 w' ∧ Below w.heap.size w w' := by
  subst hx hy
  have a1 := below_alloc w (.cells #[.int .u16 (a : Nat), .int .u16 (b : Nat)] 31)
  refine (alike14 _ _ 2 (f2 a b) _ (h.below a1) (lit2 w a b ha hb).all).mono fun e w' ⟨he, m, hw⟩ => ⟨he, ?_, ?_⟩
  · rw [hw]; exact below_drewN (bthen13 hB a1) m
  · rw [hw]; exact below_drewN a1 m
set_option maxHeartbeats 8000000 in
set_option maxRecDepth 100000 in
theorem awake14 (w : World) (hC : Cab w) (hT : Tzt w) :
    Calls Tryd.prog 9 #[] w fun e w' => e = .returned (.bool true) ∧ Below w.heap.size w w' := by
  have c1 := awake_a w hC hT
  clear hC hT
  go_enter Tryd.func9, Tryd.ntmps9
  go_upto_region 8 with (first | (go_at_call 13; (with_reducible refine c1.mono ?_); rintro e w1 ⟨rfl, c2⟩) | (go_at_call 12; (with_reducible refine c2.mono ?_); rintro e w2 ⟨rfl, c3⟩) | (go_at_call 21; (with_reducible refine c3.mono ?_); rintro e w3 ⟨g, rfl, c4⟩) | (go_at_call 19; (with_reducible refine c4.mono ?_); rintro e w4 ⟨rfl, y4, lt4, HQ⟩))
  obtain ⟨B4, q1, q2, q3, q4, q5⟩ := HQ.out
  have d1 := alike_lit w w4 _ 7 6 7 6 rfl rfl (by decide) (by decide) B4 q1
  obtain ⟨y1, y2⟩ := y4
  have HY : Hid (w4.cell? ⟨w3.heap.size + 2, 0, none⟩ = some (.slice (some ⟨w3.heap.size, 0, none⟩) 2 2) ∧ w4.cell? ⟨w3.heap.size + 2, 1, none⟩ = some (.slice (some ⟨w3.heap.size + 1, 0, none⟩) 2 2) ∧ w3.heap.size + 2 < w4.heap.size) := ⟨y1, y2, lt4⟩
  clear c1 c2 c3 c4 B4 q1 y1 y2 lt4 q2 q3 q4 q5
  go_wp2_with (go_at_call 14; first
    | ((with_reducible refine d1.mono ?_); rintro e w5 ⟨rfl, B5, b5⟩; have d2 := alike_lit w w5 _ 7 1 7 1 rfl rfl (by decide) (by decide) B5 (HQ.out.2.2.1.below b5))
    | ((with_reducible refine d2.mono ?_); rintro e w6 ⟨rfl, B6, b6⟩; have d3 := alike_lit w w6 _ 6 0 6 0 rfl rfl (by decide) (by decide) B6 ((HQ.out.2.2.2.1.below b5).below b6))
    | ((with_reducible refine d3.mono ?_); rintro e w7 ⟨rfl, B7, b7⟩; have d4 := alike_lit w w7 _ 7 5 7 5 rfl rfl (by decide) (by decide) B7 (((HQ.out.2.2.2.2.1.below b5).below b6).below b7); have b57 := bthen13 (bthen13 b5 b6) b7; have y1 := (b57.cell (p := ⟨w3.heap.size + 2, 0, none⟩) HY.out.2.2).trans HY.out.1)
    | ((with_reducible refine d4.mono ?_); rintro e w8 ⟨rfl, B8, b8⟩; have d5 := alike_lit w w8 _ 6 5 6 5 rfl rfl (by decide) (by decide) B8 ((HQ.out.2.2.2.2.2.below b57).below b8); have y2 := ((bthen13 b57 b8).cell (p := ⟨w3.heap.size + 2, 1, none⟩) HY.out.2.2).trans HY.out.2.1)
    | ((with_reducible refine d5.mono ?_); rintro e w9 ⟨rfl, B9, b9⟩))
  go_ret
  exact ⟨rfl, B9⟩
end Go.Proofs.YtemjodlhpelbaaaDoor
