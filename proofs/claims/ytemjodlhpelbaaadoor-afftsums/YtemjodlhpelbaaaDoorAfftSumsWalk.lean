import Derived.Test.YtemjodlhpelbaaaDoorAfftBackWalk
namespace Go.Proofs.YtemjodlhpelbaaaDoor
open Go.RowKit Gf2
set_option linter.unusedVariables false

-- laid by wip/genasw.py
/-- cut, of any list: how many words. -/
theorem cutlen14 (a0 : Option Addr) (n cap most : Nat) (F : Nat → Nat) (w0 w : World) (h : Q6 w0 (.slice a0 n cap) n F) (hm0 : 0 < most) (hm : most ≤ 65536) :
    Calls Tryd.prog 10 #[.slice a0 n cap, .int .i64 (most : Int)] w fun e w' => ∃ (k c : Nat) (x : Option Addr) (y : Nat), e = .returned (.slice x c y) ∧ Hid ((n = 0 ∧ c = 0) ∨ (c = 2 ^ k ∧ c ≤ n ∧ c ≤ most)) ∧ w' = w := by
  by_cases h0 : n = 0
  · subst h0
    exact (cut14_none a0 cap most w).mono fun e w' ⟨he, hw⟩ => ⟨0, 0, a0, cap, he, .inl ⟨rfl, rfl⟩, hw⟩
  · obtain ⟨b, o, rfl, hcap⟩ : ∃ b o, a0 = some ⟨b, o, none⟩ ∧ n ≤ cap := by
      obtain ⟨-, -, a, cap', e, h5, -, h4⟩ := h
      cases e
      obtain ⟨b, o, e, -⟩ := h4 (by omega)
      exact ⟨b, o, e, h5⟩
    exact (cut14 b o n cap most (by omega) hcap hm0 hm w).mono fun e w' ⟨k, c, he, hk, hw⟩ => ⟨k, c, _, _, he, .inr hk.out, hw⟩
/-- a list that has words lies somewhere. -/
theorem Q6.lies {w : World} {a0 : Option Addr} {n cap : Nat} {F : Nat → Nat} (h : Q6 w (.slice a0 n cap) n F) (h0 : 0 < n) : ∃ b o, a0 = some ⟨b, o, none⟩ ∧ n ≤ cap ∧ b < w.heap.size ∧ ∀ i, i < n → w.cell? ⟨b, o + i, none⟩ = some (.int .u16 (F i : Nat)) := by
  obtain ⟨-, -, a, cap', e, h5, -, h4⟩ := h
  cases e
  obtain ⟨b, o, e, hl, hc⟩ := h4 h0
  exact ⟨b, o, e, h5, hl, hc⟩
theorem sum_wraps {i N : Nat} (h : i < N) (hN : N ≤ 4096) : ((i : Nat) : Int) < (N : Int) ∧ wrap64 ((i : Int) + 1) = (i : Int) + 1 := by
  constructor
  · omega
  · unfold wrap64; omega
theorem sums_last (b1 o1 n cap1 b2 o2 m cap2 gz s k N c : Nat) (F G : Nat → Nat) (w0 w : World) (hB : Bs w0 w) (h1 : Q6 w (.slice (some ⟨b1, o1, none⟩) N cap1) N F) (h2 : Q6 w (.slice (some ⟨b2, o2, none⟩) N cap2) N G) (hz : R6 w gz N (fun j => F j ^^^ fm 65581 c (G j))) (hk : N = 2 ^ k) (hN : N ≤ 4096) (hd : N ∣ s) (hs : s + N ≤ 65536) :
    Calls Tryd.prog 13 #[.slice (some ⟨b1, o1, none⟩) N cap1, .int .i64 (s : Int)] w fun e w1 => e = .returned (.tuple #[.slice (some ⟨w.heap.size, 0, none⟩) N N, .int .i64 0]) ∧
    Calls Tryd.prog 13 #[.slice (some ⟨b2, o2, none⟩) N cap2, .int .i64 (s : Int)] w1 fun e w2 => e = .returned (.tuple #[.slice (some ⟨w1.heap.size, 0, none⟩) N N, .int .i64 0]) ∧
    Calls Tryd.prog 13 #[.slice (some ⟨gz, 0, none⟩) N N, .int .i64 (s : Int)] w2 fun e w3 => e = .returned (.tuple #[.slice (some ⟨w2.heap.size, 0, none⟩) N N, .int .i64 0]) ∧
      Hid (R6 w3 w.heap.size N (fw s k F k) ∧ R6 w3 w1.heap.size N (fw s k G k) ∧ R6 w3 w2.heap.size N (fun j => fw s k F k j ^^^ fm 65581 c (fw s k G k j)) ∧ Below w.heap.size w w3) := by
  have hk16 := pow16 hk (by omega)
  refine (fwd14 _ k N s F w0 w hB h1 hk16 hk hd hs).mono fun e w1 ⟨he, r1, b1⟩ => ⟨he, ?_⟩
  refine (fwd14 _ k N s G w0 w1 (hB.then b1) (h2.below b1) hk16 hk hd hs).mono fun e w2 ⟨he, r2, b2⟩ => ⟨he, ?_⟩
  refine (fwd14 _ k N s _ w0 w2 ((hB.then b1).then b2) ((hz.all.below b1).below b2) hk16 hk hd hs).mono fun e w3 ⟨he, r3, b3⟩ => ⟨he, ?_⟩
  refine ⟨(r1.below b2).below b3, r2.below b3, ?_, bthen13 (bthen13 b1 b2) b3⟩
  rw [fw_lin] at r3
  exact r3
set_option maxHeartbeats 8000000 in
set_option maxRecDepth 100000 in
theorem afftSums_less (a0 : Option Addr) (n cap : Nat) (a1 : Option Addr) (m cap1 c : Nat) (a : Int) (F G : Nat → Nat) (w : World) (h : Q6 w (.slice a0 n cap) n F) (h' : Q6 w (.slice a1 m cap1) m G) (hc : c < 65536) (hmn : m < n) (hC : Cab w) (hT : Tzt w) :
    Calls Tryd.prog 4 #[.slice a0 n cap, .slice a1 m cap1, .int .u16 (c : Int), .int .i64 a] w fun e w' => e = .returned (.bool true) ∧ Below w.heap.size w w' := by
  have k1 : Calls Tryd.prog 9 #[] w fun e w1 => e = .returned (.bool true) ∧
      Calls Tryd.prog 10 #[.slice a0 n cap, .int .i64 4096] w1 fun e w2 => ∃ (c : Nat) (x : Option Addr) (y : Nat), e = .returned (.slice x c y) ∧
      Calls Tryd.prog 10 #[.slice a1 m cap1, .int .i64 4096] w2 fun e w3 => ∃ (k c : Nat) (x : Option Addr) (y : Nat), e = .returned (.slice x c y) ∧ Hid ((m = 0 ∧ c = 0) ∨ (c = 2 ^ k ∧ c ≤ m ∧ c ≤ 4096)) ∧ Hid (Below w.heap.size w w3) := by
    refine (awake14 w hC hT).mono fun e w1 ⟨he, b1⟩ => ⟨he, ?_⟩
    refine (cutlen14 a0 n cap 4096 F w w1 h (by decide) (by decide)).mono fun e w2 ⟨k, c, x, y, he, hk, hw⟩ => ⟨c, x, y, he, ?_⟩
    subst hw
    exact (cutlen14 a1 m cap1 4096 G w w2 h' (by decide) (by decide)).mono fun e w3 ⟨k, c, x, y, he, hk, hw⟩ => ⟨k, c, x, y, he, hk, by subst hw; exact b1⟩
  have HQ : Hid (Q6 w (.slice a0 n cap) n F ∧ Q6 w (.slice a1 m cap1) m G ∧ c < 65536 ∧ Cab w ∧ Tzt w ∧ (m < n)) := ⟨h, h', hc, hC, hT, hmn⟩
  have tmn : (m : Int) < (n : Int) := by omega
  clear h h' hC hT hmn
  go_enter Tryd.func4, Tryd.ntmps4
  go_upto_region 6 with (first | (go_at_call 9; (with_reducible refine k1.mono ?_); rintro e w1 ⟨rfl, k2⟩) | (go_at_call 10; first | ((with_reducible refine k2.mono ?_); rintro e w2 ⟨cx, x0, yy0, rfl, k2y⟩) | ((with_reducible refine k2y.mono ?_); rintro e w3x ⟨k, N, x1, yy1, rfl, hN, HB⟩)))
  have HN : Hid (N = 0 ∨ (N = 2 ^ k ∧ N ≤ n ∧ N ≤ m ∧ N ≤ 4096)) := by
    have h2 := HQ.out.2.2.2.2.2
    rcases hN.out with ⟨h3, h4⟩ | ⟨h3, h4, h5⟩
    · exact .inl h4
    · exact .inr ⟨h3, by omega, by omega, h5⟩
  clear hN
  by_cases hN0 : N = 0
  · subst hN0
    go_wp2
    go_ret
    exact ⟨rfl, HB.out⟩
  · have HK := HN.out.resolve_left hN0
    replace HN : Hid (0 < N ∧ N = 2 ^ k ∧ N ≤ n ∧ N ≤ m ∧ N ≤ 4096) := ⟨by omega, HK⟩
    have z0 : ((N : Int) == 0) = false := by simp; omega
    have z1 : (N : Int) ≠ 0 := by omega
    obtain ⟨b1, o1, rfl, hc1, l1, q1⟩ := HQ.out.1.lies (by omega)
    obtain ⟨b2, o2, rfl, hc2, l2, q2⟩ := HQ.out.2.1.lies (by omega)
    have k3 := begin14 a k N HK.1 (by omega) w3x
    have hmk := make_w6 N (by omega)
    have HL : Hid (n ≤ cap ∧ b1 < w.heap.size ∧ (∀ i, i < n → w.cell? ⟨b1, o1 + i, none⟩ = some (.int .u16 (F i : Nat))) ∧ m ≤ cap1 ∧ b2 < w.heap.size ∧ (∀ i, i < m → w.cell? ⟨b2, o2 + i, none⟩ = some (.int .u16 (G i : Nat)))) := ⟨hc1, l1, q1, hc2, l2, q2⟩
    clear HK hc1 l1 q1 hc2 l2 q2 hN0 k1 k2 k2y
    go_wp2_with (go_at_call 11; (with_reducible refine k3.mono ?_); rintro e w3 ⟨s, rfl, hs, hw3⟩; have hw3 := hw3.symm; subst hw3)
    clear k3 hmk
    obtain ⟨gz, hgz⟩ : ∃ gz, gz = w3x.heap.size := ⟨_, rfl⟩
    rw [← hgz]
    obtain ⟨W5, hW5⟩ : ∃ W5, W5 = w3x.alloc (.cells (madeCells #[.int .u16 0] N) 31) := ⟨_, rfl⟩
    rw [← hW5]
    have HZ : Hid (R6 W5 gz N (fun _ => 0) ∧ Below w.heap.size w W5 ∧ w.heap.size ≤ gz) := by
      rw [hW5, hgz]
      exact ⟨made_r6 N (by have := HN.out.2.2.2.2; omega) _, bthen13 HB.out (made_b6 N _), HB.out.size⟩
    clear hgz hW5
    go_loopw [12] (fun iv wr => ∃ i : Nat, i ≤ N ∧ iv = .int .i64 i ∧ R6 wr gz N (pl (fun _ => 0) 0 i (fun j => F j ^^^ fm 65581 c (G j))) ∧ Kp gz W5 wr) (fun iv _ => N - (intOf iv).toNat)
    case atStart => exact ⟨0, Nat.zero_le _, rfl, by rw [pl_none]; exact HZ.out.1, Kp.refl _ _⟩
    case round =>
      obtain ⟨i, hi, rfl, hr, hk⟩ := hrel
      have bw : Below w.heap.size w wr := HZ.out.2.1.trans (hk.below HZ.out.2.2 HZ.out.2.1.size)
      by_cases hlt : i < N
      · obtain ⟨p1, p2, p3, p4, p5, p6⟩ := HL.out
        obtain ⟨n0, n1, n2, n3, n4⟩ := HN.out
        obtain ⟨s1, s2, s3, -⟩ := HQ.out
        have y1 := (bw.cell (p := ⟨b1, o1 + i, none⟩) p2).trans (p3 i (by omega))
        have y2 := (bw.cell (p := ⟨b2, o2 + i, none⟩) p5).trans (p6 i (by omega))
        have y3 := hr.2.2.cell (i := i) hlt
        have y4 := hr.2.2.frozen i
        have l1 := s1.2.1 i (by omega)
        have l2 := s2.2.1 i (by omega)
        have c1 := fun W => hmul_nat c (G i) W s3 l2
        have l3 := fm16_lt c (G i)
        have X := u16_xor_nat (F i) (fm 65581 c (G i)) l1 l3
        have lx := Nat.xor_lt_two_pow (n := 16) l1 l3
        obtain ⟨tb, W1⟩ := sum_wraps hlt n4
        have ib1 : ((i : Nat) : Int) < (n : Int) := Int.ofNat_lt.2 (Nat.lt_of_lt_of_le hlt n2)
        have ib2 : ((i : Nat) : Int) < (m : Int) := Int.ofNat_lt.2 (Nat.lt_of_lt_of_le hlt n3)
        have HV : Hid (R6 (wr.setCell ⟨gz, i, none⟩ (.int .u16 ((F i ^^^ fm 65581 c (G i) : Nat) : Int))) gz N (pl (fun _ => 0) 0 (i + 1) (fun j => F j ^^^ fm 65581 c (G j))) ∧ Kp gz W5 (wr.setCell ⟨gz, i, none⟩ (.int .u16 ((F i ^^^ fm 65581 c (G i) : Nat) : Int)))) :=
          ⟨(hr.set _ _ lx).congr (fun x hx => by
            have := congrFun (pl_next (F := fun _ => 0) (S := fun j => F j ^^^ fm 65581 c (G j)) (o := 0) (t := i)) x
            rw [Nat.zero_add] at this
            exact this), hk.setCell _ _⟩
        obtain ⟨D, hD⟩ : ∃ D, D = F i := ⟨_, rfl⟩
        obtain ⟨E, hE⟩ : ∃ E, E = G i := ⟨_, rfl⟩
        obtain ⟨Y, hY⟩ : ∃ Y, Y = fm 65581 c (G i) := ⟨_, rfl⟩
        rw [← hD, ← hY] at X HV
        rw [← hD] at y1
        rw [← hE] at y2 hY
        rw [← hE] at c1
        rw [← hY] at c1
        clear hr hk bw n0 n1 n2 n3 n4 s1 s2 s3 p1 p2 p3 p4 p5 p6 l1 l2 l3 lx hD hE hY
        go_wp2
        refine region_tail13 14 (by kernel_rfl) (by kernel_rfl) ?_
        simp only [List.take_succ_cons, List.take_zero, List.drop_succ_cons, List.drop_zero]
        repeat still_step
        still_call (c1 _)
        repeat still_step
        refine wpStill_nil ?_
        go_wp2
        go_roundw
        case rel => exact ⟨i + 1, hlt, by first | rfl | (rw [W1]; rfl), HV.out.1.drew, HV.out.2.drew⟩
        case measure => first | exact meas_lt8 hlt | (rw [W1]; exact meas_lt8 hlt)
      · obtain rfl : i = N := Nat.le_antisymm hi (Nat.le_of_not_lt hlt)
        obtain ⟨p1, p2, p3, p4, p5, p6⟩ := HL.out
        obtain ⟨n0, n1, n2, n3, n4⟩ := HN.out
        obtain ⟨s1, s2, s3, s4, s5, -⟩ := HQ.out
        have hh1 := head6 b1 o1 n cap i (by omega)
        have hh2 := head6 b2 o2 m cap1 i (by omega)
        have k5 := sums_last b1 o1 n cap b2 o2 m cap1 gz s k i c F G w wr ((Bs.self s4 s5).then bw) ((s1.head (by omega) n2).below bw) ((s2.head (by omega) n3).below bw) (hr.congr (fun j hj => by rw [pl0, if_pos hj])) n1 n4 hs.out.1 hs.out.2
        have HW : Hid (Below w.heap.size w wr) := bw
        have tb : ¬ ((i : Nat) : Int) < (i : Int) := by omega
        clear hr hk bw n0 n1 n2 n3 n4 s1 s2 s3 s4 s5 p1 p2 p3 p4 p5 p6
        go_wp2_with (go_at_call 13; first | ((with_reducible refine k5.mono ?_); rintro e w6 ⟨rfl, k6⟩) | ((with_reducible refine k6.mono ?_); rintro e w7 ⟨rfl, k7⟩) | ((with_reducible refine k7.mono ?_); rintro e w8 ⟨rfl, HF⟩))
        clear k5 k6 k7 hh1 hh2
        obtain ⟨g1, hg1⟩ : ∃ g1, g1 = wr.heap.size := ⟨_, rfl⟩
        obtain ⟨g2, hg2⟩ : ∃ g2, g2 = w6.heap.size := ⟨_, rfl⟩
        obtain ⟨g3, hg3⟩ : ∃ g3, g3 = w7.heap.size := ⟨_, rfl⟩
        replace HF : Hid (R6 w8 g1 i (fw s k F k) ∧ R6 w8 g2 i (fw s k G k) ∧ R6 w8 g3 i (fun j => fw s k F k j ^^^ fm 65581 c (fw s k G k j)) ∧ Below w.heap.size w w8) := by
          obtain ⟨f1, f2, f3, f4⟩ := HF.out
          rw [hg1, hg2, hg3]
          exact ⟨f1, f2, f3, bthen13 HW.out f4⟩
        rw [← hg1, ← hg2, ← hg3]
        clear hg1 hg2 hg3
        go_loopw [19] (fun jv wq => ∃ j d : Nat, j ≤ i ∧ jv = .int .i64 j ∧ wq = w8.drewN d) (fun jv _ => i - (intOf jv).toNat)
        case atStart => exact ⟨0, 0, Nat.zero_le _, rfl, rfl⟩
        case round =>
          rename_i hrel
          obtain ⟨j, d, hj, rfl, hw⟩ := hrel
          by_cases hlj : j < i
          · obtain ⟨f1, f2, f3, f4⟩ := HF.out
            have x1 : wr.cell? ⟨g1, j, none⟩ = some (.int .u16 (fw s k F k j : Nat)) := by rw [hw]; exact f1.2.2.cell (i := j) hlj
            have x2 : wr.cell? ⟨g2, j, none⟩ = some (.int .u16 (fw s k G k j : Nat)) := by rw [hw]; exact f2.2.2.cell (i := j) hlj
            have x3 : wr.cell? ⟨g3, j, none⟩ = some (.int .u16 ((fw s k F k j ^^^ fm 65581 c (fw s k G k j) : Nat) : Int)) := by rw [hw]; exact f3.2.2.cell (i := j) hlj
            have m1 := f1.2.1 j hlj
            have m2 := f2.2.1 j hlj
            have c1 := fun W => hmul_nat c (fw s k G k j) W HQ.out.2.2.1 m2
            have X := u16_xor_nat (fw s k F k j) (fm 65581 c (fw s k G k j)) m1 (fm16_lt _ _)
            obtain ⟨tb2, W1⟩ := sum_wraps hlj HN.out.2.2.2.2
            obtain ⟨D, hD⟩ : ∃ D, D = fw s k F k j := ⟨_, rfl⟩
            obtain ⟨E, hE⟩ : ∃ E, E = fw s k G k j := ⟨_, rfl⟩
            rw [← hE] at c1
            rw [← hD, ← hE] at X x3
            rw [← hD] at x1
            rw [← hE] at x2
            obtain ⟨Y, hY⟩ : ∃ Y, Y = fm 65581 c E := ⟨_, rfl⟩
            rw [← hY] at c1
            rw [← hY] at X x3
            have HX : Hid (wr = w8.drewN d) := hw
            clear f1 f2 f3 f4 m1 m2 hD hE hY hw
            go_wp2
            go_quiet (first | (go_at_call 15; with_reducible exact Calls.quiet_of_same (c1 _)))
            go_wp2
            go_roundw
            case rel => exact ⟨j + 1, d + nq, hlj, by first | rfl | (rw [W1]; rfl), by rw [HX.out, World.drewN_drewN]⟩
            case measure => first | exact meas_lt8 hlj | (rw [W1]; exact meas_lt8 hlj)
          · have tb2 : ¬ ((j : Nat) : Int) < (i : Int) := by omega
            have HX : Hid (wr = w8.drewN d) := hw
            clear hw
            go_wp2
            go_ret
            exact ⟨rfl, by rw [HX.out]; exact below_drewN HF.out.2.2.2 d⟩
set_option maxHeartbeats 8000000 in
set_option maxRecDepth 100000 in
theorem afftSums_more (a0 : Option Addr) (n cap : Nat) (a1 : Option Addr) (m cap1 c : Nat) (a : Int) (F G : Nat → Nat) (w : World) (h : Q6 w (.slice a0 n cap) n F) (h' : Q6 w (.slice a1 m cap1) m G) (hc : c < 65536) (hmn : ¬ m < n) (hC : Cab w) (hT : Tzt w) :
    Calls Tryd.prog 4 #[.slice a0 n cap, .slice a1 m cap1, .int .u16 (c : Int), .int .i64 a] w fun e w' => e = .returned (.bool true) ∧ Below w.heap.size w w' := by
  have k1 : Calls Tryd.prog 9 #[] w fun e w1 => e = .returned (.bool true) ∧
      Calls Tryd.prog 10 #[.slice a0 n cap, .int .i64 4096] w1 fun e w2 => ∃ (k c : Nat) (x : Option Addr) (y : Nat), e = .returned (.slice x c y) ∧ Hid ((n = 0 ∧ c = 0) ∨ (c = 2 ^ k ∧ c ≤ n ∧ c ≤ 4096)) ∧ Hid (Below w.heap.size w w2) := by
    refine (awake14 w hC hT).mono fun e w1 ⟨he, b1⟩ => ⟨he, ?_⟩
    exact (cutlen14 a0 n cap 4096 F w w1 h (by decide) (by decide)).mono fun e w2 ⟨k, c, x, y, he, hk, hw⟩ => ⟨k, c, x, y, he, hk, by subst hw; exact b1⟩
  have HQ : Hid (Q6 w (.slice a0 n cap) n F ∧ Q6 w (.slice a1 m cap1) m G ∧ c < 65536 ∧ Cab w ∧ Tzt w ∧ (¬ m < n)) := ⟨h, h', hc, hC, hT, hmn⟩
  have tmn : ¬ (m : Int) < (n : Int) := by omega
  clear h h' hC hT hmn
  go_enter Tryd.func4, Tryd.ntmps4
  go_upto_region 6 with (first | (go_at_call 9; (with_reducible refine k1.mono ?_); rintro e w1 ⟨rfl, k2⟩) | (go_at_call 10; (with_reducible refine k2.mono ?_); rintro e w2 ⟨k, N, x0, yy0, rfl, hN, HB⟩))
  have HN : Hid (N = 0 ∨ (N = 2 ^ k ∧ N ≤ n ∧ N ≤ m ∧ N ≤ 4096)) := by
    have h2 := HQ.out.2.2.2.2.2
    rcases hN.out with ⟨h3, h4⟩ | ⟨h3, h4, h5⟩
    · exact .inl h4
    · exact .inr ⟨h3, by omega, by omega, h5⟩
  clear hN
  by_cases hN0 : N = 0
  · subst hN0
    go_wp2
    go_ret
    exact ⟨rfl, HB.out⟩
  · have HK := HN.out.resolve_left hN0
    replace HN : Hid (0 < N ∧ N = 2 ^ k ∧ N ≤ n ∧ N ≤ m ∧ N ≤ 4096) := ⟨by omega, HK⟩
    have z0 : ((N : Int) == 0) = false := by simp; omega
    have z1 : (N : Int) ≠ 0 := by omega
    obtain ⟨b1, o1, rfl, hc1, l1, q1⟩ := HQ.out.1.lies (by omega)
    obtain ⟨b2, o2, rfl, hc2, l2, q2⟩ := HQ.out.2.1.lies (by omega)
    have k3 := begin14 a k N HK.1 (by omega) w2
    have hmk := make_w6 N (by omega)
    have HL : Hid (n ≤ cap ∧ b1 < w.heap.size ∧ (∀ i, i < n → w.cell? ⟨b1, o1 + i, none⟩ = some (.int .u16 (F i : Nat))) ∧ m ≤ cap1 ∧ b2 < w.heap.size ∧ (∀ i, i < m → w.cell? ⟨b2, o2 + i, none⟩ = some (.int .u16 (G i : Nat)))) := ⟨hc1, l1, q1, hc2, l2, q2⟩
    clear HK hc1 l1 q1 hc2 l2 q2 hN0 k1 k2
    go_wp2_with (go_at_call 11; (with_reducible refine k3.mono ?_); rintro e w3 ⟨s, rfl, hs, hw3⟩; have hw3 := hw3.symm; subst hw3)
    clear k3 hmk
    obtain ⟨gz, hgz⟩ : ∃ gz, gz = w2.heap.size := ⟨_, rfl⟩
    rw [← hgz]
    obtain ⟨W5, hW5⟩ : ∃ W5, W5 = w2.alloc (.cells (madeCells #[.int .u16 0] N) 31) := ⟨_, rfl⟩
    rw [← hW5]
    have HZ : Hid (R6 W5 gz N (fun _ => 0) ∧ Below w.heap.size w W5 ∧ w.heap.size ≤ gz) := by
      rw [hW5, hgz]
      exact ⟨made_r6 N (by have := HN.out.2.2.2.2; omega) _, bthen13 HB.out (made_b6 N _), HB.out.size⟩
    clear hgz hW5
    go_loopw [12] (fun iv wr => ∃ i : Nat, i ≤ N ∧ iv = .int .i64 i ∧ R6 wr gz N (pl (fun _ => 0) 0 i (fun j => F j ^^^ fm 65581 c (G j))) ∧ Kp gz W5 wr) (fun iv _ => N - (intOf iv).toNat)
    case atStart => exact ⟨0, Nat.zero_le _, rfl, by rw [pl_none]; exact HZ.out.1, Kp.refl _ _⟩
    case round =>
      obtain ⟨i, hi, rfl, hr, hk⟩ := hrel
      have bw : Below w.heap.size w wr := HZ.out.2.1.trans (hk.below HZ.out.2.2 HZ.out.2.1.size)
      by_cases hlt : i < N
      · obtain ⟨p1, p2, p3, p4, p5, p6⟩ := HL.out
        obtain ⟨n0, n1, n2, n3, n4⟩ := HN.out
        obtain ⟨s1, s2, s3, -⟩ := HQ.out
        have y1 := (bw.cell (p := ⟨b1, o1 + i, none⟩) p2).trans (p3 i (by omega))
        have y2 := (bw.cell (p := ⟨b2, o2 + i, none⟩) p5).trans (p6 i (by omega))
        have y3 := hr.2.2.cell (i := i) hlt
        have y4 := hr.2.2.frozen i
        have l1 := s1.2.1 i (by omega)
        have l2 := s2.2.1 i (by omega)
        have c1 := fun W => hmul_nat c (G i) W s3 l2
        have l3 := fm16_lt c (G i)
        have X := u16_xor_nat (F i) (fm 65581 c (G i)) l1 l3
        have lx := Nat.xor_lt_two_pow (n := 16) l1 l3
        obtain ⟨tb, W1⟩ := sum_wraps hlt n4
        have ib1 : ((i : Nat) : Int) < (n : Int) := Int.ofNat_lt.2 (Nat.lt_of_lt_of_le hlt n2)
        have ib2 : ((i : Nat) : Int) < (m : Int) := Int.ofNat_lt.2 (Nat.lt_of_lt_of_le hlt n3)
        have HV : Hid (R6 (wr.setCell ⟨gz, i, none⟩ (.int .u16 ((F i ^^^ fm 65581 c (G i) : Nat) : Int))) gz N (pl (fun _ => 0) 0 (i + 1) (fun j => F j ^^^ fm 65581 c (G j))) ∧ Kp gz W5 (wr.setCell ⟨gz, i, none⟩ (.int .u16 ((F i ^^^ fm 65581 c (G i) : Nat) : Int)))) :=
          ⟨(hr.set _ _ lx).congr (fun x hx => by
            have := congrFun (pl_next (F := fun _ => 0) (S := fun j => F j ^^^ fm 65581 c (G j)) (o := 0) (t := i)) x
            rw [Nat.zero_add] at this
            exact this), hk.setCell _ _⟩
        obtain ⟨D, hD⟩ : ∃ D, D = F i := ⟨_, rfl⟩
        obtain ⟨E, hE⟩ : ∃ E, E = G i := ⟨_, rfl⟩
        obtain ⟨Y, hY⟩ : ∃ Y, Y = fm 65581 c (G i) := ⟨_, rfl⟩
        rw [← hD, ← hY] at X HV
        rw [← hD] at y1
        rw [← hE] at y2 hY
        rw [← hE] at c1
        rw [← hY] at c1
        clear hr hk bw n0 n1 n2 n3 n4 s1 s2 s3 p1 p2 p3 p4 p5 p6 l1 l2 l3 lx hD hE hY
        go_wp2
        refine region_tail13 14 (by kernel_rfl) (by kernel_rfl) ?_
        simp only [List.take_succ_cons, List.take_zero, List.drop_succ_cons, List.drop_zero]
        repeat still_step
        still_call (c1 _)
        repeat still_step
        refine wpStill_nil ?_
        go_wp2
        go_roundw
        case rel => exact ⟨i + 1, hlt, by first | rfl | (rw [W1]; rfl), HV.out.1.drew, HV.out.2.drew⟩
        case measure => first | exact meas_lt8 hlt | (rw [W1]; exact meas_lt8 hlt)
      · obtain rfl : i = N := Nat.le_antisymm hi (Nat.le_of_not_lt hlt)
        obtain ⟨p1, p2, p3, p4, p5, p6⟩ := HL.out
        obtain ⟨n0, n1, n2, n3, n4⟩ := HN.out
        obtain ⟨s1, s2, s3, s4, s5, -⟩ := HQ.out
        have hh1 := head6 b1 o1 n cap i (by omega)
        have hh2 := head6 b2 o2 m cap1 i (by omega)
        have k5 := sums_last b1 o1 n cap b2 o2 m cap1 gz s k i c F G w wr ((Bs.self s4 s5).then bw) ((s1.head (by omega) n2).below bw) ((s2.head (by omega) n3).below bw) (hr.congr (fun j hj => by rw [pl0, if_pos hj])) n1 n4 hs.out.1 hs.out.2
        have HW : Hid (Below w.heap.size w wr) := bw
        have tb : ¬ ((i : Nat) : Int) < (i : Int) := by omega
        clear hr hk bw n0 n1 n2 n3 n4 s1 s2 s3 s4 s5 p1 p2 p3 p4 p5 p6
        go_wp2_with (go_at_call 13; first | ((with_reducible refine k5.mono ?_); rintro e w6 ⟨rfl, k6⟩) | ((with_reducible refine k6.mono ?_); rintro e w7 ⟨rfl, k7⟩) | ((with_reducible refine k7.mono ?_); rintro e w8 ⟨rfl, HF⟩))
        clear k5 k6 k7 hh1 hh2
        obtain ⟨g1, hg1⟩ : ∃ g1, g1 = wr.heap.size := ⟨_, rfl⟩
        obtain ⟨g2, hg2⟩ : ∃ g2, g2 = w6.heap.size := ⟨_, rfl⟩
        obtain ⟨g3, hg3⟩ : ∃ g3, g3 = w7.heap.size := ⟨_, rfl⟩
        replace HF : Hid (R6 w8 g1 i (fw s k F k) ∧ R6 w8 g2 i (fw s k G k) ∧ R6 w8 g3 i (fun j => fw s k F k j ^^^ fm 65581 c (fw s k G k j)) ∧ Below w.heap.size w w8) := by
          obtain ⟨f1, f2, f3, f4⟩ := HF.out
          rw [hg1, hg2, hg3]
          exact ⟨f1, f2, f3, bthen13 HW.out f4⟩
        rw [← hg1, ← hg2, ← hg3]
        clear hg1 hg2 hg3
        go_loopw [19] (fun jv wq => ∃ j d : Nat, j ≤ i ∧ jv = .int .i64 j ∧ wq = w8.drewN d) (fun jv _ => i - (intOf jv).toNat)
        case atStart => exact ⟨0, 0, Nat.zero_le _, rfl, rfl⟩
        case round =>
          rename_i hrel
          obtain ⟨j, d, hj, rfl, hw⟩ := hrel
          by_cases hlj : j < i
          · obtain ⟨f1, f2, f3, f4⟩ := HF.out
            have x1 : wr.cell? ⟨g1, j, none⟩ = some (.int .u16 (fw s k F k j : Nat)) := by rw [hw]; exact f1.2.2.cell (i := j) hlj
            have x2 : wr.cell? ⟨g2, j, none⟩ = some (.int .u16 (fw s k G k j : Nat)) := by rw [hw]; exact f2.2.2.cell (i := j) hlj
            have x3 : wr.cell? ⟨g3, j, none⟩ = some (.int .u16 ((fw s k F k j ^^^ fm 65581 c (fw s k G k j) : Nat) : Int)) := by rw [hw]; exact f3.2.2.cell (i := j) hlj
            have m1 := f1.2.1 j hlj
            have m2 := f2.2.1 j hlj
            have c1 := fun W => hmul_nat c (fw s k G k j) W HQ.out.2.2.1 m2
            have X := u16_xor_nat (fw s k F k j) (fm 65581 c (fw s k G k j)) m1 (fm16_lt _ _)
            obtain ⟨tb2, W1⟩ := sum_wraps hlj HN.out.2.2.2.2
            obtain ⟨D, hD⟩ : ∃ D, D = fw s k F k j := ⟨_, rfl⟩
            obtain ⟨E, hE⟩ : ∃ E, E = fw s k G k j := ⟨_, rfl⟩
            rw [← hE] at c1
            rw [← hD, ← hE] at X x3
            rw [← hD] at x1
            rw [← hE] at x2
            obtain ⟨Y, hY⟩ : ∃ Y, Y = fm 65581 c E := ⟨_, rfl⟩
            rw [← hY] at c1
            rw [← hY] at X x3
            have HX : Hid (wr = w8.drewN d) := hw
            clear f1 f2 f3 f4 m1 m2 hD hE hY hw
            go_wp2
            go_quiet (first | (go_at_call 15; with_reducible exact Calls.quiet_of_same (c1 _)))
            go_wp2
            go_roundw
            case rel => exact ⟨j + 1, d + nq, hlj, by first | rfl | (rw [W1]; rfl), by rw [HX.out, World.drewN_drewN]⟩
            case measure => first | exact meas_lt8 hlj | (rw [W1]; exact meas_lt8 hlj)
          · have tb2 : ¬ ((j : Nat) : Int) < (i : Int) := by omega
            have HX : Hid (wr = w8.drewN d) := hw
            clear hw
            go_wp2
            go_ret
            exact ⟨rfl, by rw [HX.out]; exact below_drewN HF.out.2.2.2 d⟩
theorem afftSums_any (a0 : Option Addr) (n cap : Nat) (a1 : Option Addr) (m cap1 c : Nat) (a : Int) (w : World) (h : Qbm w a0 n cap) (h' : Qbm w a1 m cap1) (hc : c < 65536) (hC : Cab w) (hT : Tzt w) :
    Calls Tryd.prog 4 #[.slice a0 n cap, .slice a1 m cap1, .int .u16 (c : Int), .int .i64 a] w fun e w' => e = .returned (.bool true) ∧ Below w.heap.size w w' := by
  obtain ⟨-, F, hF⟩ := h
  obtain ⟨-, G, hG⟩ := h'
  by_cases hmn : m < n
  · exact afftSums_less a0 n cap a1 m cap1 c a F G w hF hG hc hmn hC hT
  · exact afftSums_more a0 n cap a1 m cap1 c a F G w hF hG hc hmn hC hT
end Go.Proofs.YtemjodlhpelbaaaDoor
