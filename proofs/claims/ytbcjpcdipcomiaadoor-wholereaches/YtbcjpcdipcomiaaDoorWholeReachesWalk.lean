import Derived.Test.YtbcjpcdipcomiaaDoorWra
import Derived.Test.YtbcjpcdipcomiaaDoorAof
namespace Go.Proofs.YtbcjpcdipcomiaaDoor
open Go.RowKit Gf2
set_option linter.unusedVariables false

theorem lit1 (w : World) (a : Nat) (ha : a < 65536) : R6 (w.alloc (.cells #[.int .u16 (a : Nat)] 26)) w.heap.size 1 (fun _ => a) := by
  refine ⟨by decide, fun i hi => ha, _, heap_alloc_new _ _, rfl, fun i hi => ?_⟩
  obtain rfl : i = 0 := by omega
  rfl
/-- int(uint(x) % uint(65536/n)) * n. -/
theorem uint_nums (x : Int) {k n : Nat} (hn : n = 2 ^ k) (hm : n ≤ 1024) : ∃ U c u s : Nat, IntKind.u64.wrap x = (U : Int) ∧ c = 65536 / n ∧ (65536 : Int).tdiv (n : Int) = (c : Int) ∧ IntKind.u64.wrap (c : Int) = (c : Int) ∧ (U : Int).tmod (c : Int) = (u : Int) ∧ wrap64 (u : Int) = (u : Int) ∧ wrap64 ((u : Int) * (n : Int)) = (s : Int) ∧ n ∣ s ∧ s + n ≤ 65536 ∧ 0 < c ∧ wrap64 (c : Int) = (c : Int) ∧ 0 < n ∧ ((c : Int) == 0) = false ∧ (c : Int) ≠ 0 ∧ ((n : Int) == 0) = false ∧ (n : Int) ≠ 0 ∧ (U : Int) % (c : Int) = (u : Int) := by
  have hk : k ≤ 16 := pow16r hn (by omega)
  have hp : 0 < n := by rw [hn]; exact Nat.two_pow_pos k
  obtain ⟨c, hc⟩ : ∃ c, c = 65536 / n := ⟨_, rfl⟩
  have hcn : c * n = 65536 := by rw [hc, hn]; exact Nat.div_mul_cancel (Nat.pow_dvd_pow 2 hk)
  have c0 : 0 < c := by
    rcases Nat.eq_zero_or_pos c with h | h
    · rw [h] at hcn; omega
    · exact h
  have c1 : c ≤ 65536 := by rw [hc]; exact Nat.div_le_self _ _
  obtain ⟨U, hU⟩ : ∃ U : Nat, IntKind.u64.wrap x = (U : Int) := ⟨(x % 18446744073709551616).toNat, by rw [IntKind.wrap_u64]; omega⟩
  have hu : U % c < c := Nat.mod_lt _ c0
  have hun : U % c * n + n ≤ 65536 := by
    have := Nat.mul_le_mul_right n (show U % c + 1 ≤ c from hu)
    rw [Nat.add_mul, Nat.one_mul] at this
    omega
  refine ⟨U, c, U % c, U % c * n, hU, hc, ?_, ?_, ?_, ?_, ?_, Nat.dvd_mul_left _ _, hun, c0, ?_, hp, by simp; omega, by omega, by simp; omega, by omega, by simp⟩
  · rw [Int.tdiv_eq_ediv_of_nonneg (by decide), hc]; rfl
  · rw [IntKind.wrap_u64]; omega
  · rw [Int.tmod_eq_emod_of_nonneg (by omega)]; rfl
  · generalize U % c = y at *
    unfold wrap64; omega
  · rw [show (((U % c : Nat) : Int) * (n : Int)) = ((U % c * n : Nat) : Int) by simp]
    generalize U % c * n = y at *
    unfold wrap64; omega
  · unfold wrap64; omega
theorem reach_a (a : Option Addr) (n cap : Nat) (F : Nat → Nat) (w : World) (h : Q6 w (.slice a n cap) n F) (hC : Cab w) (hT : Tzt w) :
    Calls Tryd.prog 4 #[.slice (some ⟨w.heap.size, 0, none⟩) 1 1, .int .i64 0, .int .i64 5] (w.alloc (.cells #[.int .u16 6] 26)) fun e w1 => ∃ g1 : Nat, e = .returned (.tuple #[.slice (some ⟨g1, 0, none⟩) 1 1, .int .i64 0]) ∧
    Calls Tryd.prog 5 #[.slice (some ⟨g1, 0, none⟩) 1 1, .slice (some ⟨w1.heap.size, 0, none⟩) 1 1] (w1.alloc (.cells #[.int .u16 6] 26)) fun e w2 => e = .returned (.bool true) ∧
    Calls Tryd.prog 6 #[.slice a n cap, .int .i64 1024] w2 fun e w3 => ∃ (k N g : Nat), e = .returned (.slice (some ⟨g, 0, none⟩) N N) ∧ Hid (N = 2 ^ k ∧ N ≤ 1024 ∧ (∃ V, R6 w3 g N V) ∧ Below w.heap.size w w3) := by
  have a1 := below_alloc w (.cells #[.int .u16 ((6 : Nat) : Int)] 26)
  have l1 := (lit1 w 6 (by decide)).all
  refine (ext14 _ 0 1 0 5 (fun _ => 6) w _ ((Bs.self hC hT).then a1) l1 (by decide) rfl ⟨0, rfl⟩ (by decide) ⟨5, rfl⟩ (by decide)).mono fun e w1 ⟨g1, he, hg, r1, b1⟩ => ⟨g1, he, ?_⟩
  have B1 := bthen13 a1 b1
  have a2 := below_alloc w1 (.cells #[.int .u16 ((6 : Nat) : Int)] 26)
  refine (words14 _ _ 1 (fun _ => 6) _ ((r1.all.congr (fun i hi => rfl)).below a2) (lit1 w1 6 (by decide)).all).mono fun e w2 ⟨he, m2, e2⟩ => ⟨he, ?_⟩
  have B2 : Below w.heap.size w w2 := by rw [e2]; exact below_drewN (bthen13 B1 a2) m2
  exact (square14 a n cap F w2 (h.below B2)).mono fun e w3 ⟨k, N, he, hk⟩ => ⟨k, N, _, he, hk.out.1, hk.out.2.1, ⟨_, hk.out.2.2.1⟩, bthen13 B2 hk.out.2.2.2⟩
theorem reach_b (g k N s t : Nat) (V : Nat → Nat) (w0 w : World) (hB : Bs w0 w) (hV : R6 w g N V) (hk : N = 2 ^ k) (hN : N ≤ 1024) (hd : N ∣ s) (hs : s + N ≤ 65536) (hd2 : N ∣ t) (hs2 : t + N ≤ 65536) :
    Calls Tryd.prog 4 #[.slice (some ⟨g, 0, none⟩) N N, .int .i64 (s : Int), .int .i64 (t : Int)] w fun e w1 => ∃ g1 : Nat, e = .returned (.tuple #[.slice (some ⟨g1, 0, none⟩) N N, .int .i64 0]) ∧
    Calls Tryd.prog 4 #[.slice (some ⟨g1, 0, none⟩) N N, .int .i64 (t : Int), .int .i64 (s : Int)] w1 fun e w2 => ∃ g2 : Nat, e = .returned (.tuple #[.slice (some ⟨g2, 0, none⟩) N N, .int .i64 0]) ∧
    Calls Tryd.prog 5 #[.slice (some ⟨g2, 0, none⟩) N N, .slice (some ⟨g, 0, none⟩) N N] w2 fun e w3 => e = .returned (.bool true) ∧
    Calls Tryd.prog 7 #[.slice (some ⟨g, 0, none⟩) N N, .int .i64 (s : Int)] w3 fun e w4 => e = .returned (.tuple #[.slice (some ⟨w3.heap.size, 0, none⟩) N N, .int .i64 0]) ∧ Hid (R6 w4 w3.heap.size N (iw s V k) ∧ R6 w4 g1 N (ex s t k V) ∧ Below w.heap.size w w4) := by
  have hk16 := pow16r hk (by omega)
  refine (ext14 _ k N s t V w0 w hB hV.all hk16 hk hd hs hd2 hs2).mono fun e w1 ⟨g1, he, hg1, r1, b1⟩ => ⟨g1, he, ?_⟩
  refine (ext14 _ k N t s _ w0 w1 (hB.then b1) r1.all hk16 hk hd2 hs2 hd hs).mono fun e w2 ⟨g2, he, hg2, r2, b2⟩ => ⟨g2, he, ?_⟩
  rw [ex_back] at r2
  have v2 := (hV.below b1).below b2
  refine (words14 _ _ N V w2 r2.all v2.all).mono fun e w3 ⟨he, m3, e3⟩ => ⟨he, ?_⟩
  have b3 : Below w2.heap.size w2 w3 := by rw [e3]; exact below_drewN (Below.refl _ _) m3
  refine (inv14 _ k N s V w0 w3 (((hB.then b1).then b2).then b3) (v2.below b3).all hk16 hk hd hs).mono fun e w4 ⟨he, r4, b4⟩ => ⟨he, r4, ((r1.below b2).below b3).below b4, ?_⟩
  exact bthen13 (bthen13 (bthen13 b1 b2) b3) b4
theorem big_nums {t N k : Nat} (hk : N = 2 ^ k) (hN : N ≤ 1024) (hd : N ∣ t) (hs : t + N ≤ 65536) : ∃ M d d2 G : Nat, M = 2 * N ∧ wrap64 (2 * (N : Int)) = (M : Int) ∧ (t : Int).tdiv (M : Int) = (d : Int) ∧ wrap64 (d : Int) = (d : Int) ∧ wrap64 ((d : Int) * 2) = (d2 : Int) ∧ wrap64 ((d2 : Int) * (N : Int)) = (G : Int) ∧ M ∣ G ∧ G + M ≤ 65536 ∧ (t = G ∨ t = G + N) ∧ ((M : Int) == 0) = false ∧ (M : Int) ≠ 0 := by
  have hp : 0 < N := by rw [hk]; exact Nat.two_pow_pos k
  have h16 : k ≤ 10 := by
    rcases Nat.lt_or_ge 10 k with h9 | h9
    · have := Nat.pow_le_pow_right (n := 2) (by decide) (show 11 ≤ k from h9)
      omega
    · exact h9
  obtain ⟨x, rfl⟩ := hd
  have e65 : 65536 = 2 * N * (2 ^ (15 - k)) := by
    rw [hk, ← Nat.pow_succ', ← Nat.pow_add, show k + 1 + (15 - k) = 16 by omega]
  have hx : x < 2 * 2 ^ (15 - k) := by
    rcases Nat.lt_or_ge x (2 * 2 ^ (15 - k)) with h9 | h9
    · exact h9
    · have := Nat.mul_le_mul_left N h9
      have e : N * (2 * 2 ^ (15 - k)) = 65536 := by rw [e65, Nat.mul_left_comm, Nat.mul_assoc]
      omega
  have hdiv : N * x / (2 * N) = x / 2 := by
    rw [Nat.mul_comm 2 N, Nat.mul_div_mul_left _ _ hp]
  have hG : N * (x / 2 * 2) ≤ N * x := Nat.mul_le_mul_left N (Nat.div_mul_le_self x 2)
  refine ⟨2 * N, x / 2, x / 2 * 2, x / 2 * 2 * N, rfl, ?_, ?_, ?_, ?_, ?_, ⟨x / 2, by rw [Nat.mul_comm (x / 2) 2, Nat.mul_right_comm]⟩, ?_, ?_, by simp; omega, by omega⟩
  · unfold wrap64; omega
  · rw [Int.tdiv_eq_ediv_of_nonneg (by omega), show ((N * x : Nat) : Int) / ((2 * N : Nat) : Int) = ((N * x / (2 * N) : Nat) : Int) by simp, hdiv]
  · have : x / 2 ≤ 65536 := by
      have := Nat.div_le_self x 2
      have : x ≤ N * x := Nat.le_mul_of_pos_left x hp
      omega
    generalize x / 2 = y at *
    unfold wrap64; omega
  · have : x / 2 ≤ 65536 := by
      have := Nat.div_le_self x 2
      have : x ≤ N * x := Nat.le_mul_of_pos_left x hp
      omega
    generalize x / 2 = y at *
    unfold wrap64; omega
  · rw [show (((x / 2 * 2 : Nat) : Int) * (N : Int)) = ((x / 2 * 2 * N : Nat) : Int) by simp]
    rw [Nat.mul_comm N (x / 2 * 2)] at hG
    generalize x / 2 * 2 * N = y at *
    unfold wrap64; omega
  · have h1 : x / 2 < 2 ^ (15 - k) := by omega
    have h2 := Nat.mul_le_mul_left (2 * N) (show x / 2 + 1 ≤ 2 ^ (15 - k) from h1)
    rw [Nat.mul_add, Nat.mul_one, ← e65] at h2
    have e : x / 2 * 2 * N = 2 * N * (x / 2) := by rw [Nat.mul_comm (x / 2) 2, Nat.mul_right_comm]
    omega
  · have h2 : x = x / 2 * 2 ∨ x = x / 2 * 2 + 1 := by omega
    rcases h2 with h2 | h2
    · left
      rw [Nat.mul_comm N x, ← h2]
    · right
      have : N * x = N * (x / 2 * 2 + 1) := by rw [← h2]
      rw [this, Nat.mul_add, Nat.mul_one, Nat.mul_comm N]
theorem reach_c (gd g1 k N M G t s J : Nat) (V : Nat → Nat) (w0 w : World) (hB : Bs w0 w) (hD : R6 w gd N (iw s V k)) (h1 : R6 w g1 N (ex s t k V)) (hk : N = 2 ^ k) (hN : N ≤ 1024) (hM : M = 2 * N) (hG : M ∣ G) (hGM : G + M ≤ 65536) (ht : t = G ∨ t = G + N) (hJ : t = G + J) :
    ∃ w1 ga C1, (Builtin.append_ #[22, 22] 22 #[.slice (some ⟨w.heap.size, 0, none⟩) 0 0, .slice (some ⟨gd, 0, none⟩) N N]).run Tryd.prog (w.alloc (.cells #[] 26)) = .ok (.slice (some ⟨ga, 0, none⟩) N C1) w1 ∧
    ∃ w2 gb C2, (Builtin.append_ #[22, 3] 22 #[.slice (some ⟨ga, 0, none⟩) N C1, .int .i64 (N : Int)]).run Tryd.prog w1 = .ok (.slice (some ⟨gb, 0, none⟩) M C2) w2 ∧
    Calls Tryd.prog 8 #[.slice (some ⟨gb, 0, none⟩) M C2, .int .i64 (G : Int)] w2 fun e w3 => e = .returned (.tuple #[.slice (some ⟨w2.heap.size, 0, none⟩) M M, .int .i64 0]) ∧
    Calls Tryd.prog 5 #[.slice (some ⟨w2.heap.size, J, none⟩) N (M - J), .slice (some ⟨g1, 0, none⟩) N N] w3 fun e w4 => e = .returned (.bool true) ∧ Hid (Below w.heap.size w w4) := by
  have hk16 := pow16r hk (by omega)
  have hk12 : k < 16 := by
    rcases Nat.lt_or_ge k 16 with h | h
    · exact h
    · have := Nat.pow_le_pow_right (n := 2) (by decide) h
      omega
  have c0 : 0 < N := by rw [hk]; exact Nat.two_pow_pos k
  have e2 : M = 2 ^ (k + 1) := by rw [Nat.pow_succ, ← hk]; omega
  have eM : N + N = M := by omega
  obtain ⟨w1, ga, C1, F1, run1, hC1, hga, R1, f1, b1⟩ := app_lit14 w hD.all (by omega)
  refine ⟨w1, ga, C1, run1, ?_⟩
  obtain ⟨w2, gb, C2, F2, run2, hC2, R2, f2, f2z, case2⟩ := app0 w1 R1 hC1 (n := N) c0 (by omega)
  rw [eM] at run2 hC2
  refine ⟨w2, gb, C2, run2, ?_⟩
  have b2 : Below w.heap.size w w2 := by
    rcases case2 with ⟨-, ho⟩ | ⟨-, -, hb⟩
    · exact b1.trans (ho.below hga)
    · exact bthen13 b1 hb
  have q2 : Q6 w2 (.slice (some ⟨gb, 0, none⟩) M C2) M F2 := R2.q6 hC2 hC2 R2.1 (fun _ _ => rfl)
  refine (fwd14 _ (k + 1) M G F2 w0 w2 (hB.then b2) q2 (by omega) e2 hG hGM).mono fun e w3 ⟨he, r3, b3⟩ => ⟨he, ?_⟩
  have hF2 : ∀ x, x < 2 ^ k → F2 x < 65536 := fun x hx => R2.2.1 x (by omega)
  have hFz : ∀ x, 2 ^ k ≤ x → x < 2 ^ (k + 1) → F2 x = 0 := fun x h1 h2 => by
    have := f2z (x - N) (by omega)
    rw [show N + (x - N) = x by omega] at this
    exact this
  have eD : ∀ x, x < 2 ^ k → F2 x = iw s V k x := fun x hx => by rw [f2 x (by omega), f1 x (by omega)]
  have key : ∀ i, i < N → fw G (k + 1) F2 (k + 1) (J + i) = ex s t k V i := fun i hi => by
    have two := fw_two hk12 (by rw [← e2]; exact hG) (by omega) hF2 hFz (i := i) (by omega)
    rcases ht with ht | ht
    · rw [show J + i = i by omega, two.1, fw_congr eD k (Nat.le_refl _) i (by omega), ht]
      rfl
    · rw [show J + i = 2 ^ k + i by omega, two.2, ← hk]
      show fw (G + N) k (iw G (fw G k F2 k) k) k i = _
      rw [iw_fw, fw_congr eD k (Nat.le_refl _) i (by omega), ht]
      rfl
  have qa : Q6 w3 (.slice (some ⟨w2.heap.size, J, none⟩) N (M - J)) N (ex s t k V) := by
    refine ⟨by unfold big; omega, fun i hi => by rw [← key i hi]; exact r3.2.1 (J + i) (by omega), _, _, rfl, by omega, by unfold big; omega, fun _ => ⟨_, _, rfl, r3.lt, fun i hi => ?_⟩⟩
    rw [← key i hi]
    exact r3.2.2.cell (i := J + i) (by omega)
  refine (words14 _ _ N (ex s t k V) w3 qa ((h1.below b2).below b3).all).mono fun e w4 ⟨he, m4, e4⟩ => ⟨he, ?_⟩
  rw [e4]
  exact below_drewN (bthen13 b2 b3) m4
theorem last_nums {t G J N M : Nat} (hJ : t = G + J) (hM : M = 2 * N) (hJN : J + N ≤ M) (hGM : G + M ≤ 65536) : wrap64 ((t : Int) - (G : Int)) = (J : Int) ∧ wrap64 ((J : Int) + (N : Int)) = ((J + N : Nat) : Int) := by
  constructor
  · unfold wrap64; omega
  · unfold wrap64; omega
set_option maxHeartbeats 8000000 in
set_option maxRecDepth 100000 in
theorem wholeReaches_any (a0 : Option Addr) (n cap : Nat) (x y : Int) (w : World) (h : Qbm w a0 n cap) (hC : Cab w) (hT : Tzt w) :
    Calls Tryd.prog 3 #[.slice a0 n cap, .int .i64 x, .int .i64 y] w fun e w' => e = .returned (.bool true) ∧ Below w.heap.size w w' := by
  obtain ⟨-, F, hQ⟩ := h
  have c1 := reach_a a0 n cap F w hQ hC hT
  have HC : Hid (Cab w ∧ Tzt w) := ⟨hC, hT⟩
  clear hQ hC hT
  go_enter Tryd.func3, Tryd.ntmps3
  go_upto_region 6 with (first
    | (go_at_call 4; (with_reducible refine c1.mono ?_); rintro e w1 ⟨g1, rfl, c2⟩)
    | (go_at_call 5; (with_reducible refine c2.mono ?_); rintro e w2 ⟨rfl, c3⟩)
    | (go_at_call 6; (with_reducible refine c3.mono ?_); rintro e w3 ⟨k, N, g, rfl, HN⟩))
  clear c1 c2 c3
  obtain ⟨hk, hN, ⟨V, hV⟩, hb⟩ := HN.out
  obtain ⟨U, c, u, s, u1, hc, u3, u4, u5, u6, u7, u8, u9, u10, u11, u12, u13, u14, u15, u16, u17⟩ := uint_nums x hk hN
  obtain ⟨U', c', u', t, t1, ht2, t3, t4, t5, t6, t7, t8, t9, t10, t11, -, t13, t14, -, -, t17⟩ := uint_nums y hk hN
  obtain rfl : c' = c := by rw [ht2, hc]
  clear t3 t4 t11 t13 t14 u5 t5
  have d1 := reach_b g k N s t V w w3 ((Bs.self HC.out.1 HC.out.2).then hb) hV hk hN u8 u9 t8 t9
  have HT : Hid (N ∣ t ∧ t + N ≤ 65536) := ⟨t8, t9⟩
  have HB : Hid (Below w.heap.size w w3) := hb
  clear hV hb u8 u9 t8 t9 u10 t10 u12 ht2 hk hN hc
  have HU : Hid (wrap64 (u : Int) = (u : Int) ∧ wrap64 ((u : Int) * (N : Int)) = (s : Int) ∧ wrap64 (u' : Int) = (u' : Int) ∧ wrap64 ((u' : Int) * (N : Int)) = (t : Int)) := ⟨u6, u7, t6, t7⟩
  clear u6 u7 t6 t7
  go_upto_region 8 with fail
  simp only [HU.out.1, HU.out.2.1, HU.out.2.2.1, HU.out.2.2.2]
  clear HU u1 u3 u4 u11 u13 u14 u15 u16 u17 t1 t17
  go_upto_region 17 with (first
    | (go_at_call 4; first | ((with_reducible refine d1.mono ?_); rintro e w4 ⟨g4, rfl, d2⟩) | ((with_reducible refine d2.mono ?_); rintro e w5 ⟨g5, rfl, d3⟩))
    | (go_at_call 5; (with_reducible refine d3.mono ?_); rintro e w6 ⟨rfl, d4⟩)
    | (go_at_call 7; (with_reducible refine d4.mono ?_); rintro e w7 ⟨rfl, HD⟩))
  clear d1 d2 d3 d4
  obtain ⟨hk, hN, -⟩ := HN.out
  obtain ⟨M, d, d2, G, hM, m1, m2, m3, m4, m5, m6, m7, m8, m9, m10⟩ := big_nums hk hN HT.out.1 HT.out.2
  obtain ⟨J, hJ⟩ : ∃ J, t = G + J := by
    rcases m8 with h | h
    · exact ⟨0, h⟩
    · exact ⟨N, h⟩
  have hJN : J + N ≤ M := by rcases m8 with h | h <;> omega
  obtain ⟨e1, e2, e3⟩ := HD.out
  obtain ⟨wa, ga, Ca, runa, wb, gb, Cb, runb, f1⟩ := reach_c w6.heap.size g4 k N M G t s J V w w7 ((Bs.self HC.out.1 HC.out.2).then (bthen13 HB.out e3)) e1 e2 hk hN hM m6 m7 m8 hJ
  have HB7 : Hid (Below w.heap.size w w7) := bthen13 HB.out e3
  have HW : Hid (wrap64 (d : Int) = (d : Int) ∧ wrap64 ((d : Int) * 2) = (d2 : Int) ∧ wrap64 ((d2 : Int) * (N : Int)) = (G : Int)) := ⟨m3, m4, m5⟩
  have HX : Hid (wrap64 ((t : Int) - (G : Int)) = (J : Int) ∧ wrap64 ((J : Int) + (N : Int)) = ((J + N : Nat) : Int)) := last_nums hJ hM hJN m7
  obtain ⟨Z, hZ⟩ : ∃ Z, Z = J + N := ⟨_, rfl⟩
  rw [← hZ] at HX
  have hsl : ∀ W, (Instr.slice 22 (.slice (some ⟨wb.heap.size, 0, none⟩) M M) (some (.int .i64 (J : Int))) (some (.int .i64 (Z : Int))) none).run Tryd.prog W = .ok (.slice (some ⟨wb.heap.size, J, none⟩) N (M - J)) W := fun W => by
    have hp : 0 < N := by rw [hk]; exact Nat.two_pow_pos k
    rw [cut6 wb.heap.size 0 M M J Z (by omega) (by omega) (Nat.le_refl _), Nat.zero_add, show Z - J = N by omega]
  clear HN HD HB hk hN hM e1 e2 e3 m3 m4 m5 m6 m7 m8 hJ hJN hZ HT
  go_upto_region 18 with fail
  simp only [HW.out.1, HW.out.2.1, HW.out.2.2]
  clear HW m2 m9 m10
  go_upto_region 19 with (first
    | (at_builtin; first | (refine Lib.wpList_append_run _ rfl _ _ _ _ rfl _ _ rfl rfl _ _ runa ?_; clear runa) | (refine Lib.wpList_append_run _ rfl _ _ _ _ rfl _ _ rfl rfl _ _ runb ?_; clear runb))
    | (go_at_call 8; (with_reducible refine f1.mono ?_); rintro e wc ⟨rfl, f2⟩))
  clear f1
  obtain ⟨x1, x2⟩ := HX.out
  go_wp2_with (go_at_call 5; (with_reducible refine f2.mono ?_); rintro e wd ⟨rfl, HZ⟩)
  go_ret
  exact ⟨rfl, bthen13 HB7.out HZ.out⟩
end Go.Proofs.YtbcjpcdipcomiaaDoor
