import Derived.Test.YtemjodlhpelbaaaDoorAfftBackWalk
import Derived.Test.YtemjodlhpelbaaaDoorApz
namespace Go.Proofs.YtemjodlhpelbaaaDoor
open Go.RowKit Gf2
set_option linter.unusedVariables false

/-- an append behind a guard that holds. -/
theorem wpList_append_wanted {P : Program} (w : World) {ops : Array Oper} {rest : List Oper} {o : Oper} {a : Act} {Q : Exit → Act → World → Prop} (hgd : Region.wanted o (yielded ops a.tmps) = true) (s x : Operand) (t tn : TypeId)
    (ho : o.op = .call { callee := .builtin .append, args := #[s, x], argTypes := #[t, tn] }) (vs vx : Value) (hs : a.eval s = vs) (hx : a.eval x = vx)
    (v' : Value) (w' : World) (hr : (Builtin.append_ #[t, tn] o.type #[vs, vx]).run P w = .ok v' w') (h : wpList P ops Q rest (a.put o.dst v') w') : wpList P ops Q (o :: rest) a w :=
  wpList_step fun K hK => by rw [if_pos hgd]; exact Lib.wp_append_run w s x t tn ho vs vx hs hx v' w' hr (hK _ _ h)
theorem wanted_of {o oj : Oper} {ops : Array Oper} {tmps : Array Value} {j d : Nat} {b : Bool} (h1 : o.guard = some (j, b)) (h2 : ops[j]? = some oj) (h3 : oj.dst = some d) (h4 : tmps[d]? = some (.bool b)) : Region.wanted o (yielded ops tmps) = true := by
  unfold Region.wanted yielded
  rw [h1]
  simp only [h2, Option.bind_some, h3, h4]
  cases b <;> rfl
theorem over_first (b o n cap : Nat) (a a2 : Int) (F : Nat → Nat) (w : World) (h : Q6 w (.slice (some ⟨b, o, none⟩) n cap) n F) (h0 : 0 < n) (hcap : n ≤ cap) (hC : Cab w) (hT : Tzt w) :
    Calls Tryd.prog 9 #[] w fun e w1 => e = .returned (.bool true) ∧
    Calls Tryd.prog 10 #[.slice (some ⟨b, o, none⟩) n cap, .int .i64 4096] w1 fun e w2 => ∃ k c : Nat, e = .returned (.slice (some ⟨b, o, none⟩) c cap) ∧ Hid (0 < c ∧ c = 2 ^ k ∧ c ≤ 4096) ∧ (((c : Int) == 0) = false) ∧
    Calls Tryd.prog 11 #[.int .i64 a, .int .i64 (c : Int)] w2 fun e w3 => ∃ s : Nat, e = .returned (.int .i64 (s : Int)) ∧
    Calls Tryd.prog 11 #[.int .i64 a2, .int .i64 (c : Int)] w3 fun e w4 => ∃ t : Nat, e = .returned (.int .i64 (t : Int)) ∧
    Calls Tryd.prog 18 #[.slice (some ⟨b, o, none⟩) c cap, .int .i64 (s : Int), .int .i64 (t : Int)] w4 fun e w5 => ∃ g5 : Nat, e = .returned (.tuple #[.slice (some ⟨g5, 0, none⟩) c c, .int .i64 0]) ∧
    Calls Tryd.prog 12 #[.slice (some ⟨b, o, none⟩) c cap, .int .i64 (s : Int)] w5 fun e w6 => e = .returned (.tuple #[.slice (some ⟨w5.heap.size, 0, none⟩) c c, .int .i64 0]) ∧
    Calls Tryd.prog 13 #[.slice (some ⟨w5.heap.size, 0, none⟩) c c, .int .i64 (t : Int)] w6 fun e w7 => e = .returned (.tuple #[.slice (some ⟨w6.heap.size, 0, none⟩) c c, .int .i64 0]) ∧
    Calls Tryd.prog 18 #[.slice (some ⟨g5, 0, none⟩) c c, .int .i64 (t : Int), .int .i64 (s : Int)] w7 fun e w8 => ∃ g8 : Nat, e = .returned (.tuple #[.slice (some ⟨g8, 0, none⟩) c c, .int .i64 0]) ∧
    Calls Tryd.prog 14 #[.slice (some ⟨g5, 0, none⟩) c c, .slice (some ⟨w6.heap.size, 0, none⟩) c c] w8 fun e w9 => e = .returned (.bool true) ∧
    Calls Tryd.prog 14 #[.slice (some ⟨g8, 0, none⟩) c c, .slice (some ⟨b, o, none⟩) c cap] w9 fun e w10 => e = .returned (.bool true) ∧ ∃ p : Nat,
    Calls Tryd.prog 11 #[.int .i64 a, .int .i64 ((2 * c : Nat) : Int)] w10 fun e w11 => ∃ p : Nat, e = .returned (.int .i64 (p : Int)) ∧ w11 = w10 ∧ Hid ((2 * c ∣ p ∧ p + 2 * c ≤ 65536) ∧ Below w.heap.size w w10 ∧ ∃ D, R6 w10 w5.heap.size c D) := by
  refine (awake14 w hC hT).mono fun e w1 ⟨he, b1⟩ => ⟨he, ?_⟩
  refine (cut14 b o n cap 4096 h0 hcap (by decide) (by decide) w1).mono fun e w2 ⟨k, c, he, hk, hw⟩ => ⟨k, c, he, ?_⟩
  subst hw
  obtain ⟨hk1, hk2, hk3⟩ := hk.out
  have hk16 := pow16 hk1 (by omega)
  have c0 : 0 < c := by rw [hk1]; exact Nat.two_pow_pos k
  refine ⟨⟨c0, hk1, hk3⟩, by simp; omega, ?_⟩
  refine (begin14 a k c hk1 (by omega) w2).mono fun e w3 ⟨s, he, hs, hw⟩ => ⟨s, he, ?_⟩
  subst hw
  obtain ⟨hd, hs⟩ := hs.out
  refine (begin14 a2 k c hk1 (by omega) w3).mono fun e w4 ⟨t, he, ht, hw⟩ => ⟨t, he, ?_⟩
  subst hw
  obtain ⟨hd2, hs2⟩ := ht.out
  have B4 : Bs w w4 := (Bs.self hC hT).then b1
  have q4 := (h.head h0 hk2).below b1
  refine (ext14 _ k c s t F w w4 B4 q4 hk16 hk1 hd hs hd2 hs2).mono fun e w5 ⟨g5, he, hg5, r5, b5⟩ => ⟨g5, he, ?_⟩
  have B5 := B4.then b5
  refine (inv14 _ k c s F w w5 B5 (q4.below b5) hk16 hk1 hd hs).mono fun e w6 ⟨he, r6, b6⟩ => ⟨he, ?_⟩
  have B6 := B5.then b6
  refine (fwd14 _ k c t _ w w6 B6 r6.all hk16 hk1 hd2 hs2).mono fun e w7 ⟨he, r7, b7⟩ => ⟨he, ?_⟩
  have B7 := B6.then b7
  have q5 := (r5.all.below b6).below b7
  refine (ext14 _ k c t s _ w w7 B7 q5 hk16 hk1 hd2 hs2 hd hs).mono fun e w8 ⟨g8, he, hg8, r8, b8⟩ => ⟨g8, he, ?_⟩
  rw [ex_back] at r8
  refine (alike14 _ _ c (ex s t k F) w8 (q5.below b8) (r7.all.below b8)).mono fun e w9 ⟨he, m9, e9⟩ => ⟨he, ?_⟩
  subst e9
  refine (alike14 _ _ c F _ (r8.all.drewN m9) ((((( q4.below b5).below b6).below b7).below b8).drewN m9)).mono fun e w10 ⟨he, m10, e10⟩ => ⟨he, 0, ?_⟩
  subst e10
  refine (begin14 a (k + 1) (2 * c) (by rw [hk1, Nat.pow_succ, Nat.mul_comm]) (by omega) _).mono fun e w11 ⟨p, he, hp, hw⟩ => ⟨p, he, hw, hp.out, ?_, ?_⟩
  · exact below_drewN (below_drewN (bthen13 (bthen13 (bthen13 (bthen13 b1 b5) b6) b7) b8) m9) m10
  · exact ⟨_, (((r6.below b7).below b8).drewN m9).drewN m10⟩
/-- what follows: coefficients with noughts behind them. -/
theorem over_last (gd k c p : Nat) (D : Nat → Nat) (w0 w : World) (hB : Bs w0 w) (hD : R6 w gd c D) (hk : c = 2 ^ k) (hc : c ≤ 4096) (hd : 2 * c ∣ p) (hs : p + 2 * c ≤ 65536) :
    ∃ w1 g1 C1, (Builtin.append_ #[22, 22] 22 #[.slice (some ⟨w.heap.size, 0, none⟩) 0 0, .slice (some ⟨gd, 0, none⟩) c c]).run Tryd.prog (w.alloc (.cells #[] 31)) = .ok (.slice (some ⟨g1, 0, none⟩) c C1) w1 ∧
    ∃ w2 g2 C2, (Builtin.append_ #[22, 3] 22 #[.slice (some ⟨g1, 0, none⟩) c C1, .int .i64 (c : Int)]).run Tryd.prog w1 = .ok (.slice (some ⟨g2, 0, none⟩) (c + c) C2) w2 ∧
    Calls Tryd.prog 13 #[.slice (some ⟨g2, 0, none⟩) (c + c) C2, .int .i64 (p : Int)] w2 fun e w3 => e = .returned (.tuple #[.slice (some ⟨w2.heap.size, 0, none⟩) (c + c) (c + c), .int .i64 0]) ∧
    Calls Tryd.prog 13 #[.slice (some ⟨gd, 0, none⟩) c c, .int .i64 (p : Int)] w3 fun e w4 => e = .returned (.tuple #[.slice (some ⟨w3.heap.size, 0, none⟩) c c, .int .i64 0]) ∧
    Calls Tryd.prog 18 #[.slice (some ⟨w3.heap.size, 0, none⟩) c c, .int .i64 (p : Int), .int .i64 ((p + c : Nat) : Int)] w4 fun e w5 => ∃ g5 : Nat, e = .returned (.tuple #[.slice (some ⟨g5, 0, none⟩) c c, .int .i64 0]) ∧
    ∃ w6 g6 C6, (Builtin.append_ #[22, 22] 22 #[.slice (some ⟨w5.heap.size, 0, none⟩) 0 0, .slice (some ⟨w3.heap.size, 0, none⟩) c c]).run Tryd.prog (w5.alloc (.cells #[] 31)) = .ok (.slice (some ⟨g6, 0, none⟩) c C6) w6 ∧
    ∃ w7 g7 C7, (Builtin.append_ #[22, 22] 22 #[.slice (some ⟨g6, 0, none⟩) c C6, .slice (some ⟨g5, 0, none⟩) c c]).run Tryd.prog w6 = .ok (.slice (some ⟨g7, 0, none⟩) (c + c) C7) w7 ∧
    Calls Tryd.prog 14 #[.slice (some ⟨w2.heap.size, 0, none⟩) (c + c) (c + c), .slice (some ⟨g7, 0, none⟩) (c + c) C7] w7 fun e w8 => e = .returned (.bool true) ∧ Hid (Below w.heap.size w w8) := by
  have hk16 := pow16 hk (by omega)
  have hk12 : k < 16 := by
    rcases Nat.lt_or_ge k 16 with h | h
    · exact h
    · have := Nat.pow_le_pow_right (n := 2) (by decide) h
      omega
  have c0 : 0 < c := by rw [hk]; exact Nat.two_pow_pos k
  have e2 : c + c = 2 ^ (k + 1) := by rw [Nat.pow_succ, ← hk]; omega
  have hdc : c ∣ p := Nat.dvd_trans ⟨2, Nat.mul_comm _ _⟩ hd
  obtain ⟨w1, g1, C1, F1, run1, hC1, hg1, R1, f1, b1⟩ := app_lit14 w hD.all (by omega)
  refine ⟨w1, g1, C1, run1, ?_⟩
  obtain ⟨w2, g2, C2, F2, run2, hC2, R2, f2, f2z, case2⟩ := app0 w1 R1 hC1 (n := c) c0 (by omega)
  refine ⟨w2, g2, C2, run2, ?_⟩
  have b2 : Below w.heap.size w w2 := by
    rcases case2 with ⟨-, ho⟩ | ⟨-, -, hb⟩
    · exact b1.trans (ho.below hg1)
    · exact bthen13 b1 hb
  have q2 : Q6 w2 (.slice (some ⟨g2, 0, none⟩) (c + c) C2) (c + c) F2 := R2.q6 hC2 hC2 R2.1 (fun _ _ => rfl)
  refine (fwd14 _ (k + 1) (c + c) p F2 w0 w2 (hB.then b2) q2 (by omega) e2 (by rw [show c + c = 2 * c by omega]; exact hd) (by omega)).mono fun e w3 ⟨he, r3, b3⟩ => ⟨he, ?_⟩
  have q3 := (hD.all.below b2).below b3
  refine (fwd14 _ k c p D w0 w3 ((hB.then b2).then b3) q3 hk16 hk hdc (by omega)).mono fun e w4 ⟨he, r4, b4⟩ => ⟨he, ?_⟩
  refine (ext14 _ k c p (p + c) _ w0 w4 (((hB.then b2).then b3).then b4) r4.all hk16 hk hdc (by omega) (Nat.dvd_add hdc (Nat.dvd_refl _)) (by omega)).mono fun e w5 ⟨g5, he, hg5, r5, b5⟩ => ⟨g5, he, ?_⟩
  obtain ⟨w6, g6, C6, F6, run6, hC6, hg6, R6', f6, b6⟩ := app_lit14 w5 (r4.all.below b5) (by omega)
  refine ⟨w6, g6, C6, run6, ?_⟩
  have q5 := r5.all.below b6
  obtain ⟨w7, g7, C7, F7, run7, hC7, R7, f7, f7z, case7⟩ := app16 w6 R6' hC6 (x := some ⟨g5, 0, none⟩) (n := c) (cx := c) (S := ex p (p + c) k (fw p k D k)) (fun i hi => r5.2.1 i hi) (fun _ => ⟨g5, 0, rfl, fun i hi => by
    rw [Nat.zero_add]
    exact (r5.below b6).2.2.cell (i := i) hi⟩) (by omega)
  refine ⟨w7, g7, C7, run7, ?_⟩
  have b7 : Below w5.heap.size w5 w7 := by
    rcases case7 with ⟨-, ho⟩ | ⟨-, -, hb⟩
    · exact b6.trans (ho.below hg6)
    · exact bthen13 b6 hb
  have q7 : Q6 w7 (.slice (some ⟨g7, 0, none⟩) (c + c) C7) (c + c) F7 := R7.q6 hC7 hC7 R7.1 (fun _ _ => rfl)
  have hF2 : ∀ x, x < 2 ^ k → F2 x < 65536 := fun x hx => R2.2.1 x (by omega)
  have hFz : ∀ x, 2 ^ k ≤ x → x < 2 ^ (k + 1) → F2 x = 0 := fun x h1 h2 => by
    have := f2z (x - c) (by omega)
    rw [show c + (x - c) = x by omega] at this
    exact this
  have eD : ∀ x, x < 2 ^ k → F2 x = D x := fun x hx => by rw [f2 x (by omega), f1 x (by omega)]
  have key : ∀ i, i < c + c → fw p (k + 1) F2 (k + 1) i = F7 i := fun i hi => by
    by_cases h : i < c
    · have := (fw_two hk12 (by rw [← e2, show c + c = 2 * c by omega]; exact hd) (by omega) hF2 hFz (i := i) (by omega)).1
      rw [this, f7 i h, f6 i h, fw_congr eD k (Nat.le_refl _) i (by omega)]
    · have := (fw_two hk12 (by rw [← e2, show c + c = 2 * c by omega]; exact hd) (by omega) hF2 hFz (i := i - c) (by omega)).2
      rw [show 2 ^ k + (i - c) = i by omega] at this
      have z := f7z (i - c) (by omega)
      rw [show c + (i - c) = i by omega] at z
      rw [this, z, ← hk]
      show fw (p + c) k (iw p (fw p k F2 k) k) k (i - c) = fw (p + c) k (iw p (fw p k D k) k) k (i - c)
      rw [iw_fw, iw_fw]
      exact fw_congr eD k (Nat.le_refl _) _ (by omega)
  refine (alike14 _ _ (c + c) F7 w7 (((r3.all.congr key).below b4).below b5 |>.below b7) q7).mono fun e w8 ⟨he, m8, e8⟩ => ⟨he, ?_⟩
  subst e8
  exact below_drewN (bthen13 (bthen13 (bthen13 (bthen13 b2 b3) b4) b5) b7) m8
theorem over_wraps {c p : Nat} (hc : c ≤ 4096) (hs : p + 2 * c ≤ 65536) : wrap64 (2 * (c : Int)) = ((2 * c : Nat) : Int) ∧ wrap64 ((p : Int) + (c : Int)) = ((p + c : Nat) : Int) := by
  constructor
  · unfold wrap64; omega
  · unfold wrap64; omega
set_option maxHeartbeats 8000000 in
set_option maxRecDepth 100000 in
theorem afftOver_any (a0 : Option Addr) (n cap : Nat) (a a2 : Int) (w : World) (h : Qbm w a0 n cap) (hC : Cab w) (hT : Tzt w) :
    Calls Tryd.prog 6 #[.slice a0 n cap, .int .i64 a, .int .i64 a2] w fun e w' => e = .returned (.bool true) ∧ Below w.heap.size w w' := by
  by_cases h0 : n = 0
  · subst h0
    have c1 : Calls Tryd.prog 9 #[] w fun e w1 => e = .returned (.bool true) ∧ Calls Tryd.prog 10 #[.slice a0 0 cap, .int .i64 4096] w1 fun e w2 => e = .returned (.slice a0 0 cap) ∧ Hid (Below w.heap.size w w2) :=
      (awake14 w hC hT).mono fun e w1 ⟨he, b1⟩ => ⟨he, (cut14_none a0 cap 4096 w1).mono fun e w2 ⟨he, hw⟩ => ⟨he, by subst hw; exact b1⟩⟩
    clear h hC hT
    go_enter Tryd.func6, Tryd.ntmps6
    go_wp2_with (first | (go_at_call 9; ((with_reducible refine (c1).mono ?_); (rintro e w1 ⟨rfl, c2⟩))) | (go_at_call 10; ((with_reducible refine (c2).mono ?_); (rintro e w2 ⟨rfl, HB⟩))))
    go_ret
    exact ⟨rfl, HB.out⟩
  · obtain ⟨-, F, hQ⟩ := h
    obtain ⟨b, o, rfl, hcap⟩ : ∃ b o, a0 = some ⟨b, o, none⟩ ∧ n ≤ cap := by
      obtain ⟨-, -, a, cap', e, h5, -, h4⟩ := hQ
      cases e
      obtain ⟨b, o, e, -⟩ := h4 (by omega)
      exact ⟨b, o, e, h5⟩
    have c1 := over_first b o n cap a a2 F w hQ (by omega) hcap hC hT
    have HC : Hid (Cab w ∧ Tzt w) := ⟨hC, hT⟩
    clear hQ hC hT h0 hcap
    go_enter Tryd.func6, Tryd.ntmps6
    go_upto_region 15 with (first
      | (go_at_call 9; (with_reducible refine c1.mono ?_); rintro e w1 ⟨rfl, c2⟩)
      | (go_at_call 10; (with_reducible refine c2.mono ?_); rintro e w2 ⟨k, c, rfl, HK, z0, c3⟩)
      | (go_at_call 11; first | ((with_reducible refine c3.mono ?_); rintro e w3 ⟨s, rfl, c4⟩) | ((with_reducible refine c4.mono ?_); rintro e w4 ⟨t, rfl, c5⟩))
      | (go_at_call 18; first | ((with_reducible refine c5.mono ?_); rintro e w5 ⟨g5, rfl, c6⟩) | ((with_reducible refine c8.mono ?_); rintro e w8 ⟨g8, rfl, c9⟩))
      | (go_at_call 12; (with_reducible refine c6.mono ?_); rintro e w6 ⟨rfl, c7⟩)
      | (go_at_call 13; (with_reducible refine c7.mono ?_); rintro e w7 ⟨rfl, c8⟩)
      | (go_at_call 14; first | ((with_reducible refine c9.mono ?_); rintro e w9 ⟨rfl, c10⟩) | ((with_reducible refine c10.mono ?_); rintro e w10 ⟨rfl, p0, c11⟩)))
    obtain ⟨W2, -⟩ := over_wraps (c := c) (p := 0) HK.out.2.2 (by have := HK.out.2.2; omega)
    clear c1 c2 c3 c4 c5 c6 c7 c8 c9 c10
    obtain ⟨c', hc'⟩ : ∃ c', c' = 2 * c := ⟨_, rfl⟩
    rw [← hc'] at W2 c11
    replace hc' : Hid (c' = 2 * c) := hc'
    go_upto_region 16 with (go_at_call 11; (with_reducible refine c11.mono ?_); rintro e w11 ⟨p, rfl, e11, HP⟩; have e11 := e11.symm; subst e11)
    obtain ⟨⟨hd, hs⟩, hb, D, hD⟩ := HP.out
    rw [hc'.out] at hd hs
    obtain ⟨wa, ga, Ca, runa, wb, gb, Cb, runb, d1⟩ := over_last w5.heap.size k c p D w w10 ((Bs.self HC.out.1 HC.out.2).then hb) hD HK.out.2.1 HK.out.2.2 hd hs
    have W3 := (over_wraps HK.out.2.2 hs).2
    obtain ⟨cc, hcc⟩ : ∃ cc, cc = c + c := ⟨_, rfl⟩
    rw [← hcc] at runb d1
    obtain ⟨pc, hpc⟩ : ∃ pc, pc = p + c := ⟨_, rfl⟩
    rw [← hpc] at W3 d1
    have HB : Hid (Below w.heap.size w w10) := hb
    clear c11 HP hd hs hb hD hcc hpc W2
    go_upto_region 19 with (first
      | (at_builtin; first | refine Lib.wpList_append_run _ rfl _ _ _ _ rfl _ _ rfl rfl _ _ runa ?_ | refine Lib.wpList_append_run _ rfl _ _ _ _ rfl _ _ rfl rfl _ _ runb ?_)
      | (go_at_call 13; first | ((with_reducible refine d1.mono ?_); rintro e wc ⟨rfl, d2⟩) | ((with_reducible refine d2.mono ?_); rintro e wd ⟨rfl, d3⟩))
      | (go_at_call 18; (with_reducible refine d3.mono ?_); rintro e we' ⟨ge, rfl, wx, gx, Cx, runx, wy, gy, Cy, runy, d4⟩))
    clear d1 d2 d3 runa runb
    go_wp2_with (first
      | (at_builtin; first | (refine wpList_append_wanted _ ?hw1 _ _ _ _ rfl _ _ rfl rfl _ _ runx ?_; (case hw1 => go_simp); clear runx) | (refine wpList_append_wanted _ ?hw2 _ _ _ _ rfl _ _ rfl rfl _ _ runy ?_; (case hw2 => go_simp)))
      | (go_at_call 14; (with_reducible refine d4.mono ?_); rintro e wz ⟨rfl, HZ⟩))
    go_ret
    exact ⟨rfl, bthen13 HB.out HZ.out⟩
end Go.Proofs.YtemjodlhpelbaaaDoor
