import Derived.Test.YtgdnjbaohfiijaaDoorRj3
import Derived.Test.YtgdnjbaohfiijaaDoorRop
import Derived.Test.YtgdnjbaohfiijaaDoorAj6
import Derived.Test.YtgdnjbaohfiijaaDoorRj4
namespace Go.Proofs.YtgdnjbaohfiijaaDoor
open Go.RowKit Gf2
set_option linter.unusedVariables false

-- layer 14: a call, and the document's call behind it (laid by wip/genrhd.py)
theorem q6_none (w : World) : Q6 w (.slice none 0 0) 0 (fun _ => 0) := ⟨by decide, fun i hi => absurd hi (Nat.not_lt_zero _), none, 0, rfl, Nat.le_refl _, by decide, fun h => absurd h (Nat.lt_irrefl _)⟩
theorem q6_at {w : World} {d : Option Addr} {n cd : Nat} {F : Nat → Nat} (h : Q6 w (.slice d n cd) n F) (h0 : 0 < n) : ∃ b o, d = some ⟨b, o, none⟩ := by
  obtain ⟨-, -, a, cap, e, -, -, h4⟩ := h
  cases e
  obtain ⟨b, o, e, -⟩ := h4 h0
  exact ⟨b, o, e⟩

theorem tw_fwd (w0 w1 : World) (hB : Bs w0 w1) (g1 C1 n cd : Nat) (d : Option Addr) (s : Int) (F : Nat → Nat) (h1 : Q6 w1 (.slice (some ⟨g1, 0, none⟩) n C1) n F) (h0 : Q6 w1 (.slice d n cd) n F) (hn : 2 * n ≤ 140737488351232) :
    Calls Tryd.prog 8 #[.slice (some ⟨g1, 0, none⟩) n C1, .int .i64 s] w1 fun e w2 => ∃ x z, e = .returned (.tuple #[x, .int .i64 z]) ∧ Below w1.heap.size w1 w2 ∧
      Calls Tryd.prog 13 #[.slice d n cd, .int .i64 s] w2 fun e w3 => ∃ y, e = .returned (.tuple #[y, .int .i64 z]) ∧ Below w1.heap.size w1 w3 ∧ Hid (∃ m G, Q6 w3 x m G ∧ Q6 w3 y m G) := by
  have no : ∀ z : Int, (¬ pw2 n 65536 ∧ z = 130) ∨ (pw2 n 65536 ∧ ¬ Beg s n n ∧ z = 140) → Calls Tryd.prog 8 #[.slice (some ⟨g1, 0, none⟩) n C1, .int .i64 s] w1 fun e w2 => ∃ x z, e = .returned (.tuple #[x, .int .i64 z]) ∧ Below w1.heap.size w1 w2 ∧
      Calls Tryd.prog 13 #[.slice d n cd, .int .i64 s] w2 fun e w3 => ∃ y, e = .returned (.tuple #[y, .int .i64 z]) ∧ Below w1.heap.size w1 w3 ∧ Hid (∃ m G, Q6 w3 x m G ∧ Q6 w3 y m G) := fun z hz => by
    refine (fwd14_no _ n C1 s z w1 hz (by omega)).mono fun e w2 ⟨he, hw⟩ => ⟨_, z, he, by rw [hw]; exact Below.refl _ _, ?_⟩
    rw [hw]
    refine (refForward14_no d n cd s z w1 hz).mono fun e w3 ⟨he, hw⟩ => ⟨_, he, by rw [hw]; exact Below.refl _ _, 0, _, q6_none _, q6_none _⟩
  by_cases hp : pw2 n 65536
  · by_cases hs : Beg s n n
    · obtain ⟨k, hk, hm⟩ := hp
      have hk6 := pow16 hk hm
      have n0 : 0 < n := by rw [hk]; exact Nat.two_pow_pos k
      obtain ⟨S, rfl, hd, hsS⟩ := beg_nat hs
      obtain ⟨b, o, rfl⟩ := q6_at h0 n0
      refine (fwd14 _ k n S F w0 w1 hB h1 hk6 hk hd hsS).mono fun e w2 ⟨he, r2, b2⟩ => ⟨_, _, he, b2, ?_⟩
      refine (refForward14 b o cd k n S F w2 (h0.below b2) hk6 hk hd hsS).mono fun e w3 ⟨g, C, G, he, hC, hg, r3, hG, b3⟩ => ⟨_, he, bthen13 b2 b3, n, _, (r2.below b3).q6 (Nat.le_refl _) (Nat.le_refl _) r2.1 (fun _ _ => rfl), r3.q6 hC hC r3.1 hG⟩
    · exact no 140 (.inr ⟨hp, hs, rfl⟩)
  · exact no 130 (.inl ⟨hp, rfl⟩)

theorem tw_inv (w0 w1 : World) (hB : Bs w0 w1) (g1 C1 n cd : Nat) (d : Option Addr) (s : Int) (F : Nat → Nat) (h1 : Q6 w1 (.slice (some ⟨g1, 0, none⟩) n C1) n F) (h0 : Q6 w1 (.slice d n cd) n F) (hn : 2 * n ≤ 140737488351232) :
    Calls Tryd.prog 9 #[.slice (some ⟨g1, 0, none⟩) n C1, .int .i64 s] w1 fun e w2 => ∃ x z, e = .returned (.tuple #[x, .int .i64 z]) ∧ Below w1.heap.size w1 w2 ∧
      Calls Tryd.prog 14 #[.slice d n cd, .int .i64 s] w2 fun e w3 => ∃ y, e = .returned (.tuple #[y, .int .i64 z]) ∧ Below w1.heap.size w1 w3 ∧ Hid (∃ m G, Q6 w3 x m G ∧ Q6 w3 y m G) := by
  have no : ∀ z : Int, (¬ pw2 n 65536 ∧ z = 130) ∨ (pw2 n 65536 ∧ ¬ Beg s n n ∧ z = 140) → Calls Tryd.prog 9 #[.slice (some ⟨g1, 0, none⟩) n C1, .int .i64 s] w1 fun e w2 => ∃ x z, e = .returned (.tuple #[x, .int .i64 z]) ∧ Below w1.heap.size w1 w2 ∧
      Calls Tryd.prog 14 #[.slice d n cd, .int .i64 s] w2 fun e w3 => ∃ y, e = .returned (.tuple #[y, .int .i64 z]) ∧ Below w1.heap.size w1 w3 ∧ Hid (∃ m G, Q6 w3 x m G ∧ Q6 w3 y m G) := fun z hz => by
    refine (inv14_no _ n C1 s z w1 hz (by omega)).mono fun e w2 ⟨he, hw⟩ => ⟨_, z, he, by rw [hw]; exact Below.refl _ _, ?_⟩
    rw [hw]
    refine (refInverse14_no d n cd s z w1 hz).mono fun e w3 ⟨he, hw⟩ => ⟨_, he, by rw [hw]; exact Below.refl _ _, 0, _, q6_none _, q6_none _⟩
  by_cases hp : pw2 n 65536
  · by_cases hs : Beg s n n
    · obtain ⟨k, hk, hm⟩ := hp
      have hk6 := pow16 hk hm
      have n0 : 0 < n := by rw [hk]; exact Nat.two_pow_pos k
      obtain ⟨S, rfl, hd, hsS⟩ := beg_nat hs
      obtain ⟨b, o, rfl⟩ := q6_at h0 n0
      refine (inv14 _ k n S F w0 w1 hB h1 hk6 hk hd hsS).mono fun e w2 ⟨he, r2, b2⟩ => ⟨_, _, he, b2, ?_⟩
      refine (refInverse14 b o cd k n S F w2 (h0.below b2) hk6 hk hd hsS).mono fun e w3 ⟨g, C, G, he, hC, hg, r3, hG, b3⟩ => ⟨_, he, bthen13 b2 b3, n, _, (r2.below b3).q6 (Nat.le_refl _) (Nat.le_refl _) r2.1 (fun _ _ => rfl), r3.q6 hC hC r3.1 hG⟩
    · exact no 140 (.inr ⟨hp, hs, rfl⟩)
  · exact no 130 (.inl ⟨hp, rfl⟩)

theorem tw_ext (w0 w1 : World) (hB : Bs w0 w1) (g1 C1 n cd : Nat) (d : Option Addr) (s t : Int) (F : Nat → Nat) (h1 : Q6 w1 (.slice (some ⟨g1, 0, none⟩) n C1) n F) (h0 : Q6 w1 (.slice d n cd) n F) (hn : 2 * n ≤ 140737488351232) :
    Calls Tryd.prog 16 #[.slice (some ⟨g1, 0, none⟩) n C1, .int .i64 s, .int .i64 t] w1 fun e w2 => ∃ x z, e = .returned (.tuple #[x, .int .i64 z]) ∧ Below w1.heap.size w1 w2 ∧
      Calls Tryd.prog 17 #[.slice d n cd, .int .i64 s, .int .i64 t] w2 fun e w3 => ∃ y, e = .returned (.tuple #[y, .int .i64 z]) ∧ Below w1.heap.size w1 w3 ∧ Hid (∃ m G, Q6 w3 x m G ∧ Q6 w3 y m G) := by
  have no : ∀ z : Int, (¬ pw2 n 65536 ∧ z = 130) ∨ (pw2 n 65536 ∧ ¬ (Beg s n n ∧ Beg t n n) ∧ z = 140) → Calls Tryd.prog 16 #[.slice (some ⟨g1, 0, none⟩) n C1, .int .i64 s, .int .i64 t] w1 fun e w2 => ∃ x z, e = .returned (.tuple #[x, .int .i64 z]) ∧ Below w1.heap.size w1 w2 ∧
      Calls Tryd.prog 17 #[.slice d n cd, .int .i64 s, .int .i64 t] w2 fun e w3 => ∃ y, e = .returned (.tuple #[y, .int .i64 z]) ∧ Below w1.heap.size w1 w3 ∧ Hid (∃ m G, Q6 w3 x m G ∧ Q6 w3 y m G) := fun z hz => by
    refine (ext14_no _ n C1 F s t z w0 w1 hB h1 hz (by omega)).mono fun e w2 ⟨he, b2⟩ => ⟨_, z, he, b2, ?_⟩
    refine (refExt14_no d n cd s t z w2 hz).mono fun e w3 ⟨he, hw⟩ => ⟨_, he, by rw [hw]; exact b2, 0, _, q6_none _, q6_none _⟩
  by_cases hp : pw2 n 65536
  · by_cases hs : Beg s n n ∧ Beg t n n
    · obtain ⟨k, hk, hm⟩ := hp
      have hk6 := pow16 hk hm
      have n0 : 0 < n := by rw [hk]; exact Nat.two_pow_pos k
      obtain ⟨S, rfl, hd, hsS⟩ := beg_nat hs.1
      obtain ⟨T, rfl, hd2, hsT⟩ := beg_nat hs.2
      obtain ⟨b, o, rfl⟩ := q6_at h0 n0
      refine (ext14 _ k n S T F w0 w1 hB h1 hk6 hk hd hsS hd2 hsT).mono fun e w2 ⟨g2, he, hg2, r2, b2⟩ => ⟨_, _, he, b2, ?_⟩
      refine (refExt14 b o cd k n S T F w2 (h0.below b2) hk6 hk hd hsS hd2 hsT).mono fun e w3 ⟨g, C, G, he, hC, hg, r3, hG, b3⟩ => ⟨_, he, bthen13 b2 b3, n, _, (r2.below b3).q6 (Nat.le_refl _) (Nat.le_refl _) r2.1 (fun _ _ => rfl), r3.q6 hC hC r3.1 hG⟩
    · exact no 140 (.inr ⟨hp, hs, rfl⟩)
  · exact no 130 (.inl ⟨hp, rfl⟩)

theorem tw_fold (w0 w1 : World) (hB : Bs w0 w1) (g1 C1 n cd : Nat) (d : Option Addr) (s N : Int) (F : Nat → Nat) (h1 : Q6 w1 (.slice (some ⟨g1, 0, none⟩) n C1) n F) (h0 : Q6 w1 (.slice d n cd) n F) (hn : 2 * n ≤ 140737488351232) (hN : (Lit.int .i64 N).wf = true) :
    Calls Tryd.prog 10 #[.slice (some ⟨g1, 0, none⟩) n C1, .int .i64 N, .int .i64 s] w1 fun e w2 => ∃ x z, e = .returned (.tuple #[x, .int .i64 z]) ∧ Below w1.heap.size w1 w2 ∧
      Calls Tryd.prog 18 #[.slice d n cd, .int .i64 N, .int .i64 s] w2 fun e w3 => ∃ y, e = .returned (.tuple #[y, .int .i64 z]) ∧ Below w1.heap.size w1 w3 ∧ Hid (∃ m G, Q6 w3 x m G ∧ Q6 w3 y m G) := by
  have hN2 : N ≤ 9223372036854775807 := (bounds_i64 hN).2
  have no : ∀ z : Int, Fz n N s z → Calls Tryd.prog 10 #[.slice (some ⟨g1, 0, none⟩) n C1, .int .i64 N, .int .i64 s] w1 fun e w2 => ∃ x z, e = .returned (.tuple #[x, .int .i64 z]) ∧ Below w1.heap.size w1 w2 ∧
      Calls Tryd.prog 18 #[.slice d n cd, .int .i64 N, .int .i64 s] w2 fun e w3 => ∃ y, e = .returned (.tuple #[y, .int .i64 z]) ∧ Below w1.heap.size w1 w3 ∧ Hid (∃ m G, Q6 w3 x m G ∧ Q6 w3 y m G) := fun z hz => by
    refine (fold14_no _ n C1 N s z w1 hz (by omega) hN2).mono fun e w2 ⟨he, hw⟩ => ⟨_, z, he, by rw [hw]; exact Below.refl _ _, ?_⟩
    rw [hw]
    refine (refFold14_no d n cd N s z w1 hz (by omega) hN2).mono fun e w3 ⟨he, hw⟩ => ⟨_, he, by rw [hw]; exact Below.refl _ _, 0, _, q6_none _, q6_none _⟩
  by_cases hp : ∃ m : Nat, N = m ∧ pw2 m 65536
  · obtain ⟨m, rfl, k, hk, hm⟩ := hp
    have hk6 := pow16 hk hm
    have m0 : 0 < m := by rw [hk]; exact Nat.two_pow_pos k
    by_cases hl : n ≠ 0 ∧ n % m = 0
    · by_cases hs : Beg s m n
      · obtain ⟨S, rfl, hd, hsS⟩ := beg_nat hs
        obtain ⟨b, o, rfl⟩ := q6_at h0 (by omega)
        have hJ : n = n / m * m := by have := Nat.div_add_mod n m; rw [hl.2, Nat.mul_comm] at this; omega
        have hJ0 : 0 < n / m := by
          rcases Nat.eq_zero_or_pos (n / m) with h9 | h9
          · rw [h9] at hJ; omega
          · exact h9
        refine (fold14 _ k m S (n / m) n F w0 w1 hB h1 hk6 hk hJ0 hJ hd hsS).mono fun e w2 ⟨g2, he, hg2, r2, b2⟩ => ⟨_, _, he, b2, ?_⟩
        refine (refFold14 b o cd k m S (n / m) n F w2 (h0.below b2) hk6 hk hJ0 hJ hd hsS).mono fun e w3 ⟨g, he, hg, r3, b3⟩ => ⟨_, he, bthen13 b2 b3, m, _, (r2.below b3).q6 (Nat.le_refl _) (Nat.le_refl _) r2.1 (fun _ _ => rfl), r3.q6 (Nat.le_refl _) (Nat.le_refl _) r3.1 (fun _ _ => rfl)⟩
      · exact no 140 (.inr ⟨m, k, rfl, hk, hk6, .inr ⟨hl, hs, rfl⟩⟩)
    · exact no 6 (.inr ⟨m, k, rfl, hk, hk6, .inl ⟨by omega, rfl⟩⟩)
  · exact no 130 (.inl ⟨fun m e h => hp ⟨m, e, h⟩, rfl⟩)
end Go.Proofs.YtgdnjbaohfiijaaDoor
namespace Go.Proofs.YtgdnjbaohfiijaaDoor
open Go.RowKit Gf2
set_option linter.unusedVariables false

-- layer 14: one (laid by wip/genrhe.py)
theorem tw_alike {w : World} {x y : Value} (h : Hid (∃ m G, Q6 w x m G ∧ Q6 w y m G)) : Calls Tryd.prog 12 #[x, y] w fun e w' => e = .returned (.bool true) ∧ ∃ m, w' = w.drewN m := by
  obtain ⟨l, G, q1, q2⟩ := h.out
  exact alike14 _ _ l G _ q1 q2
set_option maxHeartbeats 2000000 in
set_option maxRecDepth 100000 in
theorem one14_fwd (d : Option Addr) (nd cd : Nat) (A : Option Addr) (nr cr : Nat) (s N : Int) (w : World) (hC : Cab w) (hT : Tzt w) (hv : Bm14 w (.slice d nd cd)) (hR : Rm14 w (.slice A nr cr)) (hN : (Lit.int .i64 N).wf = true) :
    Calls Tryd.prog 7 #[.agg #[.int .i64 1, .slice d nd cd, .slice A nr cr, .int .i64 s, .int .i64 N]] w fun e w' => e = .returned (.bool true) ∧ Below w.heap.size w w' := by
  obtain ⟨a', n', c', F, e0, hq, hn⟩ := hv
  cases e0
  obtain ⟨W0, hW0⟩ : ∃ W0, W0 = w.alloc (.cells #[.int .i64 1, .slice d nd cd, .slice A nr cr, .int .i64 s, .int .i64 N] 29) := ⟨_, rfl⟩
  have a0 : Below w.heap.size w W0 := by rw [hW0]; exact below_alloc _ _
  obtain ⟨g0, hg0⟩ : ∃ g0, g0 = w.heap.size := ⟨_, rfl⟩
  have HB : Hid (∀ W, Below W0.heap.size W0 W → W.cell? ⟨g0, 0, none⟩ = some (.int .i64 1) ∧ W.cell? ⟨g0, 1, none⟩ = some (.slice d nd cd) ∧ W.cell? ⟨g0, 2, none⟩ = some (.slice A nr cr) ∧ W.cell? ⟨g0, 3, none⟩ = some (.int .i64 s) ∧ W.cell? ⟨g0, 4, none⟩ = some (.int .i64 N)) := fun W hW => by
    have lt : g0 < W0.heap.size := by rw [hW0, hg0]; simp
    have hh : W0.heap[g0]? = some (.cells #[.int .i64 1, .slice d nd cd, .slice A nr cr, .int .i64 s, .int .i64 N] 29) := by rw [hW0, hg0]; exact heap_alloc_new _ _
    refine ⟨?_, ?_, ?_, ?_, ?_⟩
    · rw [hW.cell (p := ⟨g0, 0, none⟩) lt, cell_of_row _ _ _ _ _ _ hh]; rfl
    · rw [hW.cell (p := ⟨g0, 1, none⟩) lt, cell_of_row _ _ _ _ _ _ hh]; rfl
    · rw [hW.cell (p := ⟨g0, 2, none⟩) lt, cell_of_row _ _ _ _ _ _ hh]; rfl
    · rw [hW.cell (p := ⟨g0, 3, none⟩) lt, cell_of_row _ _ _ _ _ _ hh]; rfl
    · rw [hW.cell (p := ⟨g0, 4, none⟩) lt, cell_of_row _ _ _ _ _ _ hh]; rfl
  obtain ⟨w1, g1, C1, F1, run1, hC1, hg1, hR1, hF1, hb1⟩ := app_lit14 W0 (hq.below a0) (lens14 hn).1
  have b01 := bthen13 a0 hb1
  obtain ⟨-, y1, -⟩ := HB.out (W0.alloc (.cells #[] 34)) (below_alloc _ _)
  obtain ⟨x0, x1, x2, x3, x4⟩ := HB.out w1 hb1
  have q1 : Q6 w1 (.slice (some ⟨g1, 0, none⟩) nd C1) nd F := hR1.q6 hC1 hC1 hR1.1 hF1
  have q0 : Q6 w1 (.slice d nd cd) nd F := hq.below b01
  have c1 := tw_fwd w w1 ⟨hC, hT, b01⟩ g1 C1 nd cd d s  F q1 q0 hn
  have HG : Hid (g0 = w.heap.size) := hg0
  have HW : Hid (W0 = w.alloc (.cells #[.int .i64 1, .slice d nd cd, .slice A nr cr, .int .i64 s, .int .i64 N] 29)) := hW0
  have H1 : Hid (Below W0.heap.size W0 w1 ∧ Q6 w1 (.slice (some ⟨g1, 0, none⟩) nd C1) nd F ∧ Q6 w1 (.slice d nd cd) nd F ∧ Below w.heap.size w w1) := ⟨hb1, q1, q0, b01⟩
  clear hC hT hR hN hq hn a0 hg0 hW0 hC1 hg1 hR1 hF1 hb1 b01 q1 q0
  go_enter Tryd.func7, Tryd.ntmps7
  go_upto_region 1 with (fail)
  rw [← HG.out, ← HW.out]
  go_wp2_with (first
    | (at_builtin; refine Lib.wpList_append_run _ rfl _ _ _ _ rfl _ _ rfl rfl _ _ run1 ?_)
    | (go_at_call 8; (with_reducible refine c1.mono ?_); rintro e w2 ⟨x, z, rfl, b2, c2⟩; obtain ⟨z0, z1, z2, z3, z4⟩ := HB.out w2 (bthen13 H1.out.1 b2); clear c1 b2)
    | (go_at_call 13; (with_reducible refine c2.mono ?_); rintro e w3 ⟨y, rfl, b3, HQ⟩; obtain ⟨v0, v1, v2, v3, v4⟩ := HB.out w3 (bthen13 H1.out.1 b3); have H3 : Hid (Below w1.heap.size w1 w3) := b3; have k1 := tw_alike HQ; clear c2 b3)
    | (go_at_call 12; (with_reducible refine k1.mono ?_); rintro e w4 ⟨rfl, m, rfl⟩; have u1 : (w3.drewN m).cell? ⟨g0, 1, none⟩ = some (.slice d nd cd) := v1; have k2 := alike14 _ _ nd F _ ((H1.out.2.1.below H3.out).below (below_drewN (Below.refl _ _) m)) ((H1.out.2.2.1.below H3.out).below (below_drewN (Below.refl _ _) m)); clear k1)
    | (go_at_call 12; (with_reducible refine k2.mono ?_); rintro e w5 ⟨rfl, m2, rfl⟩; have HZ : Hid (Below w.heap.size w (w3.drewN (m + m2))) := below_drewN (bthen13 H1.out.2.2.2 H3.out) (m + m2); clear k2))
  go_ret
  exact ⟨rfl, HZ.out⟩
set_option maxHeartbeats 2000000 in
set_option maxRecDepth 100000 in
theorem one14_inv (d : Option Addr) (nd cd : Nat) (A : Option Addr) (nr cr : Nat) (s N : Int) (w : World) (hC : Cab w) (hT : Tzt w) (hv : Bm14 w (.slice d nd cd)) (hR : Rm14 w (.slice A nr cr)) (hN : (Lit.int .i64 N).wf = true) :
    Calls Tryd.prog 7 #[.agg #[.int .i64 2, .slice d nd cd, .slice A nr cr, .int .i64 s, .int .i64 N]] w fun e w' => e = .returned (.bool true) ∧ Below w.heap.size w w' := by
  obtain ⟨a', n', c', F, e0, hq, hn⟩ := hv
  cases e0
  obtain ⟨W0, hW0⟩ : ∃ W0, W0 = w.alloc (.cells #[.int .i64 2, .slice d nd cd, .slice A nr cr, .int .i64 s, .int .i64 N] 29) := ⟨_, rfl⟩
  have a0 : Below w.heap.size w W0 := by rw [hW0]; exact below_alloc _ _
  obtain ⟨g0, hg0⟩ : ∃ g0, g0 = w.heap.size := ⟨_, rfl⟩
  have HB : Hid (∀ W, Below W0.heap.size W0 W → W.cell? ⟨g0, 0, none⟩ = some (.int .i64 2) ∧ W.cell? ⟨g0, 1, none⟩ = some (.slice d nd cd) ∧ W.cell? ⟨g0, 2, none⟩ = some (.slice A nr cr) ∧ W.cell? ⟨g0, 3, none⟩ = some (.int .i64 s) ∧ W.cell? ⟨g0, 4, none⟩ = some (.int .i64 N)) := fun W hW => by
    have lt : g0 < W0.heap.size := by rw [hW0, hg0]; simp
    have hh : W0.heap[g0]? = some (.cells #[.int .i64 2, .slice d nd cd, .slice A nr cr, .int .i64 s, .int .i64 N] 29) := by rw [hW0, hg0]; exact heap_alloc_new _ _
    refine ⟨?_, ?_, ?_, ?_, ?_⟩
    · rw [hW.cell (p := ⟨g0, 0, none⟩) lt, cell_of_row _ _ _ _ _ _ hh]; rfl
    · rw [hW.cell (p := ⟨g0, 1, none⟩) lt, cell_of_row _ _ _ _ _ _ hh]; rfl
    · rw [hW.cell (p := ⟨g0, 2, none⟩) lt, cell_of_row _ _ _ _ _ _ hh]; rfl
    · rw [hW.cell (p := ⟨g0, 3, none⟩) lt, cell_of_row _ _ _ _ _ _ hh]; rfl
    · rw [hW.cell (p := ⟨g0, 4, none⟩) lt, cell_of_row _ _ _ _ _ _ hh]; rfl
  obtain ⟨w1, g1, C1, F1, run1, hC1, hg1, hR1, hF1, hb1⟩ := app_lit14 W0 (hq.below a0) (lens14 hn).1
  have b01 := bthen13 a0 hb1
  obtain ⟨-, y1, -⟩ := HB.out (W0.alloc (.cells #[] 34)) (below_alloc _ _)
  obtain ⟨x0, x1, x2, x3, x4⟩ := HB.out w1 hb1
  have q1 : Q6 w1 (.slice (some ⟨g1, 0, none⟩) nd C1) nd F := hR1.q6 hC1 hC1 hR1.1 hF1
  have q0 : Q6 w1 (.slice d nd cd) nd F := hq.below b01
  have c1 := tw_inv w w1 ⟨hC, hT, b01⟩ g1 C1 nd cd d s  F q1 q0 hn
  have HG : Hid (g0 = w.heap.size) := hg0
  have HW : Hid (W0 = w.alloc (.cells #[.int .i64 2, .slice d nd cd, .slice A nr cr, .int .i64 s, .int .i64 N] 29)) := hW0
  have H1 : Hid (Below W0.heap.size W0 w1 ∧ Q6 w1 (.slice (some ⟨g1, 0, none⟩) nd C1) nd F ∧ Q6 w1 (.slice d nd cd) nd F ∧ Below w.heap.size w w1) := ⟨hb1, q1, q0, b01⟩
  clear hC hT hR hN hq hn a0 hg0 hW0 hC1 hg1 hR1 hF1 hb1 b01 q1 q0
  go_enter Tryd.func7, Tryd.ntmps7
  go_upto_region 1 with (fail)
  rw [← HG.out, ← HW.out]
  go_wp2_with (first
    | (at_builtin; refine Lib.wpList_append_run _ rfl _ _ _ _ rfl _ _ rfl rfl _ _ run1 ?_)
    | (go_at_call 9; (with_reducible refine c1.mono ?_); rintro e w2 ⟨x, z, rfl, b2, c2⟩; obtain ⟨z0, z1, z2, z3, z4⟩ := HB.out w2 (bthen13 H1.out.1 b2); clear c1 b2)
    | (go_at_call 14; (with_reducible refine c2.mono ?_); rintro e w3 ⟨y, rfl, b3, HQ⟩; obtain ⟨v0, v1, v2, v3, v4⟩ := HB.out w3 (bthen13 H1.out.1 b3); have H3 : Hid (Below w1.heap.size w1 w3) := b3; have k1 := tw_alike HQ; clear c2 b3)
    | (go_at_call 12; (with_reducible refine k1.mono ?_); rintro e w4 ⟨rfl, m, rfl⟩; have u1 : (w3.drewN m).cell? ⟨g0, 1, none⟩ = some (.slice d nd cd) := v1; have k2 := alike14 _ _ nd F _ ((H1.out.2.1.below H3.out).below (below_drewN (Below.refl _ _) m)) ((H1.out.2.2.1.below H3.out).below (below_drewN (Below.refl _ _) m)); clear k1)
    | (go_at_call 12; (with_reducible refine k2.mono ?_); rintro e w5 ⟨rfl, m2, rfl⟩; have HZ : Hid (Below w.heap.size w (w3.drewN (m + m2))) := below_drewN (bthen13 H1.out.2.2.2 H3.out) (m + m2); clear k2))
  go_ret
  exact ⟨rfl, HZ.out⟩
set_option maxHeartbeats 2000000 in
set_option maxRecDepth 100000 in
theorem one14_ext (d : Option Addr) (nd cd : Nat) (A : Option Addr) (nr cr : Nat) (s N : Int) (w : World) (hC : Cab w) (hT : Tzt w) (hv : Bm14 w (.slice d nd cd)) (hR : Rm14 w (.slice A nr cr)) (hN : (Lit.int .i64 N).wf = true) :
    Calls Tryd.prog 7 #[.agg #[.int .i64 5, .slice d nd cd, .slice A nr cr, .int .i64 s, .int .i64 N]] w fun e w' => e = .returned (.bool true) ∧ Below w.heap.size w w' := by
  obtain ⟨a', n', c', F, e0, hq, hn⟩ := hv
  cases e0
  obtain ⟨W0, hW0⟩ : ∃ W0, W0 = w.alloc (.cells #[.int .i64 5, .slice d nd cd, .slice A nr cr, .int .i64 s, .int .i64 N] 29) := ⟨_, rfl⟩
  have a0 : Below w.heap.size w W0 := by rw [hW0]; exact below_alloc _ _
  obtain ⟨g0, hg0⟩ : ∃ g0, g0 = w.heap.size := ⟨_, rfl⟩
  have HB : Hid (∀ W, Below W0.heap.size W0 W → W.cell? ⟨g0, 0, none⟩ = some (.int .i64 5) ∧ W.cell? ⟨g0, 1, none⟩ = some (.slice d nd cd) ∧ W.cell? ⟨g0, 2, none⟩ = some (.slice A nr cr) ∧ W.cell? ⟨g0, 3, none⟩ = some (.int .i64 s) ∧ W.cell? ⟨g0, 4, none⟩ = some (.int .i64 N)) := fun W hW => by
    have lt : g0 < W0.heap.size := by rw [hW0, hg0]; simp
    have hh : W0.heap[g0]? = some (.cells #[.int .i64 5, .slice d nd cd, .slice A nr cr, .int .i64 s, .int .i64 N] 29) := by rw [hW0, hg0]; exact heap_alloc_new _ _
    refine ⟨?_, ?_, ?_, ?_, ?_⟩
    · rw [hW.cell (p := ⟨g0, 0, none⟩) lt, cell_of_row _ _ _ _ _ _ hh]; rfl
    · rw [hW.cell (p := ⟨g0, 1, none⟩) lt, cell_of_row _ _ _ _ _ _ hh]; rfl
    · rw [hW.cell (p := ⟨g0, 2, none⟩) lt, cell_of_row _ _ _ _ _ _ hh]; rfl
    · rw [hW.cell (p := ⟨g0, 3, none⟩) lt, cell_of_row _ _ _ _ _ _ hh]; rfl
    · rw [hW.cell (p := ⟨g0, 4, none⟩) lt, cell_of_row _ _ _ _ _ _ hh]; rfl
  obtain ⟨w1, g1, C1, F1, run1, hC1, hg1, hR1, hF1, hb1⟩ := app_lit14 W0 (hq.below a0) (lens14 hn).1
  have b01 := bthen13 a0 hb1
  obtain ⟨-, y1, -⟩ := HB.out (W0.alloc (.cells #[] 34)) (below_alloc _ _)
  obtain ⟨x0, x1, x2, x3, x4⟩ := HB.out w1 hb1
  have q1 : Q6 w1 (.slice (some ⟨g1, 0, none⟩) nd C1) nd F := hR1.q6 hC1 hC1 hR1.1 hF1
  have q0 : Q6 w1 (.slice d nd cd) nd F := hq.below b01
  have c1 := tw_ext w w1 ⟨hC, hT, b01⟩ g1 C1 nd cd d s N F q1 q0 hn
  have HG : Hid (g0 = w.heap.size) := hg0
  have HW : Hid (W0 = w.alloc (.cells #[.int .i64 5, .slice d nd cd, .slice A nr cr, .int .i64 s, .int .i64 N] 29)) := hW0
  have H1 : Hid (Below W0.heap.size W0 w1 ∧ Q6 w1 (.slice (some ⟨g1, 0, none⟩) nd C1) nd F ∧ Q6 w1 (.slice d nd cd) nd F ∧ Below w.heap.size w w1) := ⟨hb1, q1, q0, b01⟩
  clear hC hT hR hN hq hn a0 hg0 hW0 hC1 hg1 hR1 hF1 hb1 b01 q1 q0
  go_enter Tryd.func7, Tryd.ntmps7
  go_upto_region 1 with (fail)
  rw [← HG.out, ← HW.out]
  go_wp2_with (first
    | (at_builtin; refine Lib.wpList_append_run _ rfl _ _ _ _ rfl _ _ rfl rfl _ _ run1 ?_)
    | (go_at_call 16; (with_reducible refine c1.mono ?_); rintro e w2 ⟨x, z, rfl, b2, c2⟩; obtain ⟨z0, z1, z2, z3, z4⟩ := HB.out w2 (bthen13 H1.out.1 b2); clear c1 b2)
    | (go_at_call 17; (with_reducible refine c2.mono ?_); rintro e w3 ⟨y, rfl, b3, HQ⟩; obtain ⟨v0, v1, v2, v3, v4⟩ := HB.out w3 (bthen13 H1.out.1 b3); have H3 : Hid (Below w1.heap.size w1 w3) := b3; have k1 := tw_alike HQ; clear c2 b3)
    | (go_at_call 12; (with_reducible refine k1.mono ?_); rintro e w4 ⟨rfl, m, rfl⟩; have u1 : (w3.drewN m).cell? ⟨g0, 1, none⟩ = some (.slice d nd cd) := v1; have k2 := alike14 _ _ nd F _ ((H1.out.2.1.below H3.out).below (below_drewN (Below.refl _ _) m)) ((H1.out.2.2.1.below H3.out).below (below_drewN (Below.refl _ _) m)); clear k1)
    | (go_at_call 12; (with_reducible refine k2.mono ?_); rintro e w5 ⟨rfl, m2, rfl⟩; have HZ : Hid (Below w.heap.size w (w3.drewN (m + m2))) := below_drewN (bthen13 H1.out.2.2.2 H3.out) (m + m2); clear k2))
  go_ret
  exact ⟨rfl, HZ.out⟩
set_option maxHeartbeats 2000000 in
set_option maxRecDepth 100000 in
theorem one14_fold (d : Option Addr) (nd cd : Nat) (A : Option Addr) (nr cr : Nat) (s N : Int) (w : World) (hC : Cab w) (hT : Tzt w) (hv : Bm14 w (.slice d nd cd)) (hR : Rm14 w (.slice A nr cr)) (hN : (Lit.int .i64 N).wf = true) :
    Calls Tryd.prog 7 #[.agg #[.int .i64 6, .slice d nd cd, .slice A nr cr, .int .i64 s, .int .i64 N]] w fun e w' => e = .returned (.bool true) ∧ Below w.heap.size w w' := by
  obtain ⟨a', n', c', F, e0, hq, hn⟩ := hv
  cases e0
  obtain ⟨W0, hW0⟩ : ∃ W0, W0 = w.alloc (.cells #[.int .i64 6, .slice d nd cd, .slice A nr cr, .int .i64 s, .int .i64 N] 29) := ⟨_, rfl⟩
  have a0 : Below w.heap.size w W0 := by rw [hW0]; exact below_alloc _ _
  obtain ⟨g0, hg0⟩ : ∃ g0, g0 = w.heap.size := ⟨_, rfl⟩
  have HB : Hid (∀ W, Below W0.heap.size W0 W → W.cell? ⟨g0, 0, none⟩ = some (.int .i64 6) ∧ W.cell? ⟨g0, 1, none⟩ = some (.slice d nd cd) ∧ W.cell? ⟨g0, 2, none⟩ = some (.slice A nr cr) ∧ W.cell? ⟨g0, 3, none⟩ = some (.int .i64 s) ∧ W.cell? ⟨g0, 4, none⟩ = some (.int .i64 N)) := fun W hW => by
    have lt : g0 < W0.heap.size := by rw [hW0, hg0]; simp
    have hh : W0.heap[g0]? = some (.cells #[.int .i64 6, .slice d nd cd, .slice A nr cr, .int .i64 s, .int .i64 N] 29) := by rw [hW0, hg0]; exact heap_alloc_new _ _
    refine ⟨?_, ?_, ?_, ?_, ?_⟩
    · rw [hW.cell (p := ⟨g0, 0, none⟩) lt, cell_of_row _ _ _ _ _ _ hh]; rfl
    · rw [hW.cell (p := ⟨g0, 1, none⟩) lt, cell_of_row _ _ _ _ _ _ hh]; rfl
    · rw [hW.cell (p := ⟨g0, 2, none⟩) lt, cell_of_row _ _ _ _ _ _ hh]; rfl
    · rw [hW.cell (p := ⟨g0, 3, none⟩) lt, cell_of_row _ _ _ _ _ _ hh]; rfl
    · rw [hW.cell (p := ⟨g0, 4, none⟩) lt, cell_of_row _ _ _ _ _ _ hh]; rfl
  obtain ⟨w1, g1, C1, F1, run1, hC1, hg1, hR1, hF1, hb1⟩ := app_lit14 W0 (hq.below a0) (lens14 hn).1
  have b01 := bthen13 a0 hb1
  obtain ⟨-, y1, -⟩ := HB.out (W0.alloc (.cells #[] 34)) (below_alloc _ _)
  obtain ⟨x0, x1, x2, x3, x4⟩ := HB.out w1 hb1
  have q1 : Q6 w1 (.slice (some ⟨g1, 0, none⟩) nd C1) nd F := hR1.q6 hC1 hC1 hR1.1 hF1
  have q0 : Q6 w1 (.slice d nd cd) nd F := hq.below b01
  have c1 := tw_fold w w1 ⟨hC, hT, b01⟩ g1 C1 nd cd d s N F q1 q0 hn hN
  have HG : Hid (g0 = w.heap.size) := hg0
  have HW : Hid (W0 = w.alloc (.cells #[.int .i64 6, .slice d nd cd, .slice A nr cr, .int .i64 s, .int .i64 N] 29)) := hW0
  have H1 : Hid (Below W0.heap.size W0 w1 ∧ Q6 w1 (.slice (some ⟨g1, 0, none⟩) nd C1) nd F ∧ Q6 w1 (.slice d nd cd) nd F ∧ Below w.heap.size w w1) := ⟨hb1, q1, q0, b01⟩
  clear hC hT hR hN hq hn a0 hg0 hW0 hC1 hg1 hR1 hF1 hb1 b01 q1 q0
  go_enter Tryd.func7, Tryd.ntmps7
  go_upto_region 1 with (fail)
  rw [← HG.out, ← HW.out]
  go_wp2_with (first
    | (at_builtin; refine Lib.wpList_append_run _ rfl _ _ _ _ rfl _ _ rfl rfl _ _ run1 ?_)
    | (go_at_call 10; (with_reducible refine c1.mono ?_); rintro e w2 ⟨x, z, rfl, b2, c2⟩; obtain ⟨z0, z1, z2, z3, z4⟩ := HB.out w2 (bthen13 H1.out.1 b2); clear c1 b2)
    | (go_at_call 18; (with_reducible refine c2.mono ?_); rintro e w3 ⟨y, rfl, b3, HQ⟩; obtain ⟨v0, v1, v2, v3, v4⟩ := HB.out w3 (bthen13 H1.out.1 b3); have H3 : Hid (Below w1.heap.size w1 w3) := b3; have k1 := tw_alike HQ; clear c2 b3)
    | (go_at_call 12; (with_reducible refine k1.mono ?_); rintro e w4 ⟨rfl, m, rfl⟩; have u1 : (w3.drewN m).cell? ⟨g0, 1, none⟩ = some (.slice d nd cd) := v1; have k2 := alike14 _ _ nd F _ ((H1.out.2.1.below H3.out).below (below_drewN (Below.refl _ _) m)) ((H1.out.2.2.1.below H3.out).below (below_drewN (Below.refl _ _) m)); clear k1)
    | (go_at_call 12; (with_reducible refine k2.mono ?_); rintro e w5 ⟨rfl, m2, rfl⟩; have HZ : Hid (Below w.heap.size w (w3.drewN (m + m2))) := below_drewN (bthen13 H1.out.2.2.2 H3.out) (m + m2); clear k2))
  go_ret
  exact ⟨rfl, HZ.out⟩
end Go.Proofs.YtgdnjbaohfiijaaDoor
