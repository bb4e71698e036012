import Derived.Test.YthfpadkihommaaaMyd
import Derived.Test.YthfpadkihommaaaMxn
import Derived.Test.YthfpadkihommaaaMatrixVandermondeWalk
namespace Go.Proofs.Ythfpadkihommaaa
open Go.RowKit Gf2
set_option linter.unusedVariables false

set_option maxHeartbeats 4000000 in
set_option maxRecDepth 100000 in
theorem cauchy10_law (u v : Value) (M K k : Nat) (R C : Nat → Nat) (w : World) (h : Qi w u k (fun i => (R i : Int))) (h' : Qi w v k (fun i => (C i : Int))) (h1 : 1 ≤ k) (h2 : k ≤ 16) (h3 : 1 ≤ M) (h4 : 1 ≤ K) (h5 : M + K ≤ 256) (hR : ∀ i, R i < M) (hC : ∀ i, C i < K) :
    Calls Try.prog 7 #[.agg #[.int .i64 (M : Int), .int .i64 (K : Int), u, v]] w fun e w' => e = .returned (.bool true) ∧ Below w.heap.size w w' := by
  have hmk := make_rows k (by omega)
  have hm8 := make_u8 k (by omega)
  obtain ⟨g1, -, a, cap, rfl, -, -, g4⟩ := h
  obtain ⟨b, o, rfl, hl, hc⟩ := g4 (by omega)
  obtain ⟨-, -, a', cap', rfl, -, -, g4'⟩ := h'
  obtain ⟨b', o', rfl, hl', hc'⟩ := g4' (by omega)
  clear g4 g4' g1
  have c0 : Calls Try.prog 26 #[] (w.alloc (.cells #[.int .i64 (M : Int), .int .i64 (K : Int), .slice (some ⟨b, o, none⟩) k cap, .slice (some ⟨b', o', none⟩) k cap'] 50)) fun e w1 => e = .returned (.bool true) ∧ Below w.heap.size w w1 ∧ (w1.cell? ⟨w.heap.size, 0, none⟩ = some (.int .i64 (M : Int)) ∧ w1.cell? ⟨w.heap.size, 1, none⟩ = some (.int .i64 (K : Int)) ∧ w1.cell? ⟨w.heap.size, 2, none⟩ = some (.slice (some ⟨b, o, none⟩) k cap) ∧ w1.cell? ⟨w.heap.size, 3, none⟩ = some (.slice (some ⟨b', o', none⟩) k cap')) ∧
      ∀ q, Calls Try.prog 29 #[.int .i64 (M : Int), .int .i64 (K : Int)] (w1.drewN q) fun e w' => ∃ g cm, e = .returned (.tuple #[.slice (some ⟨g, 0, none⟩) M cm, .int .i64 0]) ∧ Below w.heap.size w w' ∧ Lb w' (.slice (some ⟨g, 0, none⟩) M cm) M (fun _ => K) (cau K) := by
    have hb0 : Below w.heap.size w (w.alloc (.cells #[.int .i64 (M : Int), .int .i64 (K : Int), .slice (some ⟨b, o, none⟩) k cap, .slice (some ⟨b', o', none⟩) k cap'] 50)) := (Below.refl _ _).alloc (Nat.le_refl _) _
    refine (awake10 _).mono ?_
    rintro e w1 ⟨rfl, hb1⟩
    have hb2 := hb0.trans (hb1.mono hb0.size)
    have hc : ∀ i, w1.cell? ⟨w.heap.size, i, none⟩ = _ := fun i => (hb1.cell (p := ⟨w.heap.size, i, none⟩) (by simp)).trans (cell_of_row _ _ i _ _ _ (heap_alloc_new _ _))
    refine ⟨rfl, hb2, ⟨hc 0, hc 1, hc 2, hc 3⟩, fun q => (cauchy10_yes M K (w1.drewN q) h3 h4 h5).mono ?_⟩
    have hb2 := below_drewN hb2 q
    rintro e w' ⟨x, a1, a2⟩
    have hb3 := hb2.trans (a2.2.mono hb2.size)
    have hlb := a2.lb
    obtain ⟨⟨B, hC⟩, hb⟩ := a2
    obtain ⟨g, cm, e', _⟩ := hC.block h3
    subst e'
    exact ⟨g, cm, a1, hb3, hlb⟩
  have k1 : decide ((M : Int) < 1) = false := by simp; omega
  have k2 : decide ((K : Int) < 1) = false := by simp; omega
  have k3 : decide (256 < (M : Int)) = false := by simp; omega
  have k4 : decide (256 < (K : Int)) = false := by simp; omega
  have W0 : wrap64 ((M : Int) + (K : Int)) = (M : Int) + (K : Int) := by unfold wrap64; omega
  have k5 : decide (256 < (M : Int) + (K : Int)) = false := by simp; omega
  have k6 : decide ((k : Int) < 1) = false := by simp; omega
  have k7 : decide (16 < (k : Int)) = false := by simp; omega
  have HC : Hid (∀ y, Below w.heap.size w y → ∀ i, i < k → y.cell? ⟨b, o + i, none⟩ = some (.int .i64 (R i : Int)) ∧ y.cell? ⟨b', o' + i, none⟩ = some (.int .i64 (C i : Int))) := fun y hy i hi => ⟨(hy.cell (p := ⟨b, o + i, none⟩) hl).trans (hc i hi), (hy.cell (p := ⟨b', o' + i, none⟩) hl').trans (hc' i hi)⟩
  have HN : Hid (1 ≤ k ∧ k ≤ 16 ∧ 1 ≤ M ∧ 1 ≤ K ∧ M + K ≤ 256) := ⟨h1, h2, h3, h4, h5⟩
  have HR : Hid (∀ i, R i < M) := hR
  have HCC : Hid (∀ i, C i < K) := hC
  clear hc hc' h1 h2 h3 h4 h5 hl hl' hR hC
  go_enter Try.func7, Try.ntmps7
  go_wp2_with (go_at_call 26; (with_reducible refine c0.mono ?_); rintro e w1 ⟨rfl, hb1, ⟨z0, z1, z2, z3⟩, c1⟩; clear c0 hb1)
  go_quiet (fail)
  clear z0 z1 z2 z3
  go_wp2_with (go_at_call 29; (with_reducible refine (c1 _).mono ?_); rintro e w2 ⟨gm, cm, rfl, hb2, hA⟩; clear c1; have HB : Hid _ := hb2; have HA : Hid _ := hA; clear hb2 hA)
  clear k1 k2 k3 k4 k5 k6 k7 W0 hmk
  obtain ⟨wz, hwz⟩ : ∃ wz, Hid (w2.alloc (.cells (madeCells #[.slice none 0 0] k) 26) = wz) := ⟨_, rfl⟩
  have HZ : Hid (Below w.heap.size w wz ∧ Tw w2 wz k (fun _ => k) (fun a c => cau K (R a) (C c)) 0) := ⟨by rw [← hwz.out]; exact HB.out.alloc HB.out.size _, by rw [← hwz.out]; exact Tw.start w2 k _ _⟩
  go_loopw [12] (fun i wr => ∃ x : Nat, x ≤ k ∧ i = .int .i64 x ∧ wr = wz) (fun i _ => k - (intOf i).toNat)
  case atStart => exact ⟨0, Nat.zero_le _, rfl, hwz.out⟩
  case round =>
    obtain ⟨x, hx, rfl, hw⟩ := hrel
    subst hw
    by_cases hlt : x < k
    · obtain ⟨q1, q2⟩ := HC.out wr HZ.out.1 x hlt
      have ib : ((x : Nat) : Int) < (k : Int) := Int.ofNat_lt.2 hlt
      have W1 := wrap_lt8 (j := x) (b := k) hlt (by have := HN.out; omega)
      have HX : Hid (x < k) := hlt
      have r1 : ¬ ((R x : Nat) : Int) < 0 := by omega
      have r2 : ((R x : Nat) : Int) < (M : Int) := Int.ofNat_lt.2 (HR.out x)
      have r2' : ¬ (M : Int) ≤ ((R x : Nat) : Int) := by omega
      have r3 : ¬ ((C x : Nat) : Int) < 0 := by omega
      have r4 : ((C x : Nat) : Int) < (K : Int) := Int.ofNat_lt.2 (HCC.out x)
      have r4' : ¬ (K : Int) ≤ ((C x : Nat) : Int) := by omega
      generalize R x = A1 at q1 r1 r2 r2'
      generalize C x = A2 at q2 r3 r4 r4'
      clear hlt hx
      go_wp2
      go_roundw
      case rel => exact ⟨x + 1, HX.out, by first | rfl | (rw [W1]; rfl), by trivial⟩
      case measure => first | exact meas_lt8 HX.out | (rw [W1]; exact meas_lt8 HX.out)
    · have hxk : x = k := Nat.le_antisymm hx (Nat.le_of_not_lt hlt)
      subst hxk
      clear hx hlt hwz
      go_wp2
      obtain ⟨wz, hwz⟩ : ∃ y, Hid (y = wr) := ⟨_, rfl⟩
      rw [← hwz.out] at HZ
      go_loopw [9, 10, 13] (fun p d i wr => ∃ y : Nat, y ≤ x ∧ i = .int .i64 y ∧ p = .int .u8 (pp y (fun i j => fm 285 ((K + R i) ^^^ (K + R j)) (C i ^^^ C j)) : Nat) ∧ d = .int .u8 (pr y (fun i => pr x (fun j => (K + R i) ^^^ C j)) : Nat) ∧ Tw w2 wr x (fun _ => x) (fun a c => cau K (R a) (C c)) y) (fun _ _ i _ => x - (intOf i).toNat)
      case atStart => exact ⟨0, Nat.zero_le _, rfl, rfl, rfl, by rw [← hwz.out]; exact HZ.out.2⟩
      case round =>
        obtain ⟨y, hy, rfl, rfl, rfl, hT⟩ := hrel
        clear hwz HZ
        by_cases hlt : y < x
        · have ib : ((y : Nat) : Int) < (x : Int) := Int.ofNat_lt.2 hlt
          have W1 := wrap_lt8 (j := y) (b := x) hlt (by have := HN.out; omega)
          have ha : (wr.alloc (.cells (madeCells #[.int .u8 0] x) 5)).rowIs w2.heap.size 26 x (fun i => if i < y then .slice (some ⟨w2.heap.size + 1 + i, 0, none⟩) x x else .slice none 0 0) := hT.list.of_block (Below.heap_alloc wr _ _ (by have := hT.sz; omega))
          have q2 := ha.cell hlt
          rw [if_neg (Nat.lt_irrefl _)] at q2
          have q3 := ha.frozen y
          obtain ⟨U0, hU0⟩ : ∃ P0, Hid (pp y (fun i j => fm 285 ((K + R i) ^^^ (K + R j)) (C i ^^^ C j)) = P0) := ⟨_, rfl⟩
          obtain ⟨D0, hD0⟩ : ∃ P0, Hid (pr y (fun i => pr x (fun j => (K + R i) ^^^ C j)) = P0) := ⟨_, rfl⟩
          rw [hU0.out, hD0.out]
          have HM : Hid _ := hT.mid (by have := HN.out; omega) hlt
          have HS : Hid (wr.heap.size = w2.heap.size + 1 + y) := hT.sz
          have HL : Hid (y < x) := hlt
          obtain ⟨wv, hwv⟩ : ∃ wv, Hid (twi w2 wr y x = wv) := ⟨_, rfl⟩
          rw [hwv.out] at HM
          obtain ⟨sz, hsz⟩ : ∃ sz, Hid (wr.heap.size = sz) := ⟨_, rfl⟩
          rw [hsz.out] at HM HS
          clear hT ha hlt hy
          have HF : Hid (∀ w3, Only sz wv w3 → Below w.heap.size w w3 ∧ w3.cell? ⟨w2.heap.size, y, none⟩ = some (.slice (some ⟨sz, 0, none⟩) x x) ∧ ∃ h q CX, w3.cell? ⟨gm, R y, none⟩ = some (.slice (some ⟨h, q, none⟩) K CX) ∧ ∀ c, c < K → w3.cell? ⟨h, q + c, none⟩ = some (.int .u8 (cau K (R y) c : Nat))) := fun w3 ho => by
            obtain ⟨m1, m2, m3, m4, m5⟩ := HM.out
            have hs := HS.out
            have hb3 : Below w2.heap.size w2 w3 := m5.trans (ho.below (by omega))
            refine ⟨HB.out.trans (hb3.mono HB.out.size), ?_, ?_⟩
            · have := (m2.of_block (ho.2.2 _ (by omega))).cell HL.out
              rw [if_pos (Nat.lt_succ_self y), ← hs] at this
              exact this
            · obtain ⟨bb, oo, cc, X, CX, e, hU⟩ := rows10f (Lb.below HA.out hb3) HN.out.2.2.1
              cases e
              obtain ⟨z1, z2⟩ := hU w3 (Below.refl _ _) (R y) (HR.out y)
              rw [Nat.zero_add] at z1
              obtain ⟨-, z3⟩ := z2 w3.heap.size (Nat.le_refl _)
              obtain ⟨h, q, e2, -, -, z4⟩ := z3 (by have := HN.out; omega)
              exact ⟨h, q, CX (R y), by rw [z1, e2], z4⟩
          go_wp2
          rw [hsz.out]
          clear q2 q3
          go_loopw [9, 10, 14] (fun p d j w3 => ∃ c : Nat, c ≤ x ∧ j = .int .i64 c ∧ p = .int .u8 (fm 285 U0 (pr (min c y) (fun t => fm 285 ((K + R y) ^^^ (K + R t)) (C y ^^^ C t))) : Nat) ∧ d = .int .u8 (fm 285 D0 (pr c (fun t => (K + R y) ^^^ C t)) : Nat) ∧ Only sz wv w3 ∧ Rw w3 sz x (fun t => if t < c then cau K (R y) (C t) else 0)) (fun _ _ j _ => x - (intOf j).toNat)
          case atStart =>
            refine ⟨0, Nat.zero_le _, rfl, ?_, ?_, ?_⟩
            · rw [Nat.zero_min, show pr 0 (fun t => fm 285 ((K + R y) ^^^ (K + R t)) (C y ^^^ C t)) = 1 from rfl, fld8.fm_one (by rw [← hU0.out]; exact pp_lt _ _)]
            · rw [show pr 0 (fun t => (K + R y) ^^^ C t) = 1 from rfl, fld8.fm_one (by rw [← hD0.out]; exact pr_lt _ _)]
            · have e := hwv.out
              unfold twi at e
              rw [hsz.out] at e
              rw [e]
              exact ⟨Only.refl _ _, HM.out.2.2.2.1.congr (fun i _ => (if_neg (Nat.not_lt_zero _)).symm)⟩
          case round =>
            obtain ⟨c, hc, rfl, rfl, rfl, ho, hrw⟩ := hrel
            by_cases hct : c < x
            · obtain ⟨hbw, q1, h, q, CX, q2, q3⟩ := HF.out wr ho
              obtain ⟨q4, -⟩ := HC.out wr hbw y HL.out
              obtain ⟨-, q5⟩ := HC.out wr hbw c hct
              have q6 := q3 (C c) (HCC.out c)
              clear q3
              have lcv : cau K (R y) (C c) < 256 := by
                unfold cau
                rw [ti_fv]
                have := HN.out
                have := HR.out y
                have := HCC.out c
                exact fv_lt (xor_lt8 (by omega) (by omega))
              have q7 := hrw.2.2.cell hct
              dsimp only at q7
              rw [if_neg (Nat.lt_irrefl _)] at q7
              have q8 := hrw.2.2.frozen c
              have jb : ((c : Nat) : Int) < (x : Int) := Int.ofNat_lt.2 hct
              have W2 := wrap_lt8 (j := c) (b := x) hct (by have := HN.out; omega)
              have r2 : ((R y : Nat) : Int) < (M : Int) := Int.ofNat_lt.2 (HR.out y)
              have r4 : ((C c : Nat) : Int) < (K : Int) := Int.ofNat_lt.2 (HCC.out c)
              have HX : Hid (c < x) := hct
              -- behind the store
              have HG : Hid (∀ w4, w4 = (wr.setCell ⟨sz, c, none⟩ (.int .u8 (cau K (R y) (C c) : Nat))).drew → Only sz wv w4 ∧ Rw w4 sz x (fun t => if t < c + 1 then cau K (R y) (C t) else 0) ∧ w4.cell? ⟨b, o + y, none⟩ = some (.int .i64 (R y : Int)) ∧ w4.cell? ⟨b, o + c, none⟩ = some (.int .i64 (R c : Int)) ∧ w4.cell? ⟨b', o' + y, none⟩ = some (.int .i64 (C y : Int)) ∧ w4.cell? ⟨b', o' + c, none⟩ = some (.int .i64 (C c : Int))) := fun w4 e4 => by
                subst e4
                have ho4 : Only sz wv (wr.setCell ⟨sz, c, none⟩ (.int .u8 (cau K (R y) (C c) : Nat))).drew := (ho.trans ((Only.refl sz wr).setCell c _)).drew
                obtain ⟨hb4, -⟩ := HF.out _ ho4
                have r4 : Rw (wr.setCell ⟨sz, c, none⟩ (.int .u8 (cau K (R y) (C c) : Nat))).drew sz x (fun t => if t = c then cau K (R y) (C c) else if t < c then cau K (R y) (C t) else 0) := (hrw.set c (cau K (R y) (C c)) lcv).drewN 1
                refine ⟨ho4, r4.congr (fun i _ => ?_), (HC.out _ hb4 y HL.out).1, (HC.out _ hb4 c hct).1, (HC.out _ hb4 y HL.out).2, (HC.out _ hb4 c hct).2⟩
                by_cases e : i = c
                · rw [if_pos e, if_pos (by omega), e]
                · rw [if_neg e]
                  by_cases e2 : i < c
                  · rw [if_pos e2, if_pos (by omega)]
                  · rw [if_neg e2, if_neg (by omega)]
              obtain ⟨A0, hA0⟩ : ∃ A0, Hid (cau K (R y) (C c) = A0) := ⟨_, rfl⟩
              rw [hA0.out] at q6 HG
              obtain ⟨U1, hU1⟩ : ∃ A0, Hid (fm 285 U0 (pr (min c y) (fun t => fm 285 ((K + R y) ^^^ (K + R t)) (C y ^^^ C t))) = A0) := ⟨_, rfl⟩
              obtain ⟨D1, hD1⟩ : ∃ A0, Hid (fm 285 D0 (pr c (fun t => (K + R y) ^^^ C t)) = A0) := ⟨_, rfl⟩
              rw [hU1.out, hD1.out]
              clear hct hc ho hrw hbw lcv
              go_wp2
              refine region_planT (fun w' => w'.cell? ⟨w2.heap.size, y, none⟩ = some (.slice (some ⟨sz, 0, none⟩) x x) ∧ w'.cell? ⟨gm, R y, none⟩ = some (.slice (some ⟨h, q, none⟩) K CX) ∧ w'.cell? ⟨b, o + y, none⟩ = some (.int .i64 (R y : Int)) ∧ w'.cell? ⟨b', o' + c, none⟩ = some (.int .i64 (C c : Int)) ∧ w'.cell? ⟨h, q + C c, none⟩ = some (.int .u8 (A0 : Nat))) 18 [18] 220 ⟨q1, q2, q4, q5, q6⟩ (by kernel_rfl) (by kernel_rfl) (fun _ a d v _ h => by cases d <;> exact h) ?_
              refine planT_last ?A2x0 rfl (fun w' hS => ?s2x0) rfl ?n2x0
              case s2x0 =>
                obtain ⟨g1, g2, g3, g4, g5⟩ := hS
                simp only [List.take_succ_cons, List.take_zero]
                repeat still_step
                exact rfl
              case n2x0 =>
              simp only [List.drop_succ_cons, List.drop_zero]
              go_wp2
              generalize hw4 : (wr.setCell ⟨sz, c, none⟩ (.int .u8 (A0 : Nat))).drew = w4
              obtain ⟨n1, n2, n3, n4, n5, n6⟩ := HG.out w4 hw4.symm
              have HO : Hid (Only sz wv w4 ∧ Rw w4 sz x (fun t => if t < c + 1 then cau K (R y) (C t) else 0)) := ⟨n1, n2⟩
              clear q1 q2 q4 q5 q6 q7 q8 HG hw4 n1 n2
              have lK := HN.out
              have lR := HR.out y
              have lRc := HR.out c
              have lC := HCC.out c
              have lCy := HCC.out y
              have v1 : IntKind.i64.wrap ((K : Int) + (R y : Int)) = (K : Int) + (R y : Int) := by unfold IntKind.wrap; simp [IntKind.bits, IntKind.signed]; omega
              have v2 : bits .xor .i64 ((K : Int) + (R y : Int)) ((C c : Nat) : Int) = (((K + R y) ^^^ C c : Nat) : Int) := i64_xor_nat (K + R y) (C c) (by omega) (by omega)
              have v3 := u8_small (xor_lt8 (a := K + R y) (b := C c) (by omega) (by omega))
              have v4 : IntKind.i64.wrap ((R y : Int) + (K : Int)) = (R y : Int) + (K : Int) := by unfold IntKind.wrap; simp [IntKind.bits, IntKind.signed]; omega
              have v5 : IntKind.i64.wrap ((R c : Int) + (K : Int)) = (R c : Int) + (K : Int) := by unfold IntKind.wrap; simp [IntKind.bits, IntKind.signed]; omega
              obtain ⟨x1, hx1⟩ : ∃ x1, Hid (x1 = K + R y) := ⟨_, rfl⟩
              obtain ⟨x2, hx2⟩ : ∃ x2, Hid (x2 = K + R c) := ⟨_, rfl⟩
              have v6 : IntKind.u8.wrap ((R y : Int) + (K : Int)) = (x1 : Int) := by rw [hx1.out, Int.add_comm]; exact u8_small (r := K + R y) (by omega)
              have v7 : IntKind.u8.wrap ((R c : Int) + (K : Int)) = (x2 : Int) := by rw [hx2.out, Int.add_comm]; exact u8_small (r := K + R c) (by omega)
              have v8 := u8_xor_nat x1 x2 (by rw [hx1.out]; omega) (by rw [hx2.out]; omega)
              rw [show x1 ^^^ x2 = (K + R y) ^^^ (K + R c) by rw [hx1.out, hx2.out]] at v8
              have v9 := i64_xor_nat (C y) (C c) (by omega) (by omega)
              have v10 := u8_small (xor_lt8 (a := C y) (b := C c) (by omega) (by omega))
              have c5 := fun z => gmul_nat D1 ((K + R y) ^^^ C c) z (by rw [← hD1.out]; exact fm8_lt _ _) (xor_lt8 (by omega) (by omega))
              have c6 := fun z => gmul_nat ((K + R y) ^^^ (K + R c)) (C y ^^^ C c) z (xor_lt8 (by omega) (by omega)) (xor_lt8 (by omega) (by omega))
              have c7 := fun z => gmul_nat U1 (fm 285 ((K + R y) ^^^ (K + R c)) (C y ^^^ C c)) z (by rw [← hU1.out]; exact fm8_lt _ _) (fm8_lt _ _)
              have HE5 : Hid (fm 285 D1 ((K + R y) ^^^ C c) = fm 285 D0 (pr (c + 1) (fun t => (K + R y) ^^^ C t))) := by show _ = _; rw [← hD1.out, fld8.fm_assoc]; rfl
              clear lK lR lRc lC lCy r2 r4
              by_cases hcy : c < y
              · have HE7 : Hid (fm 285 U1 (fm 285 ((K + R y) ^^^ (K + R c)) (C y ^^^ C c)) = fm 285 U0 (pr (min (c + 1) y) (fun t => fm 285 ((K + R y) ^^^ (K + R t)) (C y ^^^ C t)))) := by
                  show _ = _
                  rw [← hU1.out, fld8.fm_assoc, show min c y = c by omega, show min (c + 1) y = c + 1 by omega]
                  rfl
                have icy : ((c : Nat) : Int) < (y : Int) := Int.ofNat_lt.2 hcy
                clear hcy
                generalize fm 285 U1 (fm 285 ((K + R y) ^^^ (K + R c)) (C y ^^^ C c)) = U2 at c7 HE7
                generalize fm 285 ((K + R y) ^^^ (K + R c)) (C y ^^^ C c) = U3 at c6 c7
                generalize fm 285 D1 ((K + R y) ^^^ C c) = D2 at c5 HE5
                generalize (K + R y) ^^^ (K + R c) = z1 at v8 c6
                generalize (K + R y) ^^^ C c = z2 at v2 v3 c5
                generalize C y ^^^ C c = z3 at v9 v10 c6
                go_quiet ((go_at_call 25; with_reducible exact Calls.quiet_of_same (c5 _)))
                go_wp2
                generalize hw5 : w4.drewN nq = w5
                have n3 : w5.cell? ⟨b, o + y, none⟩ = some (.int .i64 (R y : Int)) := by rw [← hw5]; exact n3
                have n4 : w5.cell? ⟨b, o + c, none⟩ = some (.int .i64 (R c : Int)) := by rw [← hw5]; exact n4
                have n5 : w5.cell? ⟨b', o' + y, none⟩ = some (.int .i64 (C y : Int)) := by rw [← hw5]; exact n5
                have n6 : w5.cell? ⟨b', o' + c, none⟩ = some (.int .i64 (C c : Int)) := by rw [← hw5]; exact n6
                have HW5 : Hid (w4.drewN nq = w5) := hw5
                clear hw5 c5 v1 v2 v3
                go_quiet ((go_at_call 25; first | (with_reducible exact Calls.quiet_of_same (c6 _)) | (with_reducible exact Calls.quiet_of_same (c7 _))))
                go_wp2
                go_roundw
                case rel => exact ⟨c + 1, HX.out, by first | rfl | (rw [W2]; rfl), by rw [HE7.out], by rw [HE5.out], by rw [← HW5.out]; exact (HO.out.1.drewN _).drewN _, by rw [← HW5.out]; exact (HO.out.2.drewN _).drewN _⟩
                case measure => first | exact meas_lt8 HX.out | (rw [W2]; exact meas_lt8 HX.out)
              · have HE7 : Hid (U1 = fm 285 U0 (pr (min (c + 1) y) (fun t => fm 285 ((K + R y) ^^^ (K + R t)) (C y ^^^ C t)))) := by
                  show _ = _
                  rw [← hU1.out, show min c y = y by omega, show min (c + 1) y = y by omega]
                have icy : ¬ ((c : Nat) : Int) < (y : Int) := by omega
                clear hcy c6 c7 v4 v5 v6 v7 v8 v9 v10
                generalize fm 285 D1 ((K + R y) ^^^ C c) = D2 at c5 HE5
                generalize (K + R y) ^^^ C c = z2 at v2 v3 c5
                go_quiet ((go_at_call 25; with_reducible exact Calls.quiet_of_same (c5 _)))
                go_wp2
                go_roundw
                case rel => exact ⟨c + 1, HX.out, by first | rfl | (rw [W2]; rfl), by rw [HE7.out], by rw [HE5.out], HO.out.1.drewN _, HO.out.2.drewN _⟩
                case measure => first | exact meas_lt8 HX.out | (rw [W2]; exact meas_lt8 HX.out)
            · have hcx : c = x := Nat.le_antisymm hc (Nat.le_of_not_lt hct)
              subst hcx
              have HE : Hid (fm 285 U0 (pr (min c y) (fun t => fm 285 ((K + R y) ^^^ (K + R t)) (C y ^^^ C t))) = pp (y + 1) (fun i j => fm 285 ((K + R i) ^^^ (K + R j)) (C i ^^^ C j)) ∧ fm 285 D0 (pr c (fun t => (K + R y) ^^^ C t)) = pr (y + 1) (fun i => pr c (fun j => (K + R i) ^^^ C j))) := ⟨by
                rw [show min c y = y by have := HL.out; omega, ← hU0.out]; rfl, by rw [← hD0.out]; rfl⟩
              rw [HE.out.1, HE.out.2]
              have HT : Hid (Tw w2 wr c (fun _ => c) (fun a t => cau K (R a) (C t)) (y + 1)) := by
                obtain ⟨m1, m2, m3, m4, m5⟩ := HM.out
                exact Tw.done (wr := wr) m1 m2 m3 m5 HS.out ho (hrw.congr (fun i hi => if_pos hi))
              obtain ⟨U4, hU4⟩ : ∃ P, Hid (pp (y + 1) (fun i j => fm 285 ((K + R i) ^^^ (K + R j)) (C i ^^^ C j)) = P) := ⟨_, rfl⟩
              obtain ⟨D4, hD4⟩ : ∃ P, Hid (pr (y + 1) (fun i => pr c (fun j => (K + R i) ^^^ C j)) = P) := ⟨_, rfl⟩
              rw [hU4.out, hD4.out]
              clear hc hct ho hrw HE
              go_wp2
              go_roundw
              case rel => exact ⟨y + 1, HL.out, by first | rfl | (rw [W1]; rfl), by rw [hU4.out], by rw [hD4.out], HT.out⟩
              case measure => first | exact meas_lt8 HL.out | (rw [W1]; exact meas_lt8 HL.out)
        · have hyx : y = x := Nat.le_antisymm hy (Nat.le_of_not_lt hlt)
          subst hyx
          have l1 := HN.out
          have hcv : ∀ a t, chy (fun i => K + R i) C a t = cau K (R a) (C t) := fun a t => by unfold chy cau; rw [ti_fv]
          have hlt8 : ∀ a t, chy (fun i => K + R i) C a t < 256 := fun a t => fv_lt (xor_lt8 (by show K + R a < 256; have := HR.out a; omega) (by have := HCC.out t; omega))
          have hD := D_chy y (fun i => K + R i) C (fun i => by show K + R i < 256; have := HR.out i; omega) (fun i => by have := HCC.out i; omega) (fun i j _ _ => by show K + R i ≠ C j; have := HCC.out j; omega)
          have c8 := det10_yes _ y (chy (fun i => K + R i) C) wr ((hT.cs (by unfold big; omega)).lb.congr (fun a _ t _ => (hcv a t).symm)) l1.1 (by omega) hlt8
          rw [dt_D hlt8] at c8
          have c9 := fun z => gmul_nat (D y (chy (fun i => K + R i) C)) (pr y (fun i => pr y (fun j => (K + R i) ^^^ C j))) z (D_lt _ _) (pr_lt _ _)
          rw [hD, ← pp_mul] at c9
          have HBw : Hid (Below w.heap.size w wr) := HB.out.trans (hT.bel.mono HB.out.size)
          generalize pp y (fun i j => fm 285 ((K + R i) ^^^ (K + R j)) (C i ^^^ C j)) = U4 at c9 ⊢
          generalize pr y (fun i => pr y (fun j => (K + R i) ^^^ C j)) = D4 at c9 ⊢
          generalize D y (chy (fun i => K + R i) C) = D5 at c8 c9
          clear hT hlt hy hD hlt8 hcv l1
          go_wp2_with (first
            | (go_at_call 12; (with_reducible refine c8.mono ?_); rintro e w5 ⟨rfl, hb5⟩; clear c8; have HB5 : Hid _ := HBw.out.trans (hb5.mono HBw.out.size); clear hb5)
            | (go_at_call 25; (with_reducible refine (c9 _).mono ?_); rintro e w6 ⟨rfl, hw6⟩; have hw6 := hw6.symm; subst hw6; clear c9))
          go_ret
          exact ⟨rfl, HB5.out⟩
end Go.Proofs.Ythfpadkihommaaa
