import Derived.Test.YtidcdbjhkgpjcaaDoorLmc
namespace Go.Proofs.YtidcdbjhkgpjcaaDoor
open Go.RowKit Gf2
set_option linter.unusedVariables false

set_option maxHeartbeats 1000000 in
set_option maxRecDepth 100000 in
theorem refvan13 (v : Value) (i : Nat) (w : World) (h : Sl w v (wes (2 ^ i))) (hi : i ≤ 8) :
    Calls Tryd.prog 50 #[.bool true, v] w fun e w' => ∃ v' M, e = .returned (.tuple #[v', .int .i64 0]) ∧ Fr w' w.heap.size v' M ∧ co M = sp i ∧ M.length ≤ 257 ∧ Below w.heap.size w w' := by
  have hN : 2 ^ i ≤ 256 := Nat.pow_le_pow_right (by decide) hi
  have hl : (wes (2 ^ i)).length = 2 ^ i := wes_len _
  have hp : ∀ j, j < 2 ^ i → co (wes (2 ^ i)) j = we j := fun j hj => by unfold co; rw [List.getD_eq_getElem?_getD, wes_get hj]; rfl
  have hall : ∀ x ∈ wes (2 ^ i), x < 2 ^ dq true := fun x hx => by
    obtain ⟨j, -, rfl⟩ := List.mem_map.1 hx
    exact we_lt j
  have c1 : Calls Tryd.prog 60 #[.bool true, v] w fun e w' => ∃ v' M, e = .returned v' ∧ Fr w' w.heap.size v' M ∧ co M = sp i ∧ M.length ≤ 257 ∧ Below w.heap.size w w' :=
    (pvanish_any true v (wes (2 ^ i)) w h hall (by rw [hl]; omega)).mono fun e w' ⟨v', he, hf, hb⟩ => ⟨v', _, he, hf, by
      rw [hl]
      show co (lf (2 ^ i + 1) (pv 65581 (co (wes (2 ^ i))) (2 ^ i))) = sp i
      rw [co_lf (fld16.pv_dg _ _)]
      exact vanish_sp (by omega) hp, by rw [lf_len, hl]; omega, hb⟩
  obtain ⟨-, -, a, cap, rfl, -⟩ := h
  rw [hl] at *
  have D1 : decide ((1024 : Int) < ((2 ^ i : Nat) : Int)) = false := by simp only [decide_eq_false_iff_not]; omega
  obtain ⟨N, hN'⟩ : ∃ N, N = 2 ^ i := ⟨_, rfl⟩
  rw [← hN'] at c1 D1 ⊢
  clear hp hall hN hl hN'
  go_enter Tryd.func50, Tryd.ntmps50
  go_wp2_with (go_at_call 60; ((with_reducible refine (c1).mono ?_); (rintro e w1 ⟨v1, M, rfl, hf1, hm1, hl1, hb1⟩)))
  go_ret2
  exact ⟨v1, M, rfl, hf1, hm1, hl1, hb1⟩
theorem own_sl {w : World} {B g n cap : Nat} {l : List Nat} (h : w.ownsRow B 26 1 (.slice (some ⟨g, 0, none⟩) n cap) n (l.map vU)) (hg : g < w.heap.size) (hn : n = l.length) (hl : n ≤ 65536) (hx : ∀ x ∈ l, x < 65536) : Sl w (.slice (some ⟨g, 0, none⟩) n cap) l := by
  refine ⟨hx, by omega, _, _, by rw [hn], fun h0 => ⟨g, 0, rfl, hg, fun i hi => ?_⟩⟩
  rw [Nat.zero_add, h.cellAt i (by omega)]
  have : l[i]? = some (co l i) := by unfold co; rw [List.getD_eq_getElem?_getD, List.getElem?_eq_getElem hi]; rfl
  exact vU_get this
theorem Fr.slb {w W : World} {B : Nat} {v : Value} {l : List Nat} (h : Fr w B v l) (hb : Below w.heap.size w W) : Sl W v l := (h.below hb).sl
set_option maxHeartbeats 8000000 in
set_option maxRecDepth 100000 in
theorem members13 (n k : Nat) (w : World) (hn : n = 2 ^ k) (hk : k ≤ 8) :
    Calls Tryd.prog 40 #[.int .i64 (n : Int)] w fun e w' => ∃ lv, e = .returned lv ∧ Mm w w' lv n := by
  have hn2 : n ≤ 256 := by rw [hn]; exact Nat.pow_le_pow_right (by decide) hk
  have HN : Hid (n = 2 ^ k ∧ k ≤ 8 ∧ n ≤ 256) := ⟨hn, hk, hn2⟩
  have H0 : Hid (Mm w ((w.alloc (.cells #[.int .u16 1] 26)).alloc (.cells #[.slice (some ⟨w.heap.size, 0, none⟩) 1 1] 27)) (.slice (some ⟨w.heap.size + 1, 0, none⟩) 1 1) 1) := by
    have b1 := below_alloc w (.cells #[.int .u16 1] 26)
    have b2 := below_alloc (w.alloc (.cells #[.int .u16 1] 26)) (.cells #[.slice (some ⟨w.heap.size, 0, none⟩) 1 1] 27)
    have hsz : (w.alloc (.cells #[.int .u16 1] 26)).heap.size = w.heap.size + 1 := by simp
    have r1 : (w.alloc (.cells #[.int .u16 1] 26)).rowIs w.heap.size 26 1 (fun i => .int .u16 (co [1] i : Nat)) := ⟨_, heap_alloc_new _ _, rfl, fun i hi => by
      obtain rfl : i = 0 := by omega
      rfl⟩
    have r2 : ((w.alloc (.cells #[.int .u16 1] 26)).alloc (.cells #[.slice (some ⟨w.heap.size, 0, none⟩) 1 1] 27)).rowIs (w.heap.size + 1) 27 1 (fun _ => .slice (some ⟨w.heap.size, 0, none⟩) 1 1) := by
      rw [← hsz]
      exact ⟨_, heap_alloc_new _ _, rfl, fun i hi => by
        obtain rfl : i = 0 := by omega
        rfl⟩
    refine ⟨w.heap.size + 1, 1, fun _ => .slice (some ⟨w.heap.size, 0, none⟩) 1 1, rfl, Nat.le_refl _, by decide, r2, Nat.le_succ _, bthen13 b1 b2, fun j hj => ⟨[1], ⟨by simp, by simp, w.heap.size, Nat.le_refl _, rfl, r1.of_block (b2.block _ (by rw [hsz]; omega))⟩, ?_, by simp⟩⟩
    obtain rfl : j = 0 := by omega
    rw [mb_0]
    funext i
    unfold co po
    cases i with
    | zero => rfl
    | succ i => simp
  clear hn hk hn2
  go_enter Tryd.func40, Tryd.ntmps40
  go_wp2
  go_loopw [3, 4] (fun lv iv wr => ∃ i N : Nat, i ≤ 8 ∧ N = 2 ^ i ∧ N ≤ n ∧ iv = .int .i64 i ∧ Mm w wr lv N) (fun _ iv _ => 8 - (intOf iv).toNat)
  case atStart => exact ⟨0, 1, Nat.zero_le _, rfl, by rw [HN.out.1]; exact Nat.two_pow_pos k, rfl, H0.out⟩
  case round =>
    obtain ⟨i, N, hi, hN, hNn, rfl, hm⟩ := hrel
    obtain ⟨gl, CL, rfl⟩ := hm.form
    by_cases hlt : N < n
    · have hi8 : i < 8 := by
        apply Decidable.byContradiction
        intro h
        have h1 : 2 ^ 8 ≤ 2 ^ i := Nat.pow_le_pow_right (by decide) (by omega)
        have := HN.out.2.2
        omega
      have h2N : 2 * N ≤ n := by
        have hik : i < k := by
          apply Decidable.byContradiction
          intro h
          have : 2 ^ k ≤ 2 ^ i := Nat.pow_le_pow_right (by decide) (by omega)
          have := HN.out.1
          omega
        have : 2 ^ (i + 1) ≤ 2 ^ k := Nat.pow_le_pow_right (by decide) hik
        rw [Nat.pow_succ] at this
        have := HN.out.1
        omega
      have hN256 : N ≤ 256 := Nat.le_trans hNn HN.out.2.2
      have nb : ((N : Nat) : Int) < (n : Int) := Int.ofNat_lt.2 hlt
      have W1 := wrap_succ8 (j := i) (Nat.lt_trans hi8 (by decide))
      have c1 : Calls Tryd.prog 43 #[.int .i64 (i : Int)] wr fun e w1 => ∃ g cap, e = .returned (.slice (some ⟨g, 0, none⟩) N cap) ∧
          Calls Tryd.prog 50 #[.bool true, .slice (some ⟨g, 0, none⟩) N cap] w1 fun e w2 => ∃ (g2 : Nat) (M : List Nat), e = .returned (.tuple #[.slice (some ⟨g2, 0, none⟩) M.length M.length, .int .i64 0]) ∧
            Hid (Fr w2 w.heap.size (.slice (some ⟨g2, 0, none⟩) M.length M.length) M ∧ co M = sp i ∧ M.length ≤ 257 ∧ Mm w w2 (.slice (some ⟨gl, 0, none⟩) N CL) N) := by
        rw [hN]
        refine (refElementsTo_nat i wr (by omega)).mono fun e w1 ⟨g, cap, he, h1, h2, h3⟩ => ⟨g, cap, he, ?_⟩
        have hsl : Sl w1 (.slice (some ⟨g, 0, none⟩) (2 ^ i) cap) (wes (2 ^ i)) := own_sl h1 h2 (wes_len _).symm (by rw [← hN]; omega) (fun x hx => by
          obtain ⟨j, -, rfl⟩ := List.mem_map.1 hx
          exact we_lt j)
        refine (refvan13 _ i w1 hsl hi).mono fun e w2 ⟨v2, M, he, k1, k2, k3, k4⟩ => ?_
        obtain ⟨z1, z2, g2, z3, rfl, z4⟩ := k1
        have hbw := hm.below (bthen13 h3 k4)
        refine ⟨g2, M, he, ⟨z1, z2, g2, ?_, rfl, z4⟩, k2, k3, by rw [← hN]; exact hbw⟩
        have q1 : w.heap.size ≤ wr.heap.size := hm.size.size
        have := h3.size
        omega
      have HI : Hid (N = 2 ^ i ∧ i < 8 ∧ 2 * N ≤ n ∧ N ≤ 256) := ⟨hN, hi8, h2N, hN256⟩
      clear hm hN hi8 h2N hN256
      go_wp2_with (first | (go_at_call 43; ((with_reducible refine (c1).mono ?_); (rintro e w1 ⟨g, cap, rfl, c2⟩))) | (go_at_call 50; ((with_reducible refine (c2).mono ?_); (rintro e w2 ⟨g2, M, rfl, H2⟩))))
      clear c1 c2
      go_loopw [3, 8] (fun lv jv wq => ∃ j L : Nat, j ≤ N ∧ L = N + j ∧ jv = .int .i64 j ∧ Mm w wq lv L ∧ Fr wq w.heap.size (.slice (some ⟨g2, 0, none⟩) M.length M.length) M) (fun _ jv _ => N - (intOf jv).toNat)
      case atStart => exact ⟨0, N, Nat.zero_le _, rfl, rfl, H2.out.2.2.2, H2.out.1⟩
      case round =>
        obtain ⟨j, L, hj, hL, rfl, hm, hf⟩ := hrel
        obtain ⟨gl2, CL2, rfl⟩ := hm.form
        by_cases hjt : j < N
        · obtain ⟨i1, i2, i3, i4⟩ := HI.out
          have hjL : j < L := by omega
          obtain ⟨gx, Cx, U, ex, x1, x2, x3, x4, x5, x6⟩ := id hm
          cases ex
          obtain ⟨Mj, y1, y2, y3⟩ := x6 j hjL
          obtain ⟨gj, -, ej, -, -⟩ := fr_ne y1 x3
          have q1 := x3.cell (show j < CL2 by omega)
          rw [ej] at q1 y1
          have hlL : L < 2 ^ 8 := by have := HN.out.2.2; simp; omega
          have c3 : Calls Tryd.prog 51 #[.bool true, .slice (some ⟨gj, 0, none⟩) Mj.length Mj.length, .slice (some ⟨g2, 0, none⟩) M.length M.length] wr fun e w3 => ∃ (g3 : Nat) (L3 : List Nat), e = .returned (.tuple #[.slice (some ⟨g3, 0, none⟩) L3.length L3.length, .int .i64 0]) ∧
              ∃ w4 lv4, (Builtin.append_ #[61, 61] 61 #[.slice (some ⟨gl2, 0, none⟩) L CL2, .slice (some ⟨w3.heap.size, 0, none⟩) 1 1]).run Tryd.prog (w3.alloc (.cells #[.slice (some ⟨g3, 0, none⟩) L3.length L3.length] 27)) = .ok lv4 w4 ∧ Hid (Mm w w4 lv4 (L + 1) ∧ Fr w4 w.heap.size (.slice (some ⟨g2, 0, none⟩) M.length M.length) M) := by
            refine (pmul_any true _ _ Mj M wr y1.sl hf.sl y1.1 hf.1 (by omega) (by have := H2.out.2.2.1; omega)).mono fun e w3 ⟨v3, he, ⟨L3, k1, k2, k3⟩, k4⟩ => ?_
            have e3 : co L3 = mb 8 L := by
              rw [k3, y2, H2.out.2.1, hL, i1]
              exact (mb_next i2 (i1 ▸ hjt)).symm
            have hl3 : L3.length ≤ L + 1 := neat_le k2 (n := L + 1) (by rw [e3]; exact mb_dg 8 L hlL)
            obtain ⟨z1, z2, g3, z3, rfl, z4⟩ := k1
            obtain ⟨w4, lv4, hrun, p1, p2⟩ := (hm.below k4).push (v := .slice (some ⟨g3, 0, none⟩) L3.length L3.length) (M := L3) ⟨z1, z2, g3, Nat.le_trans x5.size z3, rfl, z4⟩ e3 hl3 (by omega)
            exact ⟨g3, L3, he, w4, lv4, hrun, p1, p2 _ _ (hf.below k4)⟩
          have jb : ((j : Nat) : Int) < (N : Int) := Int.ofNat_lt.2 hjt
          have jb2 : ((j : Nat) : Int) < (L : Int) := Int.ofNat_lt.2 hjL
          have W2 := wrap_succ8 (j := j) (Nat.lt_of_lt_of_le hjt (Nat.le_trans i4 (by decide)))
          have HL : Hid (L = N + j) := hL
          clear hm hf x1 x2 x3 x4 x5 x6 y1 y2 y3 ej i1 i2 i3 i4 hL hjL hlL
          go_wp2_with (first | (at_builtin; refine Lib.wpList_append_run _ rfl _ _ _ _ rfl _ _ rfl rfl _ _ hrun ?_) | (go_at_call 51; (with_reducible refine c3.mono ?_); rintro e w3 ⟨g3, L3, rfl, w4, lv4, hrun, HV⟩))
          go_roundw
          case rel => exact ⟨j + 1, L + 1, hjt, by rw [HL.out]; rfl, by first | rfl | (rw [W2]; rfl), HV.out.1, HV.out.2⟩
          case measure => first | exact meas_lt8 hjt | (rw [W2]; exact meas_lt8 hjt)
        · have hjN : j = N := Nat.le_antisymm hj (Nat.le_of_not_lt hjt)
          have jb : ¬ ((j : Nat) : Int) < (N : Int) := fun e => hjt (Int.ofNat_lt.1 e)
          have HV : Hid (Mm w wr (.slice (some ⟨gl2, 0, none⟩) L CL2) L ∧ L = N + N) := ⟨hm, by rw [hL, hjN]⟩
          clear hm hf hL hjN
          go_wp2
          go_roundw
          case rel => exact ⟨i + 1, L, HI.out.2.1, by rw [HV.out.2, HI.out.1, Nat.pow_succ, Nat.mul_two], by rw [HV.out.2]; have := HI.out.2.2.1; omega, by first | rfl | (rw [W1]; rfl), HV.out.1⟩
          case measure => first | exact meas_lt8 HI.out.2.1 | (rw [W1]; exact meas_lt8 HI.out.2.1)
    · have hNe : N = n := Nat.le_antisymm hNn (Nat.le_of_not_lt hlt)
      have nb : ¬ ((N : Nat) : Int) < (n : Int) := fun e => hlt (Int.ofNat_lt.1 e)
      have HM : Hid (Mm w wr (.slice (some ⟨gl, 0, none⟩) N CL) n) := hNe ▸ hm
      clear hm hN hNe
      go_wp2
      go_ret
      exact ⟨_, rfl, HM.out⟩
end Go.Proofs.YtidcdbjhkgpjcaaDoor
