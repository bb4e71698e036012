import Derived.Test.YtdnhidachdjgaaaMmd
import Derived.Deep.RegionHeld
namespace Go.Proofs.Ytdnhidachdjgaaa
open Go.RowKit Gf2
set_option linter.unusedVariables false

-- layer 10: the document's beside; Augment, both
set_option maxHeartbeats 4000000 in
set_option maxRecDepth 100000 in
theorem rbeside10 (u v : Value) (m l k : Nat) (S T : Nat → Nat → Nat) (w : World) (hu : Lb w u m (fun _ => l) S) (hv : Lb w v m (fun _ => k) T) (hm : 1 ≤ m) (hm2 : m ≤ 256) (hl : 1 ≤ l) (hl2 : l ≤ 512) (hk : 1 ≤ k) (hk2 : k ≤ 512) :
    Calls Try.prog 71 #[u, v] w fun e w' => ∃ x, e = .returned x ∧ Ans w w' x m (l + k) (bes l S T) := by
  obtain ⟨b, o, cap, rfl, hU⟩ := rows10 hu hm
  obtain ⟨b', o', cap', rfl, hV⟩ := rows10 hv hm
  obtain ⟨x0, y0, z0, -⟩ := hU w.drew (Below.refl _ _).drew 0 hm
  obtain ⟨x1, y1, z1, -⟩ := hV w.drew (Below.refl _ _).drew 0 hm
  have ez : ∀ W, Below w.heap.size w W → W.cell? ⟨b, o, none⟩ = some (.slice x0 l y0) := fun W hW => by
    obtain ⟨xx, yy, zz, -⟩ := hU w (Below.refl _ _) 0 hm
    have e1 := zz.symm.trans z0
    cases e1
    have := (hW.cell (p := ⟨b, o + 0, none⟩) (cell_lt10 zz)).trans zz
    rw [Nat.add_zero] at this
    exact this
  have ey : ∀ W, Below w.heap.size w W → W.cell? ⟨b', o', none⟩ = some (.slice x1 k y1) := fun W hW => by
    obtain ⟨xx, yy, zz, -⟩ := hV w (Below.refl _ _) 0 hm
    have e1 := zz.symm.trans z1
    cases e1
    have := (hW.cell (p := ⟨b', o' + 0, none⟩) (cell_lt10 zz)).trans zz
    rw [Nat.add_zero] at this
    exact this
  rw [Nat.add_zero] at z0 z1
  have i0 : (0 : Int) < (m : Int) := Int.ofNat_lt.2 hm
  have W0 : IntKind.i64.wrap ((l : Int) + (k : Int)) = ((l + k : Nat) : Int) := by rw [IntKind.wrap_i64]; omega
  have c4 := rzeros10 m (l + k) w.drew (by omega) (by omega)
  have HK : Hid (m ≤ 1000 ∧ m ≤ big ∧ l + k ≤ big) := ⟨by omega, by unfold big; omega, by unfold big; omega⟩
  obtain ⟨L, hL⟩ : ∃ L, Hid (L = l + k) := ⟨_, rfl⟩
  rw [← hL.out] at W0 c4 HK
  have HU : Hid _ := hU
  have HV : Hid _ := hV
  have HZ : Hid _ := ez
  have HY : Hid _ := ey
  have HK2 : Hid (1 ≤ k ∧ 1 ≤ l ∧ 0 < m) := ⟨hk, hl, hm⟩
  clear hu hv hm hm2 hl hl2 hk hk2 hU hV ez ey
  go_enter Try.func71, Try.ntmps71
  go_wp2
  have m0 : 0 < m := HK2.out.2.2
  go_region_held (fun w' => w'.cell? ⟨b, o, none⟩ = some (.slice x0 l y0) ∧ w'.cell? ⟨b', o', none⟩ = some (.slice x1 k y1)) (first | exact ⟨z0, z1⟩ | exact ⟨HZ.out _ hz.bel, HY.out _ hz.bel⟩) (first | (go_at_call 68; (with_reducible refine c4.mono ?_); rintro e w1 ⟨rfl, hz0⟩; have hz : Zr w w1 m L m := ⟨hz0.sz, hz0.list, hz0.rows, hz0.bel.os, hz0.bel.tape, hz0.bel.output, hz0.bel.size, hz0.bel.block⟩; clear c4 hz0))
  go_wp2
  clear m0
  clear W0 z0 z1
  have hC := hz.cs HK.out.2.1 HK.out.2.2
  have hb1 := hz.bel
  clear hz
  generalize hB : (fun i => w.heap.size + 1 + i) = B at hC
  clear hB
  go_loopw [6] (fun i wr => ∃ r : Nat, r ≤ m ∧ i = .int .i64 r ∧ Cs w.heap.size w1.heap.size wr (.slice (some ⟨w.heap.size, 0, none⟩) m m) m (fun _ => L) (fun _ => L) B (fil (bes l S T) (fun _ _ => 0) r 0) ∧ Below w.heap.size w wr) (fun i _ => m - (intOf i).toNat)
  case atStart => exact ⟨0, Nat.zero_le _, rfl, hC.fil_start _, hb1⟩
  case round =>
    obtain ⟨r, hr, rfl, hC', hb'⟩ := hrel
    clear hC hb1
    by_cases hlt : r < m
    · obtain ⟨x, cx, q1, hrb⟩ := HU.out wr.drew hb'.drew r hlt
      have hCd : Cs w.heap.size w1.heap.size wr.drew (.slice (some ⟨w.heap.size, 0, none⟩) m m) m (fun _ => L) (fun _ => L) B (fil (bes l S T) (fun _ _ => 0) r 0) := hC'.drewN 1
      have hbd : Below w.heap.size w wr.drew := hb'.drew
      have q2 := hCd.at_ hlt
      have ib : ((r : Nat) : Int) < (m : Int) := Int.ofNat_lt.2 hlt
      have W1 := wrap_lt8 hlt HK.out.1
      have lL : ((l : Nat) : Int) < (L : Int) := by have := hL.out; have := HK2.out; omega
      have lL2 : ((l : Nat) : Int) ≤ (L : Int) := Int.le_of_lt lL
      have lL3 : ¬ L = l := by omega
      obtain ⟨w5, hrun, hr5, ho5⟩ := copy10 (o := 0) (dl := L) (cap := L) (hCd.row r hlt).2.2.2 hrb (Nat.le_of_eq (Nat.zero_add L)) (by omega)
      have hC5 := hCd.turn1 hlt ho5.kp hr5
      have hb5 : Below w.heap.size w w5 := hbd.trans (ho5.kp.below (hCd.row r hlt).1 hbd.size)
      obtain ⟨x', cx', q3, hrb'⟩ := HV.out w5.drew hb5.drew r hlt
      have q4 := HZ.out w5.drew hb5.drew
      have hC5d := hC5.drewN 1
      have q5 : w5.drew.cell? ⟨w.heap.size, r, none⟩ = some (.slice (some ⟨B r, 0, none⟩) L L) := hC5d.at_ hlt
      obtain ⟨w6, hrun6, hr6, ho6⟩ := copy10 (w := w5.drew) (o := l) (dl := L - l) (cap := L - l) (hC5d.row r hlt).2.2.2 hrb' (by have := hL.out; omega) (by have := hL.out; omega)
      have hC6 := hC5d.turn1 hlt ho6.kp hr6
      have HE : Hid (Cs w.heap.size w1.heap.size w6 (.slice (some ⟨w.heap.size, 0, none⟩) m m) m (fun _ => L) (fun _ => L) B (fil (bes l S T) (fun _ _ => 0) (r + 1) 0) ∧ Below w.heap.size w w6) := ⟨hC6.congr (fun i _ j hj => by
        have hj : j < L := hj
        have hLk := hL.out
        unfold fil
        by_cases e : i = r
        · subst e
          rw [upn_same, if_pos (by omega)]
          unfold pl bes
          by_cases e2 : j < l
          · rw [if_neg (by omega), if_pos e2, upn_same, if_pos (by omega), Nat.sub_zero]
          · rw [if_pos (by omega), if_neg e2]
        · rw [upn_other _ _ e, upn_other _ _ e]
          by_cases e2 : i < r
          · rw [if_pos (by omega), if_pos (by omega)]
          · rw [if_neg (by omega), if_neg (by omega)]), (below_drewM hb5 1).trans (ho6.kp.below (hC5d.row r hlt).1 (below_drewM hb5 1).size)⟩
      have HX : Hid (r < m) := hlt
      clear hC' hb' hrb hlt hr hr5 ho5 hC5 hb5 hrb' hr6 ho6 hC6 HU HV hCd hbd hC5d
      go_wp2
      refine region_planT (fun w' => w'.cell? ⟨w.heap.size, r, none⟩ = some (.slice (some ⟨B r, 0, none⟩) L L) ∧ w'.cell? ⟨b, o + r, none⟩ = some (.slice x l cx)) 8 [8] 49 ⟨q2, q1⟩ (by kernel_rfl) (by kernel_rfl) (fun _ a d v _ h => by cases d <;> exact h) ?_
      refine planT_last ?A2x0 rfl (fun w' hS => ?s2x0) rfl ?n2x0
      case s2x0 =>
        obtain ⟨g1, g2⟩ := hS
        simp only [List.take_succ_cons, List.take_zero]
        repeat still_step
        exact rfl
      case n2x0 =>
      simp only [List.drop_succ_cons, List.drop_zero]
      go_wp2
      clear hrun
      have m0 : 0 < m := HK2.out.2.2
      refine region_tail8 13 (by kernel_rfl) (by kernel_rfl) ?_
      simp only [List.take_succ_cons, List.take_zero, List.drop_succ_cons, List.drop_zero]
      repeat still_step
      refine wpStill_nil ?_
      go_wp2
      go_roundw
      case rel => first | exact ⟨r + 1, HX.out, by first | rfl | (rw [W1]; rfl), HE.out.1, HE.out.2⟩ | (rw [W1]; (repeat apply Exists.intro); exact ⟨⟨r + 1, HX.out, rfl, HE.out.1, HE.out.2⟩, rfl⟩)
      case measure => first | exact meas_lt8 HX.out | (rw [W1]; exact meas_lt8 HX.out)
    · have hrm : r = m := Nat.le_antisymm hr (Nat.le_of_not_lt hlt)
      subst hrm
      have ib : ¬ ((r : Nat) : Int) < (r : Int) := Int.lt_irrefl _
      go_wp2
      go_ret
      exact ⟨_, rfl, by rw [← hL.out]; exact hC'.fil_end.ans (Nat.le_refl _) hb'⟩
end Go.Proofs.Ytdnhidachdjgaaa
