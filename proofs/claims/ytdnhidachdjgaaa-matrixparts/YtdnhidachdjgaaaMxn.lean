import Derived.Test.YtdnhidachdjgaaaMxm
namespace Go.Proofs.Ytdnhidachdjgaaa
open Go.RowKit Gf2
set_option linter.unusedVariables false

set_option maxHeartbeats 2000000 in
set_option maxRecDepth 100000 in
theorem pick10_yes (u v : Value) (m n k : Nat) (S : Nat → Nat → Nat) (R : Nat → Nat) (w : World) (h : Lb w u m (fun _ => n) S) (hv : Qi w v k (fun i => (R i : Int))) (h1 : 1 ≤ m) (h2 : m ≤ 256) (h3 : 1 ≤ n) (h4 : n ≤ 512) (h5 : 1 ≤ k) (h6 : k ≤ 256) (hR : ∀ i, i < k → R i < m) :
    Calls Try.prog 27 #[u, v] w fun e w' => ∃ x, e = .returned (.tuple #[x, .int .i64 0]) ∧ Ans w w' x k n (fun i j => S (R i) j) := by
  have c1 := check10_yes u m (fun _ => n) S w h (fm_n h1 h2 h3 h4)
  have c2 := fun x => within10_yes (k : Int) 256 x (by omega) (by omega)
  have c4 := fun x => zeros10_any k n x (by omega) (by omega)
  obtain ⟨b, o, cap, rfl, hU⟩ := rows10 h h1
  obtain ⟨x0, y0, z0, -⟩ := hU w (Below.refl _ _) 0 h1
  rw [Nat.add_zero] at z0
  obtain ⟨g1, -, a', cap', rfl, -, -, g4⟩ := hv
  obtain ⟨b', o', rfl, hl', hc'⟩ := g4 (by omega)
  have i0 : (0 : Int) < (m : Int) := Int.ofNat_lt.2 h1
  have HK : Hid (k ≤ 1000 ∧ k ≤ big ∧ n ≤ big) := ⟨by omega, by unfold big; omega, by unfold big; omega⟩
  have HU : Hid _ := hU
  have HC : Hid (∀ y, Below w.heap.size w y → ∀ i, i < k → y.cell? ⟨b', o' + i, none⟩ = some (.int .i64 (R i : Int))) := fun y hy i hi => (hy.cell (p := ⟨b', o' + i, none⟩) hl').trans (hc' i hi)
  have HR : Hid _ := hR
  clear h h1 h2 h3 h4 h5 h6 hU hc' g4 hR g1
  go_enter Try.func27, Try.ntmps27
  go_wp2_with (first | (go_at_call 34; (with_reducible refine c1.mono ?_); rintro e w9 ⟨rfl, hw9⟩; have hw9 := hw9.symm; subst hw9; clear c1) | (go_at_call 37; (with_reducible refine (c2 _).mono ?_); rintro e w9 ⟨rfl, hw9⟩; have hw9 := hw9.symm; subst hw9; clear c2) | (go_at_call 39; (with_reducible refine (c4 _).mono ?_); rintro e w1 ⟨rfl, hz⟩))
  clear c4 z0 i0
  have hC := hz.cs HK.out.2.1 HK.out.2.2
  have hb1 := hz.bel
  clear hz
  generalize hB : (fun i => w.heap.size + 1 + i) = B at hC
  clear hB
  go_loopw [28] (fun i wr => ∃ r : Nat, r ≤ k ∧ i = .int .i64 r ∧ Cs w.heap.size w1.heap.size wr (.slice (some ⟨w.heap.size, 0, none⟩) k k) k (fun _ => n) (fun _ => n) B (fil (fun i j => S (R i) j) (fun _ _ => 0) r 0) ∧ Below w.heap.size w wr) (fun i _ => k - (intOf i).toNat)
  case atStart => exact ⟨0, Nat.zero_le _, rfl, hC.fil_start _, hb1⟩
  case round =>
    obtain ⟨r, hr, rfl, hC', hb'⟩ := hrel
    clear hC hb1
    by_cases hlt : r < k
    · have hRm := HR.out r hlt
      have q0 := HC.out wr hb' r hlt
      obtain ⟨x, cx, q1, hrb⟩ := HU.out wr.drew hb'.drew (R r) hRm
      have q2 : wr.drew.cell? ⟨w.heap.size, r, none⟩ = some (.slice (some ⟨B r, 0, none⟩) n n) := hC'.at_ hlt
      have ib : ((r : Nat) : Int) < (k : Int) := Int.ofNat_lt.2 hlt
      have W1 := wrap_lt8 hlt HK.out.1
      have iR0 : ¬ ((R r : Nat) : Int) < 0 := by omega
      have iR : ((R r : Nat) : Int) < (m : Int) := Int.ofNat_lt.2 hRm
      have iR2 : ¬ (m : Int) ≤ ((R r : Nat) : Int) := by omega
      have HX : Hid (r < k) := hlt
      have hC2 : Cs w.heap.size w1.heap.size wr.drew (.slice (some ⟨w.heap.size, 0, none⟩) k k) k (fun _ => n) (fun _ => n) B (fil (fun i j => S (R i) j) (fun _ _ => 0) r 0) := hC'.drewN 1
      obtain ⟨w5, hrun, hr5, ho5⟩ := copy10 (o := 0) (dl := n) (cap := n) (hC2.row r hlt).2.2.2 hrb (Nat.le_of_eq (Nat.zero_add n)) (Nat.le_refl n)
      have HE : Hid (Cs w.heap.size w1.heap.size w5 (.slice (some ⟨w.heap.size, 0, none⟩) k k) k (fun _ => n) (fun _ => n) B (fil (fun i j => S (R i) j) (fun _ _ => 0) (r + 1) 0) ∧ Below w.heap.size w w5) := ⟨(hC2.turn1 hlt ho5.kp hr5).congr (fun i _ j hj => by
        have hj : j < n := hj
        unfold fil
        by_cases e : i = r
        · subst e
          rw [upn_same, if_pos (by omega)]
          unfold pl
          rw [if_pos (by omega), Nat.sub_zero]
        · rw [upn_other _ _ e]
          by_cases e2 : i < r
          · rw [if_pos (by omega), if_pos (by omega)]
          · rw [if_neg (by omega), if_neg (by omega)]), (below_drewN hb' 1).trans (ho5.kp.below (hC2.row r hlt).1 (below_drewN hb' 1).size)⟩
      generalize R r = rr at q0 q1 iR0 iR iR2
      clear hC' hb' hrb hlt hr hC2 hr5 ho5 HU HC HR hRm
      go_wp2
      refine region_planT (fun w' => w'.cell? ⟨w.heap.size, r, none⟩ = some (.slice (some ⟨B r, 0, none⟩) n n) ∧ w'.cell? ⟨b, o + rr, none⟩ = some (.slice x n cx)) 8 [8] 52 ⟨q2, q1⟩ (by kernel_rfl) (by kernel_rfl) (fun _ a d v _ h => by cases d <;> exact h) ?_
      refine planT_last ?A2x0 rfl (fun w' hS => ?s2x0) rfl ?n2x0
      case s2x0 =>
        obtain ⟨g1, g2⟩ := hS
        simp only [List.take_succ_cons, List.take_zero]
        repeat still_step
        exact rfl
      case n2x0 =>
      simp only [List.drop_succ_cons, List.drop_zero]
      go_wp2
      go_roundw
      case rel => first | exact ⟨r + 1, HX.out, by first | rfl | (rw [W1]; rfl), HE.out.1, HE.out.2⟩ | (rw [W1]; (repeat apply Exists.intro); exact ⟨⟨r + 1, HX.out, rfl, HE.out.1, HE.out.2⟩, rfl⟩)
      case measure => first | exact meas_lt8 HX.out | (rw [W1]; exact meas_lt8 HX.out)
    · have hrm : r = k := Nat.le_antisymm hr (Nat.le_of_not_lt hlt)
      subst hrm
      go_wp2
      go_ret2
      exact ⟨_, rfl, hC'.fil_end.ans (Nat.le_refl _) hb'⟩
end Go.Proofs.Ytdnhidachdjgaaa
