import Derived.Test.YtdnhidachdjgaaaMxh
import Derived.BigQuiet
namespace Go.Proofs.Ytdnhidachdjgaaa
open Go.RowKit Gf2
set_option linter.unusedVariables false

/-- a and b side by side, a of l columns. -/
def bes (l : Nat) (S T : Nat → Nat → Nat) : Nat → Nat → Nat := fun i j => if j < l then S i j else T i (j - l)
/-- a list of rows, each of n bytes. -/
theorem rows10 {w : World} {u : Value} {m n : Nat} {S : Nat → Nat → Nat} (h : Lb w u m (fun _ => n) S) (h0 : 1 ≤ m) : ∃ b o cap, u = .slice (some ⟨b, o, none⟩) m cap ∧ ∀ y, Below w.heap.size w y → ∀ i, i < m → ∃ x cx, y.cell? ⟨b, o + i, none⟩ = some (.slice x n cx) ∧ Rb y (.slice x n cx) n (S i) := by
  obtain ⟨V, ⟨hnb, a, cap, rfl, -, -, h4⟩, hV⟩ := h
  obtain ⟨b, o, rfl, hbl, hc⟩ := h4 h0
  refine ⟨b, o, cap, rfl, fun y hy i hi => ?_⟩
  obtain ⟨x, cx, e⟩ : ∃ x cx, V i = .slice x n cx := by obtain ⟨_, _, x, y, e, _⟩ := hV i hi; exact ⟨x, y, e⟩
  have hr := (hV i hi).rb.below hy
  rw [e] at hr
  exact ⟨x, cx, by rw [← e, ← hc i hi]; exact hy.cell (p := ⟨b, o + i, none⟩) hbl.1, hr⟩
theorem wrap_sum8 {a b : Nat} (h : a ≤ 512) (k : b ≤ 512) : wrap64 ((a : Int) + (b : Int)) = ((a + b : Nat) : Int) := by
  unfold wrap64
  omega
set_option maxHeartbeats 2000000 in
set_option maxRecDepth 100000 in
theorem beside10s (u v : Value) (m l k : Nat) (S T : Nat → Nat → Nat) (w : World) (hu : Lb w u m (fun _ => l) S) (hv : Lb w v m (fun _ => k) T) (hm : 1 ≤ m) (hm2 : m ≤ 256) (hl : 1 ≤ l) (hl2 : l ≤ 512) (hk : 1 ≤ k) (hk2 : k ≤ 512) :
    Calls Try.prog 60 #[u, v] w fun e w' => e = .returned (.slice (some ⟨w.heap.size, 0, none⟩) m m) ∧ AnsL w w' w.heap.size m (l + k) (bes l S T) := by
  obtain ⟨b, o, cap, rfl, hU⟩ := rows10 hu hm
  obtain ⟨b', o', cap', rfl, hV⟩ := rows10 hv hm
  obtain ⟨x0, y0, z0, -⟩ := hU w (Below.refl _ _) 0 hm
  obtain ⟨x1, y1, z1, -⟩ := hV w (Below.refl _ _) 0 hm
  rw [Nat.add_zero] at z0 z1
  have i0 : (0 : Int) < (m : Int) := Int.ofNat_lt.2 hm
  have W0 := wrap_sum8 hl2 hk2
  have c4 := fun x => zeros10_any m (l + k) x (by omega) (by omega)
  have HK : Hid (m ≤ 1000 ∧ m ≤ big ∧ l + k ≤ big) := ⟨by omega, by unfold big; omega, by unfold big; omega⟩
  obtain ⟨L, hL⟩ : ∃ L, Hid (L = l + k) := ⟨_, rfl⟩
  rw [← hL.out] at W0 c4 HK
  have HU : Hid _ := hU
  have HV : Hid _ := hV
  have HK2 : Hid (1 ≤ k ∧ 1 ≤ l) := ⟨hk, hl⟩
  clear hu hv hm hm2 hl hl2 hk hk2 hU hV
  go_enter Try.func60, Try.ntmps60
  go_wp2
  go_quiet (fail)
  go_wp2_with (go_at_call 39; (with_reducible refine (c4 _).mono ?_); rintro e w1 ⟨rfl, hz⟩)
  clear c4 W0 z0 z1 i0
  have hz : Zr w w1 m L m := ⟨hz.sz, hz.list, hz.rows, hz.bel.os, hz.bel.tape, hz.bel.output, hz.bel.size, hz.bel.block⟩
  have hC := hz.cs HK.out.2.1 HK.out.2.2
  have hb1 := hz.bel
  have hlz := hz.lz
  clear hz
  generalize hB : (fun i => w.heap.size + 1 + i) = B at hC
  clear hB
  go_loopw [26] (fun i wr => ∃ r : Nat, r ≤ m ∧ i = .int .i64 r ∧ Cs w.heap.size w1.heap.size wr (.slice (some ⟨w.heap.size, 0, none⟩) m m) m (fun _ => L) (fun _ => L) B (fil (bes l S T) (fun _ _ => 0) r 0) ∧ Below w.heap.size w wr ∧ Lz wr w.heap.size m) (fun i _ => m - (intOf i).toNat)
  case atStart => exact ⟨0, Nat.zero_le _, rfl, hC.fil_start _, hb1, hlz⟩
  case round =>
    obtain ⟨r, hr, rfl, hC', hb', hlz'⟩ := hrel
    clear hC hb1 hlz
    by_cases hlt : r < m
    · obtain ⟨x, cx, q1, hrb⟩ := HU.out wr hb' r hlt
      have q2 := hC'.at_ hlt
      have ib : ((r : Nat) : Int) < (m : Int) := Int.ofNat_lt.2 hlt
      have W1 := wrap_lt8 hlt HK.out.1
      have lL : ((l : Nat) : Int) < (L : Int) := by have := hL.out; have := HK2.out; omega
      have lL2 : ((l : Nat) : Int) ≤ (L : Int) := Int.le_of_lt lL
      have lL3 : ¬ L = l := by omega
      obtain ⟨w5, hrun, hr5, ho5⟩ := copy10 (o := 0) (dl := L) (cap := L) (hC'.row r hlt).2.2.2 hrb (Nat.le_of_eq (Nat.zero_add L)) (by omega)
      have hC5 := hC'.turn1 hlt ho5.kp hr5
      have hb5 : Below w.heap.size w w5 := hb'.trans (ho5.kp.below (hC'.row r hlt).1 hb'.size)
      obtain ⟨x', cx', q3, hrb'⟩ := HV.out w5.drew hb5.drew r hlt
      obtain ⟨w6, hrun6, hr6, ho6⟩ := copy10 (w := w5.drew) (o := l) (dl := L - l) (cap := L - l) ((hC5.drewN 1).row r hlt).2.2.2 hrb' (by have := hL.out; omega) (by have := hL.out; omega)
      have hC6 := (hC5.drewN 1).turn1 hlt ho6.kp hr6
      have HE : Hid (Cs w.heap.size w1.heap.size w6 (.slice (some ⟨w.heap.size, 0, none⟩) m m) m (fun _ => L) (fun _ => L) B (fil (bes l S T) (fun _ _ => 0) (r + 1) 0) ∧ Below w.heap.size w w6 ∧ Lz w6 w.heap.size m) := ⟨hC6.congr (fun i _ j hj => by
        have hj : j < L := hj
        have hLk := hL.out
        unfold fil
        by_cases e : i = r
        · subst e
          rw [upn_same, if_pos (by omega)]
          unfold pl bes
          by_cases e2 : j < l
          · rw [if_neg (by omega), if_pos e2, upn_same, if_pos (by omega), Nat.sub_zero]
          · rw [if_pos (by omega), if_neg e2]
        · rw [upn_other _ _ e, upn_other _ _ e]
          by_cases e2 : i < r
          · rw [if_pos (by omega), if_pos (by omega)]
          · rw [if_neg (by omega), if_neg (by omega)]), (below_drewN hb5 1).trans (ho6.kp.below ((hC5.drewN 1).row r hlt).1 (below_drewN hb5 1).size), Lz.kp (w := w5.drew) ((hlz'.kp hC' hlt ho5.kp).of_heap rfl) (hC5.drewN 1) hlt ho6.kp⟩
      have HX : Hid (r < m) := hlt
      clear hC' hb' hlz' hrb hlt hr hr5 ho5 hC5 hb5 hrb' hr6 ho6 hC6 HU HV
      go_wp2
      refine region_planT (fun w' => w'.cell? ⟨b', o' + r, none⟩ = some (.slice x' k cx')) 7 [7] 47 q3 (by kernel_rfl) (by kernel_rfl) (fun _ a d v _ h => by cases d <;> exact h) ?_
      refine planT_last ?A2x0 rfl (fun w' hS => ?s2x0) rfl ?n2x0
      case s2x0 =>
        simp only [List.take_succ_cons, List.take_zero]
        repeat still_step
        exact rfl
      case n2x0 =>
      simp only [List.drop_succ_cons, List.drop_zero]
      go_wp2
      go_roundw
      case rel => first | exact ⟨r + 1, HX.out, by first | rfl | (rw [W1]; rfl), HE.out.1, HE.out.2.1, HE.out.2.2⟩ | (rw [W1]; (repeat apply Exists.intro); exact ⟨⟨r + 1, HX.out, rfl, HE.out.1, HE.out.2.1, HE.out.2.2⟩, rfl⟩)
      case measure => first | exact meas_lt8 HX.out | (rw [W1]; exact meas_lt8 HX.out)
    · have hrm : r = m := Nat.le_antisymm hr (Nat.le_of_not_lt hlt)
      subst hrm
      have := hL.out
      go_wp2
      go_ret
      exact ⟨rfl, by rw [← hL.out]; exact hC'.fil_end.ansL hlz' (Nat.le_refl _) hb'⟩
theorem beside10 (u v : Value) (m l k : Nat) (S T : Nat → Nat → Nat) (w : World) (hu : Lb w u m (fun _ => l) S) (hv : Lb w v m (fun _ => k) T) (hm : 1 ≤ m) (hm2 : m ≤ 256) (hl : 1 ≤ l) (hl2 : l ≤ 512) (hk : 1 ≤ k) (hk2 : k ≤ 512) :
    Calls Try.prog 60 #[u, v] w fun e w' => ∃ x, e = .returned x ∧ Ans w w' x m (l + k) (bes l S T) :=
  (beside10s u v m l k S T w hu hv hm hm2 hl hl2 hk hk2).mono fun e w' ⟨h1, h2⟩ => ⟨_, h1, h2.ans⟩
end Go.Proofs.Ytdnhidachdjgaaa
