import Derived.Test.YtefolifecbhgoaaGreatMbbz
import Derived.Test.YtefolifecbhgoaaGreatMbak
namespace Go.Proofs.YtefolifecbhgoaaGreat
open Go.RowKit Gf2
set_option linter.unusedVariables false


structure Rq17 (w : World) (v : Value) (n : Nat) (A : Nat → Option Addr) (N C : Nat → Nat) (G : Nat → Nat → Int) : Prop where
  le : n ≤ 140737488351232
  at_ : ∃ a cap, v = .slice a n cap ∧ (0 < n → ∃ g o, a = some ⟨g, o, none⟩ ∧ g < w.heap.size ∧ ∀ i, i < n → w.cell? ⟨g, o + i, none⟩ = some (.slice (A i) (N i) (C i)))
  row : ∀ i, i < n → Qi w (.slice (A i) (N i) (C i)) (N i) (G i)
set_option maxHeartbeats 4000000 in
set_option maxRecDepth 100000 in
theorem back17_any (nF nB nK nM : Int) (da : Option Addr) (dn dc : Nat) (ra : Option Addr) (rn rc : Nat) (W : World) (hd : ∃ D, Rb W (.slice da dn dc) dn D) (hdn : dn ≤ 140737488351232) (hr : ∃ A N C G, Rq17 W (.slice ra rn rc) rn A N C G) :
    Calls Tryz.prog 5 #[.agg #[.int .i64 nF, .int .i64 nB, .int .i64 nK, .int .i64 nM], .slice da dn dc, .slice ra rn rc] W fun e w' => e = .returned (.bool true) ∧ Below W.heap.size W w' := by
  obtain ⟨D, hD⟩ := hd
  obtain ⟨A, NN, CC, G, hR⟩ := hr
  have i1 := ino17_in (n := nK) (lo := 1) (hi := 20) (by decide) (by decide)
  have i2 := ino17_in (n := nM) (lo := 1) (hi := 12) (by decide) (by decide)
  have i3 := ino17_in (n := nF) (lo := 0) (hi := 1) (by decide) (by decide)
  obtain ⟨x, hx⟩ : ∃ x, x = W.alloc (.cells #[.int .i64 nF, .int .i64 nB, .int .i64 nK, .int .i64 nM] 23) := ⟨_, rfl⟩
  have hb0 : Below W.heap.size W x := by rw [hx]; exact (Below.refl _ _).alloc (Nat.le_refl _) _
  have hblk : x.heap[W.heap.size]? = some (.cells #[.int .i64 nF, .int .i64 nB, .int .i64 nK, .int .i64 nM] 23 (0, 0)) := by rw [hx]; exact heap_alloc_new _ _
  have HX : Hid (W.alloc (.cells #[.int .i64 nF, .int .i64 nB, .int .i64 nK, .int .i64 nM] 23) = x) := hx.symm
  have c1 := made17 nF nB nK nM x
  have z0 : x.cell? ⟨W.heap.size, 0, none⟩ = some (.int .i64 nF) := by rw [cell_of_row _ _ 0 _ _ _ hblk]; rfl
  have z1 : x.cell? ⟨W.heap.size, 1, none⟩ = some (.int .i64 nB) := by rw [cell_of_row _ _ 1 _ _ _ hblk]; rfl
  have z2 : x.cell? ⟨W.heap.size, 2, none⟩ = some (.int .i64 nK) := by rw [cell_of_row _ _ 2 _ _ _ hblk]; rfl
  have z3 : x.cell? ⟨W.heap.size, 3, none⟩ = some (.int .i64 nM) := by rw [cell_of_row _ _ 3 _ _ _ hblk]; rfl
  have hfam : (((ino17 nF 0 1 : Nat) : Int) = 0 ∨ ((ino17 nF 0 1 : Nat) : Int) = 1) := by omega
  generalize ino17 nK 1 20 = k at *
  generalize ino17 nM 1 12 = m at *
  generalize ((ino17 nF 0 1 : Nat) : Int) = f at *
  generalize ino17 nB 0 2 = b at *
  obtain ⟨l, hl⟩ : ∃ l, l = cul17 dn k := ⟨_, rfl⟩
  have hl2 := cul17_in dn k
  rw [← hl] at hl2
  have hbn : Bn17 k m l := ⟨i1.1, i1.2, i2.1, i2.2, hl2.1, hl2.2⟩
  have HC : Hid (∀ w1 c, Md17 x w1 c f k m b → ∀ w2, Below w1.heap.size w1 w2 → _) := fun w1 c hM w2 b12 => back_a17 (W := W) (x := x) (w1 := w1) (w2 := w2) (c := c) (f := f) (k := k) (m := m) (b := b) (l := l) (da := da) (dn := dn) (dc := dc) (D := D) hb0 hD hdn hbn hfam hl hM b12
  have HI : Hid (Bn17 k m l ∧ (f = 0 ∨ f = 1) ∧ Below W.heap.size W x ∧ Rq17 W (.slice ra rn rc) rn A NN CC G) := ⟨hbn, hfam, hb0, hR⟩
  have c2 := fun w => awake17 w
  obtain ⟨km, hkm⟩ : ∃ km, km = k + m := ⟨_, rfl⟩
  have HKm : Hid (km = k + m) := hkm
  have H1 : Hid (headL17 = headL17) := rfl
  clear i1 i2 i3 hfam hl hl2 hb0 hblk hx hD hdn hR hbn hkm H1
  go_enter Tryz.func5, Tryz.ntmps5
  go_wp2_with (first
    | (go_at_call 7; rw [HX.out]; (with_reducible refine c1.mono ?_); rintro e w1 ⟨c, rfl, hM⟩; clear c1 z0 z1 z2 z3)
    | (go_at_call 8; (with_reducible refine (c2 _).mono ?_); rintro e w2 ⟨rfl, hb2⟩; clear c2; have c3 := HC.out w1 c hM w2 hb2; rw [← HKm.out] at c3; have s1 := headL17 w2.heap.size 0 km km k (by have := HKm.out; omega); clear HC hM hb2)
    | (go_at_call 9; (with_reducible refine c3.mono ?_); rintro e w3 ⟨rfl, c4⟩; clear c3; have s2 := headL17 w3.heap.size 0 km km k (by have := HKm.out; omega))
    | (go_at_call 10; (with_reducible refine c4.mono ?_); rintro e w4 ⟨rfl, c5⟩; clear c4))
  refine region_planI (fun w' => True) [0, 1, 2, 3, 4, 5, 6, 7, 8, 9, 10, 11, 12, 13, 14, 15, 16, 17, 18, 19, 20, 21] [2, 8, 7, 2] 210 trivial (by kernel_rfl) (by kernel_rfl) (fun _ a d v _ h => by cases d <;> exact h) ?_
  simp only [atI, List.getElem?_cons_zero, List.getElem?_cons_succ]
  refine planH_step ?Au0 rfl (fun w' hS => ?su0) rfl (fun K hK => ?nu0)
  case su0 =>
    simp only [List.take_succ_cons, List.take_zero]
    repeat still_step
    exact rfl
  case nu0 =>
  go_simp
  go_wp2_with (go_at_call 11; (with_reducible refine c5.mono ?_); rintro e w5 ⟨rfl, c6⟩; clear c5)
  refine hK _ _ trivial ?_
  clear hK K
  refine planH_step ?Au1 rfl (fun w' hS => ?su1) rfl (fun K hK => ?nu1)
  case su1 =>
    simp only [List.take_succ_cons, List.take_zero]
    repeat still_step
    exact rfl
  case nu1 =>
  clear s1 s2
  go_simp
  go_wp2_with (go_at_call 12; (with_reducible refine c6.mono ?_); rintro e w6 ⟨rfl, c7⟩; clear c6)
  refine hK _ _ trivial ?_
  clear hK K
  refine planH_step ?Au2 rfl (fun w' hS => ?su2) rfl (fun K hK => ?nu2)
  case su2 =>
    simp only [List.take_succ_cons, List.take_zero]
    repeat still_step
    exact rfl
  case nu2 =>
  go_simp
  go_wp2_with (go_at_call 13; (with_reducible refine c7.mono ?_); rintro e w7 ⟨rfl, c8⟩; clear c7)
  refine hK _ _ trivial ?_
  clear hK K
  refine planH_last ?Au3 rfl (fun w' hS => ?su3) rfl ?nu3
  case su3 =>
    simp only [List.take_succ_cons, List.take_zero]
    repeat still_step
    exact rfl
  case nu3 =>
  go_wp2_with (go_at_call 10; (with_reducible refine c8.mono ?_); rintro e w8 ⟨rfl, hB⟩; clear c8; have HB : Hid _ := hB; clear hB)
  go_loopw [13] (fun s13 wr => ∃ r : Nat, r ≤ rn + 1 ∧ s13 = .int .i64 ((r : Int) - 1) ∧ Bw17 W wr c f k m b l w7.heap.size w8.heap.size (768 + 512 * r)) (fun s13 _ => rn + 1 - (intOf s13 + 1).toNat)
  case atStart => exact ⟨0, Nat.zero_le _, rfl, HB.out⟩
  case round =>
    obtain ⟨r, hr, rfl, hB⟩ := hrel
    clear HB
    by_cases hlt : r ≤ rn
    · have HW2 : Hid (wrap64 ((k : Int) + (m : Int)) = (km : Int)) := by
        show wrap64 ((k : Int) + (m : Int)) = (km : Int)
        have a1 := HKm.out
        have a2 := HI.out.1.2.1
        have a3 := HI.out.1.2.2.2.1
        rw [a1]
        exact wrap_sum17 (by omega)
      have HB : Hid _ := hB
      have HR : Hid (r ≤ rn ∧ rn ≤ 140737488351232) := ⟨hlt, HI.out.2.2.2.le⟩
      have ib : (r : Int) - 1 < (rn : Int) := by omega
      have mk : 1 ≤ m ∧ m ≤ 12 := ⟨HI.out.1.2.2.1, HI.out.1.2.2.2.1⟩
      have c9 : ∀ pn : Nat, ∀ y, Calls Tryz.prog 15 #[.int .i64 (pn : Int), .int .i64 1, .int .i64 (m : Int)] y fun e w' => e = .returned (.int .i64 (ino17 (pn : Int) 1 m : Nat)) ∧ w' = y := fun pn y => into17 (pn : Int) 1 m y mk.1 (by omega)
      have c10 : ∀ pa pn pc G cp, Qi wr (.slice pa pn pc) pn G → cp ≤ k + m → _ := fun pa pn pc G cp hG hcp => back_p17 (cp := cp) HB.out HI.out.1 hG hcp
      rw [← HKm.out] at c10
      clear hB hr hlt mk
      by_cases h0 : r = 0
      · have ic : ¬ ((r : Int) - 1 ≥ 0) := by omega
        have W2 := HW2.out
        obtain ⟨cp, hcp⟩ : ∃ cp, cp = ino17 ((0 : Nat) : Int) 1 m := ⟨_, rfl⟩
        have HCp : Hid (1 ≤ cp ∧ cp ≤ m) := by
          show 1 ≤ cp ∧ cp ≤ m
          rw [hcp]
          exact ino17_in (n := ((0 : Nat) : Int)) (lo := 1) (hi := m) HI.out.1.2.2.1 (by have := HI.out.1.2.2.2.1; omega)
        have c11 := c10 none 0 0 (fun _ => 0) cp ⟨Nat.zero_le _, trivial, _, _, rfl, Nat.le_refl _, Nat.zero_le _, fun h => absurd h (Nat.lt_irrefl _)⟩ (by have := HCp.out; have := HKm.out; omega)
        have c9' : ∀ y, Calls Tryz.prog 15 #[.int .i64 0, .int .i64 1, .int .i64 (m : Int)] y fun e w' => e = .returned (.int .i64 (cp : Nat)) ∧ w' = y := fun y => by rw [hcp]; exact c9 0 y
        clear hcp
        clear c10 c9
        go_wp2_with (first
          | (go_at_call 15; (with_reducible refine (c9' _).mono ?_); rintro e w9 ⟨rfl, hw9⟩; have hw9 := hw9.symm; subst hw9; clear c9')
          | (go_at_call 14; (with_reducible refine c11.mono ?_); rintro e v1 ⟨rfl, c12⟩; clear c11)
          | (go_at_call 10; (with_reducible refine c12.mono ?_); rintro e v2 ⟨rfl, c13⟩; clear c12)
          | (go_at_call 10; (with_reducible refine c13.mono ?_); rintro e v3 ⟨rfl, c14⟩; clear c13)
          | (go_at_call 10; (with_reducible refine c14.mono ?_); rintro e v4 ⟨rfl, hP⟩; clear c14; have HP : Hid _ := hP; clear hP))
        obtain ⟨P, hPP⟩ : ∃ P, P = pk17 km (pg17 0 (fun _ => (0 : Int))) cp := ⟨_, rfl⟩
        rw [← hPP] at HP
        have HL : Hid (1 ≤ (ems P (k + m)).length ∧ (ems P (k + m)).length ≤ m) := by
          show 1 ≤ (ems P (k + m)).length ∧ (ems P (k + m)).length ≤ m
          have h1 := HCp.out
          have h3 := HI.out.1
          unfold Bn17 at h3
          have h4 := HKm.out
          rw [← h4, hPP, pk17_len (by omega) _ (by omega)]
          exact h1
        clear W2 hPP
        go_loopw [19] (fun s19 wr' => ∃ j : Nat, j ≤ km ∧ s19 = .int .i64 j ∧ Bp17 W wr v1 v2 v3 v4 wr' c f k m b l w7.heap.size w8.heap.size (768 + 512 * r) P j) (fun s19 _ => km - (intOf s19).toNat)
        case atStart => exact ⟨0, Nat.zero_le _, rfl, by first | exact HP.out | (rw [h0]; exact HP.out)⟩
        case round =>
          obtain ⟨j, hj, rfl, hB⟩ := hrel
          by_cases hlt : j < km
          · have HJ : Hid (j < km ∧ km ≤ 32) := ⟨hlt, by have a1 := HKm.out; have a2 := HI.out.1.2.1; have a3 := HI.out.1.2.2.2.1; omega⟩
            have jk : ((j : Nat) : Int) < (km : Int) := by omega
            have qo := hB.out.cell (i := j) (by rw [← HKm.out]; exact hlt)
            cases hPj : P j
            · rw [hPj] at qo
              have HE : Hid _ := hB.pass hPj
              have W1 := wrap_succ8 (j := j) (by have := HJ.out; unfold big; omega)
              clear hB hPj hj
              have W2 := HW2.out
              go_wp2
              go_roundw
              case rel => exact ⟨j + 1, HJ.out.1, by first | rfl | (rw [W1]; rfl), HE.out⟩
              case measure => first | exact meas_lt8 HJ.out.1 | (rw [W1]; exact meas_lt8 HJ.out.1)
            · rw [hPj] at qo
              obtain ⟨⟨a1, q1⟩, f1, ⟨a2, q2⟩, f2, hlo, hhi⟩ := hB.hit (by rw [← HKm.out]; exact hlt) hPj
              have W1 := wrap_succ8 (j := j) (by have := HJ.out; unfold big; omega)
              by_cases hjk : j < k
              · have HE : Hid _ := hlo hjk
                have jk2 : ¬ ((j : Nat) : Int) ≥ (k : Int) := by omega
                clear hB hPj hj hlo hhi
                have W2 := HW2.out
                go_wp2
                go_roundw
                case rel => exact ⟨j + 1, HJ.out.1, by first | rfl | (rw [W1]; rfl), HE.out⟩
                case measure => first | exact meas_lt8 HJ.out.1 | (rw [W1]; exact meas_lt8 HJ.out.1)
              · obtain ⟨⟨a3, q3⟩, f3, hE⟩ := hhi (by omega)
                have HE : Hid _ := hE
                have jk2 : ((j : Nat) : Int) ≥ (k : Int) := by omega
                clear hB hPj hj hlo hhi hE
                have W2 := HW2.out
                go_wp2
                go_roundw
                case rel => exact ⟨j + 1, HJ.out.1, by first | rfl | (rw [W1]; rfl), HE.out⟩
                case measure => first | exact meas_lt8 HJ.out.1 | (rw [W1]; exact meas_lt8 HJ.out.1)
          · obtain rfl : j = km := by omega
            have jk : ¬ ((j : Nat) : Int) < (j : Int) := by omega
            have hM : 768 + 512 * r ≤ 1000000000000000000 := by have := HR.out; omega
            have c15 := back_q17 (by rw [← HKm.out]; exact hB) HI.out.1 HI.out.2.1 HL.out.1 HL.out.2 hM
            rw [← HKm.out] at c15
            clear hB hj hlt hM
            have W2 := HW2.out
            obtain ⟨cq, hcq⟩ : ∃ cq : Nat, cq = min (m + 1) (j - 1) := ⟨_, rfl⟩
            have HM : Hid (min (wrap64 ((m : Int) + 1)) (wrap64 ((j : Int) - 1)) = (cq : Int)) := by
              show min (wrap64 ((m : Int) + 1)) (wrap64 ((j : Int) - 1)) = (cq : Int)
              have a1 := HKm.out
              have a2 := HI.out.1
              unfold Bn17 at a2
              have e1 : wrap64 ((m : Int) + 1) = ((m + 1 : Nat) : Int) := by have := wrap_sum17 (a := m) (b := 1) (by omega); exact this
              have e2 : wrap64 ((j : Int) - 1) = ((j - 1 : Nat) : Int) := wrap_pred17 (by omega) (by omega)
              rw [e1, e2, hcq]
              omega
            have HCq : Hid (cq ≤ j ∧ cq < j ∧ cq ≤ m + 1) := by
              show cq ≤ j ∧ cq < j ∧ cq ≤ m + 1
              have a1 := HKm.out
              have a2 := HI.out.1
              unfold Bn17 at a2
              omega
            have HS : Hid (∀ x5, Bw17 W x5 c f k m b l w7.heap.size w8.heap.size (768 + 512 * r + 512) → Calls Tryz.prog 14 #[.int .i64 (j : Int), .int .i64 (cq : Int), .slice none 0 0] x5 fun e w1 => e = .returned (sl17 x5.heap.size j) ∧
                Calls Tryz.prog 10 #[sl17 w7.heap.size j] w1 fun e w2 => e = .returned (sl17 w1.heap.size j) ∧
                Calls Tryz.prog 10 #[sl17 w7.heap.size j] w2 fun e w3 => e = .returned (sl17 w2.heap.size j) ∧ Bx17 W x5 w1 w2 w3 w3 c f k m b l w7.heap.size w8.heap.size (768 + 512 * r + 512) (pk17 j (pg17 0 (fun _ => (0 : Int))) cq) 0) := fun x5 h5 => by
              have := back_s17 (cp := cq) (pa := none) (pn := 0) (pc := 0) (G := fun _ => (0 : Int)) h5 HI.out.1 ⟨Nat.zero_le _, trivial, _, _, rfl, Nat.le_refl _, Nat.zero_le _, fun h => absurd h (Nat.lt_irrefl _)⟩ (by have := HCq.out; have := HKm.out; omega)
              rw [← HKm.out] at this
              exact this
            clear hcq
            go_wp2_with (first
              | (go_at_call 16; (with_reducible refine c15.mono ?_); rintro e x1 ⟨rfl, c16⟩; clear c15)
              | (go_at_call 12; (with_reducible refine c16.mono ?_); rintro e x2 ⟨rfl, c17⟩; clear c16)
              | (go_at_call 17; (with_reducible refine c17.mono ?_); rintro e x3 ⟨rfl, c18⟩; clear c17)
              | (go_at_call 12; (with_reducible refine c18.mono ?_); rintro e x4 ⟨rfl, c19⟩; clear c18)
              | (go_at_call 18; (with_reducible refine c19.mono ?_); rintro e x5 ⟨rfl, hB5⟩; clear c19; have c20 := HS.out x5 hB5; clear hB5 HS)
              | (go_at_call 14; rw [HM.out]; (with_reducible refine c20.mono ?_); rintro e y1 ⟨rfl, c21⟩; clear c20)
              | (go_at_call 10; (with_reducible refine c21.mono ?_); rintro e y2 ⟨rfl, c22⟩; clear c21)
              | (go_at_call 10; (with_reducible refine c22.mono ?_); rintro e y3 ⟨rfl, hX⟩; clear c22; have HXx : Hid _ := hX; clear hX))
            obtain ⟨P2, hP2⟩ : ∃ P2, P2 = pk17 j (pg17 0 (fun _ => (0 : Int))) cq := ⟨_, rfl⟩
            rw [← hP2] at HXx
            have HL2 : Hid ((ems P2 (k + m)).length = cq) := by
              show (ems P2 (k + m)).length = cq
              have h3 := HI.out.1
              unfold Bn17 at h3
              have h4 := HKm.out
              have h5 := HCq.out
              rw [← h4, hP2, pk17_len (by omega) _ (by omega)]
            clear W2 hP2
            go_loopw [25, 26] (fun s25 s26 wr' => ∃ i : Nat, i ≤ j ∧ s25 = .int .i64 ((ems P2 i).length : Nat) ∧ s26 = .int .i64 i ∧ Bx17 W x5 y1 y2 y3 wr' c f k m b l w7.heap.size w8.heap.size (768 + 512 * r + 512) P2 i) (fun _ s26 _ => j - (intOf s26).toNat)
            case atStart => exact ⟨0, Nat.zero_le _, rfl, rfl, HXx.out⟩
            case round =>
              obtain ⟨i, hi, rfl, rfl, hB⟩ := hrel
              clear HXx
              by_cases hlt : i < j
              · have HJ : Hid (i < j ∧ j ≤ 32) := ⟨hlt, by have a1 := HKm.out; have a2 := HI.out.1.2.1; have a3 := HI.out.1.2.2.2.1; omega⟩
                have jk : ((i : Nat) : Int) < (j : Int) := by omega
                have qo := hB.out.cell (i := i) (by rw [← HKm.out]; exact hlt)
                cases hPj : P2 i
                · rw [hPj] at qo
                  have HE : Hid _ := hB.pass hPj
                  have HQ : Hid ((ems P2 (i + 1)).length = (ems P2 i).length) := by show _ = _; rw [ems_no hPj]
                  have W1 := wrap_succ8 (j := i) (by have := HJ.out; unfold big; omega)
                  clear hB hPj hi
                  have W2 := HW2.out
                  go_wp2
                  go_roundw
                  case rel => exact ⟨i + 1, HJ.out.1, by rw [HQ.out], by first | rfl | (rw [W1]; rfl), HE.out⟩
                  case measure => first | exact meas_lt8 HJ.out.1 | (rw [W1]; exact meas_lt8 HJ.out.1)
                · rw [hPj] at qo
                  obtain ⟨⟨a1, q1⟩, f1, ⟨a2, q2⟩, f2, hE⟩ := hB.hit (by rw [← HKm.out]; exact hlt) hPj
                  have HE : Hid _ := hE
                  obtain ⟨xq, hxq⟩ : ∃ xq, xq = (ems P2 i).length := ⟨_, rfl⟩
                  have hxj : xq ≤ i := by rw [hxq]; exact ems_le P2 i
                  have HQ : Hid ((ems P2 (i + 1)).length = xq + 1) := by show _ = _; rw [ems_len_yes hPj, hxq]
                  rw [← hxq]
                  have W1 := wrap_succ8 (j := i) (by have := HJ.out; unfold big; omega)
                  have Wx := wrap_succ8 (j := xq) (by have := HJ.out; unfold big; omega)
                  clear hB hPj hi hE hxq hxj
                  have W2 := HW2.out
                  go_wp2
                  go_roundw
                  case rel => exact ⟨i + 1, HJ.out.1, by rw [HQ.out]; first | rfl | (rw [Wx]; rfl), by first | rfl | (rw [W1]; rfl), HE.out⟩
                  case measure => first | exact meas_lt8 HJ.out.1 | (rw [W1]; exact meas_lt8 HJ.out.1)
              · obtain rfl : i = j := by omega
                have jk : ¬ ((i : Nat) : Int) < (i : Int) := by omega
                have el : (ems P2 i).length = cq := by have h1 := HL2.out; rw [← HKm.out] at h1; exact h1
                rw [el]
                by_cases hm : m < cq
                · have im : ((cq : Nat) : Int) > (m : Int) := by omega
                  have im2 : (m : Int) < (cq : Int) := by omega
                  have c23 := back_t17 (by rw [← HKm.out]; exact hB) HI.out.1 (by rw [HL2.out]; exact hm) (by rw [HL2.out]; have := HCq.out; have := HKm.out; omega)
                  rw [← HKm.out] at c23
                  clear hB hi hlt el hm
                  have W2 := HW2.out
                  go_wp2_with (first
                    | (go_at_call 16; (with_reducible refine c23.mono ?_); rintro e u1 ⟨rfl, c24⟩; clear c23)
                    | (go_at_call 17; (with_reducible refine c24.mono ?_); rintro e u2 ⟨rfl, c25⟩; clear c24)
                    | (go_at_call 12; (with_reducible refine c25.mono ?_); rintro e u3 ⟨rfl, hZ⟩; clear c25; have HZ : Hid _ := hZ; clear hZ))
                  go_roundw
                  case rel => exact ⟨r + 1, by have := HR.out.1; omega, by rw [h0]; rfl, HZ.out⟩
                  case measure => rw [h0]; simp [intOf]
                · have im : ¬ ((cq : Nat) : Int) > (m : Int) := by omega
                  have im2 : ¬ (m : Int) < (cq : Int) := by omega
                  have HZ : Hid _ := hB.bw
                  clear hB hi hlt el hm
                  have W2 := HW2.out
                  go_wp2
                  go_roundw
                  case rel => exact ⟨r + 1, by have := HR.out.1; omega, by rw [h0]; rfl, HZ.out⟩
                  case measure => rw [h0]; simp [intOf]
      · obtain ⟨r', hr'⟩ : ∃ r', r = r' + 1 := ⟨r - 1, by omega⟩
        have ei : ((r : Int) - 1) = (r' : Int) := by omega
        rw [ei] at ib ⊢
        have ic : (r' : Int) ≥ 0 := by omega
        have HRr : Hid (r = r' + 1) := hr'
        have Wr := wrap_succ8 (j := r') (by have := HR.out; have := HRr.out; unfold big; omega)
        obtain ⟨ra', rc', era, hat⟩ := HI.out.2.2.2.at_
        cases era
        obtain ⟨rg, ro, hra, hrg, hrc⟩ := hat (by have := HR.out; have := HRr.out; omega)
        subst hra
        have qr : wr.cell? ⟨rg, ro + r', none⟩ = some (.slice (A r') (NN r') (CC r')) := (HB.out.bel.cell (p := ⟨rg, ro + r', none⟩) hrg).trans (hrc r' (by have := HR.out; have := HRr.out; omega))
        have hG : Qi W (.slice (A r') (NN r') (CC r')) (NN r') (G r') := HI.out.2.2.2.row r' (by have := HR.out; have := HRr.out; omega)
        have ir : r' < rn := by have := HR.out; have := HRr.out; omega
        generalize A r' = pa at qr hG
        generalize NN r' = pn at qr hG
        generalize CC r' = pc at qr hG
        generalize G r' = GG at hG
        have HGG : Hid (Qi W (.slice pa pn pc) pn GG) := hG
        clear hr' ei hat hrc hG hrg
        have W2 := HW2.out
        obtain ⟨cp, hcp⟩ : ∃ cp, cp = ino17 (pn : Int) 1 m := ⟨_, rfl⟩
        have HCp : Hid (1 ≤ cp ∧ cp ≤ m) := by
          show 1 ≤ cp ∧ cp ≤ m
          rw [hcp]
          exact ino17_in (n := (pn : Int)) (lo := 1) (hi := m) HI.out.1.2.2.1 (by have := HI.out.1.2.2.2.1; omega)
        have c11 := c10 pa pn pc GG cp (HGG.out.below HB.out.bel) (by have := HCp.out; have := HKm.out; omega)
        have c9' : ∀ y, Calls Tryz.prog 15 #[.int .i64 (pn : Int), .int .i64 1, .int .i64 (m : Int)] y fun e w' => e = .returned (.int .i64 (cp : Nat)) ∧ w' = y := fun y => by rw [hcp]; exact c9 pn y
        clear hcp
        clear c10 c9
        go_wp2_with (first
          | (go_at_call 15; (with_reducible refine (c9' _).mono ?_); rintro e w9 ⟨rfl, hw9⟩; have hw9 := hw9.symm; subst hw9; clear c9')
          | (go_at_call 14; (with_reducible refine c11.mono ?_); rintro e v1 ⟨rfl, c12⟩; clear c11)
          | (go_at_call 10; (with_reducible refine c12.mono ?_); rintro e v2 ⟨rfl, c13⟩; clear c12)
          | (go_at_call 10; (with_reducible refine c13.mono ?_); rintro e v3 ⟨rfl, c14⟩; clear c13)
          | (go_at_call 10; (with_reducible refine c14.mono ?_); rintro e v4 ⟨rfl, hP⟩; clear c14; have HP : Hid _ := hP; clear hP))
        obtain ⟨P, hPP⟩ : ∃ P, P = pk17 km (pg17 pn GG) cp := ⟨_, rfl⟩
        rw [← hPP] at HP
        have HL : Hid (1 ≤ (ems P (k + m)).length ∧ (ems P (k + m)).length ≤ m) := by
          show 1 ≤ (ems P (k + m)).length ∧ (ems P (k + m)).length ≤ m
          have h1 := HCp.out
          have h3 := HI.out.1
          unfold Bn17 at h3
          have h4 := HKm.out
          rw [← h4, hPP, pk17_len (by omega) _ (by omega)]
          exact h1
        clear W2 hPP
        go_loopw [19] (fun s19 wr' => ∃ j : Nat, j ≤ km ∧ s19 = .int .i64 j ∧ Bp17 W wr v1 v2 v3 v4 wr' c f k m b l w7.heap.size w8.heap.size (768 + 512 * r) P j) (fun s19 _ => km - (intOf s19).toNat)
        case atStart => exact ⟨0, Nat.zero_le _, rfl, HP.out⟩
        case round =>
          obtain ⟨j, hj, rfl, hB⟩ := hrel
          by_cases hlt : j < km
          · have HJ : Hid (j < km ∧ km ≤ 32) := ⟨hlt, by have a1 := HKm.out; have a2 := HI.out.1.2.1; have a3 := HI.out.1.2.2.2.1; omega⟩
            have jk : ((j : Nat) : Int) < (km : Int) := by omega
            have qo := hB.out.cell (i := j) (by rw [← HKm.out]; exact hlt)
            cases hPj : P j
            · rw [hPj] at qo
              have HE : Hid _ := hB.pass hPj
              have W1 := wrap_succ8 (j := j) (by have := HJ.out; unfold big; omega)
              clear hB hPj hj
              have W2 := HW2.out
              go_wp2
              go_roundw
              case rel => exact ⟨j + 1, HJ.out.1, by first | rfl | (rw [W1]; rfl), HE.out⟩
              case measure => first | exact meas_lt8 HJ.out.1 | (rw [W1]; exact meas_lt8 HJ.out.1)
            · rw [hPj] at qo
              obtain ⟨⟨a1, q1⟩, f1, ⟨a2, q2⟩, f2, hlo, hhi⟩ := hB.hit (by rw [← HKm.out]; exact hlt) hPj
              have W1 := wrap_succ8 (j := j) (by have := HJ.out; unfold big; omega)
              by_cases hjk : j < k
              · have HE : Hid _ := hlo hjk
                have jk2 : ¬ ((j : Nat) : Int) ≥ (k : Int) := by omega
                clear hB hPj hj hlo hhi
                have W2 := HW2.out
                go_wp2
                go_roundw
                case rel => exact ⟨j + 1, HJ.out.1, by first | rfl | (rw [W1]; rfl), HE.out⟩
                case measure => first | exact meas_lt8 HJ.out.1 | (rw [W1]; exact meas_lt8 HJ.out.1)
              · obtain ⟨⟨a3, q3⟩, f3, hE⟩ := hhi (by omega)
                have HE : Hid _ := hE
                have jk2 : ((j : Nat) : Int) ≥ (k : Int) := by omega
                clear hB hPj hj hlo hhi hE
                have W2 := HW2.out
                go_wp2
                go_roundw
                case rel => exact ⟨j + 1, HJ.out.1, by first | rfl | (rw [W1]; rfl), HE.out⟩
                case measure => first | exact meas_lt8 HJ.out.1 | (rw [W1]; exact meas_lt8 HJ.out.1)
          · obtain rfl : j = km := by omega
            have jk : ¬ ((j : Nat) : Int) < (j : Int) := by omega
            have hM : 768 + 512 * r ≤ 1000000000000000000 := by have := HR.out; omega
            have c15 := back_q17 (by rw [← HKm.out]; exact hB) HI.out.1 HI.out.2.1 HL.out.1 HL.out.2 hM
            rw [← HKm.out] at c15
            clear hB hj hlt hM
            have W2 := HW2.out
            obtain ⟨cq, hcq⟩ : ∃ cq : Nat, cq = min (m + 1) (j - 1) := ⟨_, rfl⟩
            have HM : Hid (min (wrap64 ((m : Int) + 1)) (wrap64 ((j : Int) - 1)) = (cq : Int)) := by
              show min (wrap64 ((m : Int) + 1)) (wrap64 ((j : Int) - 1)) = (cq : Int)
              have a1 := HKm.out
              have a2 := HI.out.1
              unfold Bn17 at a2
              have e1 : wrap64 ((m : Int) + 1) = ((m + 1 : Nat) : Int) := by have := wrap_sum17 (a := m) (b := 1) (by omega); exact this
              have e2 : wrap64 ((j : Int) - 1) = ((j - 1 : Nat) : Int) := wrap_pred17 (by omega) (by omega)
              rw [e1, e2, hcq]
              omega
            have HCq : Hid (cq ≤ j ∧ cq < j ∧ cq ≤ m + 1) := by
              show cq ≤ j ∧ cq < j ∧ cq ≤ m + 1
              have a1 := HKm.out
              have a2 := HI.out.1
              unfold Bn17 at a2
              omega
            have HS : Hid (∀ x5, Bw17 W x5 c f k m b l w7.heap.size w8.heap.size (768 + 512 * r + 512) → Calls Tryz.prog 14 #[.int .i64 (j : Int), .int .i64 (cq : Int), .slice pa pn pc] x5 fun e w1 => e = .returned (sl17 x5.heap.size j) ∧
                Calls Tryz.prog 10 #[sl17 w7.heap.size j] w1 fun e w2 => e = .returned (sl17 w1.heap.size j) ∧
                Calls Tryz.prog 10 #[sl17 w7.heap.size j] w2 fun e w3 => e = .returned (sl17 w2.heap.size j) ∧ Bx17 W x5 w1 w2 w3 w3 c f k m b l w7.heap.size w8.heap.size (768 + 512 * r + 512) (pk17 j (pg17 pn GG) cq) 0) := fun x5 h5 => by
              have := back_s17 (cp := cq) (pa := pa) (pn := pn) (pc := pc) (G := GG) h5 HI.out.1 (HGG.out.below h5.bel) (by have := HCq.out; have := HKm.out; omega)
              rw [← HKm.out] at this
              exact this
            clear hcq
            go_wp2_with (first
              | (go_at_call 16; (with_reducible refine c15.mono ?_); rintro e x1 ⟨rfl, c16⟩; clear c15)
              | (go_at_call 12; (with_reducible refine c16.mono ?_); rintro e x2 ⟨rfl, c17⟩; clear c16)
              | (go_at_call 17; (with_reducible refine c17.mono ?_); rintro e x3 ⟨rfl, c18⟩; clear c17)
              | (go_at_call 12; (with_reducible refine c18.mono ?_); rintro e x4 ⟨rfl, c19⟩; clear c18)
              | (go_at_call 18; (with_reducible refine c19.mono ?_); rintro e x5 ⟨rfl, hB5⟩; clear c19; have c20 := HS.out x5 hB5; clear hB5 HS)
              | (go_at_call 14; rw [HM.out]; (with_reducible refine c20.mono ?_); rintro e y1 ⟨rfl, c21⟩; clear c20)
              | (go_at_call 10; (with_reducible refine c21.mono ?_); rintro e y2 ⟨rfl, c22⟩; clear c21)
              | (go_at_call 10; (with_reducible refine c22.mono ?_); rintro e y3 ⟨rfl, hX⟩; clear c22; have HXx : Hid _ := hX; clear hX))
            obtain ⟨P2, hP2⟩ : ∃ P2, P2 = pk17 j (pg17 pn GG) cq := ⟨_, rfl⟩
            rw [← hP2] at HXx
            have HL2 : Hid ((ems P2 (k + m)).length = cq) := by
              show (ems P2 (k + m)).length = cq
              have h3 := HI.out.1
              unfold Bn17 at h3
              have h4 := HKm.out
              have h5 := HCq.out
              rw [← h4, hP2, pk17_len (by omega) _ (by omega)]
            clear W2 hP2
            go_loopw [25, 26] (fun s25 s26 wr' => ∃ i : Nat, i ≤ j ∧ s25 = .int .i64 ((ems P2 i).length : Nat) ∧ s26 = .int .i64 i ∧ Bx17 W x5 y1 y2 y3 wr' c f k m b l w7.heap.size w8.heap.size (768 + 512 * r + 512) P2 i) (fun _ s26 _ => j - (intOf s26).toNat)
            case atStart => exact ⟨0, Nat.zero_le _, rfl, rfl, HXx.out⟩
            case round =>
              obtain ⟨i, hi, rfl, rfl, hB⟩ := hrel
              clear HXx
              by_cases hlt : i < j
              · have HJ : Hid (i < j ∧ j ≤ 32) := ⟨hlt, by have a1 := HKm.out; have a2 := HI.out.1.2.1; have a3 := HI.out.1.2.2.2.1; omega⟩
                have jk : ((i : Nat) : Int) < (j : Int) := by omega
                have qo := hB.out.cell (i := i) (by rw [← HKm.out]; exact hlt)
                cases hPj : P2 i
                · rw [hPj] at qo
                  have HE : Hid _ := hB.pass hPj
                  have HQ : Hid ((ems P2 (i + 1)).length = (ems P2 i).length) := by show _ = _; rw [ems_no hPj]
                  have W1 := wrap_succ8 (j := i) (by have := HJ.out; unfold big; omega)
                  clear hB hPj hi
                  have W2 := HW2.out
                  go_wp2
                  go_roundw
                  case rel => exact ⟨i + 1, HJ.out.1, by rw [HQ.out], by first | rfl | (rw [W1]; rfl), HE.out⟩
                  case measure => first | exact meas_lt8 HJ.out.1 | (rw [W1]; exact meas_lt8 HJ.out.1)
                · rw [hPj] at qo
                  obtain ⟨⟨a1, q1⟩, f1, ⟨a2, q2⟩, f2, hE⟩ := hB.hit (by rw [← HKm.out]; exact hlt) hPj
                  have HE : Hid _ := hE
                  obtain ⟨xq, hxq⟩ : ∃ xq, xq = (ems P2 i).length := ⟨_, rfl⟩
                  have hxj : xq ≤ i := by rw [hxq]; exact ems_le P2 i
                  have HQ : Hid ((ems P2 (i + 1)).length = xq + 1) := by show _ = _; rw [ems_len_yes hPj, hxq]
                  rw [← hxq]
                  have W1 := wrap_succ8 (j := i) (by have := HJ.out; unfold big; omega)
                  have Wx := wrap_succ8 (j := xq) (by have := HJ.out; unfold big; omega)
                  clear hB hPj hi hE hxq hxj
                  have W2 := HW2.out
                  go_wp2
                  go_roundw
                  case rel => exact ⟨i + 1, HJ.out.1, by rw [HQ.out]; first | rfl | (rw [Wx]; rfl), by first | rfl | (rw [W1]; rfl), HE.out⟩
                  case measure => first | exact meas_lt8 HJ.out.1 | (rw [W1]; exact meas_lt8 HJ.out.1)
              · obtain rfl : i = j := by omega
                have jk : ¬ ((i : Nat) : Int) < (i : Int) := by omega
                have el : (ems P2 i).length = cq := by have h1 := HL2.out; rw [← HKm.out] at h1; exact h1
                rw [el]
                by_cases hm : m < cq
                · have im : ((cq : Nat) : Int) > (m : Int) := by omega
                  have im2 : (m : Int) < (cq : Int) := by omega
                  have c23 := back_t17 (by rw [← HKm.out]; exact hB) HI.out.1 (by rw [HL2.out]; exact hm) (by rw [HL2.out]; have := HCq.out; have := HKm.out; omega)
                  rw [← HKm.out] at c23
                  clear hB hi hlt el hm
                  have W2 := HW2.out
                  go_wp2_with (first
                    | (go_at_call 16; (with_reducible refine c23.mono ?_); rintro e u1 ⟨rfl, c24⟩; clear c23)
                    | (go_at_call 17; (with_reducible refine c24.mono ?_); rintro e u2 ⟨rfl, c25⟩; clear c24)
                    | (go_at_call 12; (with_reducible refine c25.mono ?_); rintro e u3 ⟨rfl, hZ⟩; clear c25; have HZ : Hid _ := hZ; clear hZ))
                  go_roundw
                  case rel => exact ⟨r + 1, by have := HR.out.1; omega, by rw [HRr.out]; first | rfl | (congr 1; omega) | (rw [Wr]; congr 1; omega), HZ.out⟩
                  case measure => have e1 := HRr.out; have e2 := HR.out.1; first | (simp [intOf]; omega) | (rw [Wr]; simp [intOf]; omega)
                · have im : ¬ ((cq : Nat) : Int) > (m : Int) := by omega
                  have im2 : ¬ (m : Int) < (cq : Int) := by omega
                  have HZ : Hid _ := hB.bw
                  clear hB hi hlt el hm
                  have W2 := HW2.out
                  go_wp2
                  go_roundw
                  case rel => exact ⟨r + 1, by have := HR.out.1; omega, by rw [HRr.out]; first | rfl | (congr 1; omega) | (rw [Wr]; congr 1; omega), HZ.out⟩
                  case measure => have e1 := HRr.out; have e2 := HR.out.1; first | (simp [intOf]; omega) | (rw [Wr]; simp [intOf]; omega)
    · have ib : ¬ ((r : Int) - 1 < (rn : Int)) := by omega
      have HB : Hid (Below W.heap.size W wr) := hB.bel
      clear hB hr hlt
      go_wp2
      go_ret
      exact ⟨rfl, HB.out⟩
end Go.Proofs.YtefolifecbhgoaaGreat
namespace Go.Proofs.YtefolifecbhgoaaGreat
open Go.ChangeShapes Go.WideShapes Go.ChangeAt Go.RowKit Go.Deep
set_option linter.unusedVariables false


theorem bytes_i17 : Tryz.prog.bytesOf 40 = 24 := by kernel_rfl
theorem cells_i17 : Tryz.prog.cellsOf 40 = 1 := by kernel_rfl
theorem open_rounds17 {H : Type} {enc : TypeId × Value → H} {W : World} {base : Nat} {held : Bool} {fuel : Nat} {ra : Option Addr} {rn rc : Nat} {x : DataW H × List MemPlace}
    (h : DataW.trod enc Tryz.prog W base (fun _ => true) held fuel 28 [.slice ra rn rc] = some x) (hsz : ∀ elems spare, x.1 = .slice elems spare → (elems.length + spare.length) * Tryz.prog.bytesOf 40 ≤ reachBytes) :
    ∃ A N C G, Rq17 W (.slice ra rn rc) rn A N C G := by
  rcases open_slice Tryz.underlying28 h with ⟨hcs, _⟩ | ⟨a', len, cap, m, n, D, Pl, hcs, hb, hl, hm, hmm, hxe, hx⟩
  · simp at hcs
    obtain ⟨rfl, rfl, rfl⟩ := hcs
    exact ⟨fun _ => none, fun _ => 0, fun _ => 0, fun _ _ => 0, ⟨by omega, ⟨none, 0, rfl, fun h => absurd h (Nat.lt_irrefl _)⟩, fun i hi => absurd hi (Nat.not_lt_zero _)⟩⟩
  · simp at hcs
    obtain ⟨rfl, rfl, rfl⟩ := hcs
    have hm' : rc * 24 ≤ 140737488351232 := by
      have := hsz _ _ (by rw [hxe])
      rw [bytes_i17] at this
      simp only [List.length_map, List.length_range, reachBytes] at this
      simp at hmm
      omega
    have hlm : rn ≤ m := by rw [hmm]; split <;> omega
    have each : ∀ i, i < rn → ∃ A N C G, W.cell? ((a'.add i).add 0) = some (.slice A N C) ∧ Qi W (.slice A N C) N G := by
      intro i hi
      obtain ⟨cs', h1, h2⟩ := hx i (by omega)
      rw [cells_i17] at h1
      obtain ⟨_, hlen, hcell⟩ := World.cells?_some h1
      match cs', hlen with
      | [v0], _ =>
        have z0 := hcell 0 (by omega)
        obtain ⟨A, N, C, G, rfl, hG⟩ := open_ints10 h2
        exact ⟨A, N, C, G, by simpa using z0, hG⟩
    by_cases h0 : rn = 0
    · subst h0
      exact ⟨fun _ => none, fun _ => 0, fun _ => 0, fun _ _ => 0, ⟨by omega, ⟨_, _, rfl, fun h => absurd h (Nat.lt_irrefl _)⟩, fun i hi => absurd hi (Nat.not_lt_zero _)⟩⟩
    · obtain ⟨b, off, spot⟩ := a'
      have hspot : spot = none := by
        obtain ⟨A, N, C, G, z0, -⟩ := each 0 (by omega)
        simpa [Addr.add] using World.cell?_spot z0
      subst hspot
      have each' : ∀ i : Nat, ∃ A N C G, i < rn → W.cell? ⟨b, off + i, none⟩ = some (.slice A N C) ∧ Qi W (.slice A N C) N G := by
        intro i
        by_cases hi : i < rn
        · obtain ⟨A, N, C, G, z, h1⟩ := each i hi
          simp only [add_plain, Nat.add_zero] at z
          exact ⟨A, N, C, G, fun _ => ⟨z, h1⟩⟩
        · exact ⟨none, 0, 0, fun _ => 0, fun h => absurd h hi⟩
      obtain ⟨A, hA⟩ := Classical.skolem.1 each'
      obtain ⟨N, hN⟩ := Classical.skolem.1 hA
      obtain ⟨C, hC⟩ := Classical.skolem.1 hN
      obtain ⟨G, hG⟩ := Classical.skolem.1 hC
      exact ⟨A, N, C, G, ⟨by omega, ⟨_, _, rfl, fun _ => ⟨b, off, rfl, cell_lt5 (hG 0 (by omega)).1, fun i hi => (hG i hi).1⟩⟩, fun i hi => (hG i hi).2⟩⟩
end Go.Proofs.YtefolifecbhgoaaGreat
