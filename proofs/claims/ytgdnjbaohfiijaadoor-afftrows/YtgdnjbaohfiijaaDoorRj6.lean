import Derived.Test.YtgdnjbaohfiijaaDoorRj5
import Derived.Test.YtgdnjbaohfiijaaDoorRj2
namespace Go.Proofs.YtgdnjbaohfiijaaDoor
open Go.RowKit Gf2
set_option linter.unusedVariables false

set_option maxHeartbeats 2000000 in
set_option maxRecDepth 100000 in
/-- the document's rows, where their lengths are unlike. -/
theorem refRows14_lens (A : Option Addr) (gb ob nr cr : Nat) (X : Nat → Option Addr) (L Cx : Nat → Nat) (F : Nat → Nat → Nat) (s : Int) (bk : Bool) (w : World) (hA : 0 < nr → A = some ⟨gb, ob, none⟩) (h : Ri14 w gb ob nr X L Cx F) (hn : 24 * nr ≤ 140737488351232) (k : Nat) (hp : nr = 2 ^ k) (hk : k ≤ 16) (r : Nat) (hr1 : r < nr) (hr2 : L r ≠ L 0) :
    Calls Tryd.prog 37 #[.slice A nr cr, .int .i64 s, .bool bk] w fun e w' => ∃ (gr : Nat), e = .returned (.tuple #[.slice (some ⟨gr, 0, none⟩) nr nr, .int .i64 6]) ∧ w.heap.size ≤ gr ∧ ∃ (B C : Nat → Nat) (G : Nat → Nat → Nat), Lr w w' gr nr nr L F false B C G := by
  have k1 := refPow_yes k nr hp hk
  have hmr := make_rows14 nr (by omega) w
  obtain ⟨gr, hgr⟩ : ∃ gr, gr = w.heap.size := ⟨_, rfl⟩
  obtain ⟨W3, hW3⟩ : ∃ W3, W3 = w.alloc (.cells (madeCells #[.slice none 0 0] nr) 26) := ⟨_, rfl⟩
  have HW3 : Hid (Lr w W3 gr nr 0 L F false (fun _ => 0) (fun _ => 0) (fun _ _ => 0) ∧ w.heap.size ≤ gr) := by
    refine ⟨⟨by rw [hW3]; exact below_alloc _ _, ?_, fun j hj => absurd hj (Nat.not_lt_zero _), fun j j' hj => absurd hj (Nat.not_lt_zero _)⟩, by rw [hgr]; exact Nat.le_refl _⟩
    rw [hW3, hgr]
    exact (World.rowIs_made w (.slice none 0 0) nr 26).congr (fun j hj => by rw [if_neg (Nat.not_lt_zero _)])
  have HR : Hid (Ri14 w gb ob nr X L Cx F ∧ 24 * nr ≤ 140737488351232 ∧ (0 < nr → A = some ⟨gb, ob, none⟩) ∧ r < nr ∧ L r ≠ L 0) := ⟨h, hn, hA, hr1, hr2⟩
  replace hgr : Hid (gr = w.heap.size) := hgr
  replace hW3 : Hid (W3 = w.alloc (.cells (madeCells #[.slice none 0 0] nr) 26)) := hW3
  clear h hn hA hp hr1 hr2
  go_enter Tryd.func37, Tryd.ntmps37
  go_wp2
  rw [← hgr.out, ← hW3.out]
  go_loopw [9] (fun iv wr => ∃ (i : Nat) (B C : Nat → Nat) (G : Nat → Nat → Nat), i ≤ nr ∧ iv = .int .i64 i ∧ Lr w wr gr nr i L F false B C G) (fun iv _ => nr - (intOf iv).toNat)
  case atStart => exact ⟨0, _, _, _, Nat.zero_le _, rfl, HW3.out.1⟩
  case round =>
    obtain ⟨i, B, C, G, hi, rfl, hl⟩ := hrel
    by_cases hlt : i < nr
    · obtain rfl := HR.out.2.2.1 (by omega)
      have ib : ((i : Nat) : Int) < (nr : Int) := Int.ofNat_lt.mpr hlt
      have hr := HR.out.1.below hl.bel
      have c0 := hr.cell i hlt
      have c1 : (wr.alloc (.cells #[] 34)).cell? ⟨gb, ob + i, none⟩ = some (.slice (X i) (L i) (Cx i)) := ((below_alloc wr _).cell (p := ⟨gb, ob + i, none⟩) hr.lt).trans c0
      obtain ⟨w4, g4, C4, F4, run4, hC4, hg4, hR4, hF4, hb4⟩ := app_lit14 wr (hr.row i hlt) (lens14 (hr.len i hlt)).1
      have y1 : w4.cell? ⟨gr, i, none⟩ = some (.slice none 0 0) := by
        have := (hl.lst.of_block (hb4.block gr hl.lst.lt)).cell (i := i) hlt
        rw [if_neg (Nat.lt_irrefl _)] at this
        exact this
      have y2 := (hl.lst.of_block (hb4.block gr hl.lst.lt)).frozen i
      have W1 : wrap64 ((i : Int) + 1) = (i : Int) + 1 := wrap14 hlt HR.out.2.1
      have HX : Hid (Lr w (w4.setCell ⟨gr, i, none⟩ (.slice (some ⟨g4, 0, none⟩) (L i) C4)) gr nr (i + 1) L F false _ _ _) := hl.next HW3.out.2 hlt hb4 hg4 hR4 hC4 hF4 (fun e => by cases e)
      obtain ⟨Y, hY⟩ : ∃ Y, Y = L i := ⟨_, rfl⟩
      rw [← hY] at *
      clear hl hr hC4 hg4 hR4 hF4 hb4 hmr hW3 hgr k1
      go_wp2_with (at_builtin; refine Lib.wpList_append_run _ rfl _ _ _ _ rfl _ _ rfl rfl _ _ run4 ?_)
      go_roundw
      case rel => exact ⟨i + 1, _, _, _, hlt, by first | rfl | (rw [W1]; rfl), HX.out⟩
      case measure => first | exact meas_lt8 hlt | (rw [W1]; exact meas_lt8 hlt)
    · obtain rfl : i = nr := Nat.le_antisymm hi (Nat.le_of_not_lt hlt)
      have tb : ¬ ((i : Nat) : Int) < (i : Int) := by omega
      obtain ⟨wz, hz0⟩ : ∃ wz, wz = wr := ⟨_, rfl⟩
      have HL : Hid (Lr w wz gr i i L F false B C G) := by rw [hz0]; exact hl
      have HZ : Hid (wz = wr) := hz0
      have k2 := k1 wr
      clear hl hmr hW3 hgr k1 hz0
      obtain rfl := HR.out.2.2.1 (Nat.lt_of_le_of_lt (Nat.zero_le _) HR.out.2.2.2.1)
      go_wp2_with (go_at_call 31; ((with_reducible refine (k2).mono ?_); rintro e w' ⟨rfl, rfl⟩))
      go_loopw [10] (fun jv wt => ∃ j m : Nat, j ≤ r ∧ jv = .int .i64 j ∧ wt = wz.drewN m) (fun jv _ => i - (intOf jv).toNat)
      case atStart => exact ⟨0, 0, Nat.zero_le _, rfl, HZ.out.symm⟩
      case round =>
        obtain ⟨j, m, hj, rfl, hw⟩ := hrel
        have hji : j < i := Nat.lt_of_le_of_lt hj HR.out.2.2.2.1
        have ib : ((j : Nat) : Int) < (i : Int) := Int.ofNat_lt.mpr hji
        have i0 : 0 < i := Nat.lt_of_le_of_lt (Nat.zero_le _) hji
        have ib0 : (0 : Int) < (i : Int) := Int.ofNat_lt.mpr i0
        have hr := HR.out.1.below HL.out.bel
        have c0 : wr.cell? ⟨gb, ob + j, none⟩ = some (.slice (X j) (L j) (Cx j)) := by rw [hw]; exact hr.cell j hji
        have c1 : wr.cell? ⟨gb, ob, none⟩ = some (.slice (X 0) (L 0) (Cx 0)) := by rw [hw]; exact hr.cell 0 i0
        have HW : Hid (wr = wz.drewN m) := hw
        have W1 : wrap64 ((j : Int) + 1) = (j : Int) + 1 := wrap14 hji HR.out.2.1
        clear hr hw
        by_cases e : L j = L 0
        · rw [e] at c0
          have hjr : j < r := by
            rcases Nat.lt_or_ge j r with h9 | h9
            · exact h9
            · exact absurd (by rw [← Nat.le_antisymm hj h9]; exact e) HR.out.2.2.2.2
          go_wp2
          go_quiet (fail)
          go_wp2
          go_roundw
          case rel => exact ⟨j + 1, m + nq, hjr, by first | rfl | (rw [W1]; rfl), by rw [HW.out, World.drewN_drewN]⟩
          case measure => first | exact meas_lt8 hji | (rw [W1]; exact meas_lt8 hji)
        · have ne : ((L j : Nat) : Int) ≠ (L 0 : Int) := fun h => e (Int.ofNat.inj h)
          have ne2 : (((L j : Nat) : Int) == (L 0 : Int)) = false := by simpa using ne
          go_wp2
          go_quiet (fail)
          go_wp2
          go_ret2
          refine ⟨gr, rfl, HW3.out.2, B, C, G, ?_⟩
          rw [HW.out, World.drewN_drewN]
          exact HL.out.below (below_drewN (Below.refl _ _) _)
end Go.Proofs.YtgdnjbaohfiijaaDoor
namespace Go.Proofs.YtgdnjbaohfiijaaDoor
open Go.RowKit Gf2
set_option linter.unusedVariables false

set_option maxHeartbeats 2000000 in
set_option maxRecDepth 100000 in
/-- the document's rows, where they begin at no coset. -/
theorem refRows14_coset (A : Option Addr) (gb ob nr cr : Nat) (X : Nat → Option Addr) (L Cx : Nat → Nat) (F : Nat → Nat → Nat) (s : Int) (bk : Bool) (w : World) (hA : 0 < nr → A = some ⟨gb, ob, none⟩) (h : Ri14 w gb ob nr X L Cx F) (hn : 24 * nr ≤ 140737488351232) (k : Nat) (hp : nr = 2 ^ k) (hk : k ≤ 16) (hr1 : 0 < nr) (hr2 : ∀ j, j < nr → L j = L 0) (hs : ¬ Beg s nr nr) :
    Calls Tryd.prog 37 #[.slice A nr cr, .int .i64 s, .bool bk] w fun e w' => ∃ (gr : Nat), e = .returned (.tuple #[.slice (some ⟨gr, 0, none⟩) nr nr, .int .i64 140]) ∧ w.heap.size ≤ gr ∧ ∃ (B C : Nat → Nat) (G : Nat → Nat → Nat), Lr w w' gr nr nr L F false B C G := by
  have k1 := refPow_yes k nr hp hk
  have k4 := refCoset s nr nr hr1
  rw [show decide (Beg s nr nr) = false from decide_eq_false hs] at k4
  have hmr := make_rows14 nr (by omega) w
  obtain ⟨gr, hgr⟩ : ∃ gr, gr = w.heap.size := ⟨_, rfl⟩
  obtain ⟨W3, hW3⟩ : ∃ W3, W3 = w.alloc (.cells (madeCells #[.slice none 0 0] nr) 26) := ⟨_, rfl⟩
  have HW3 : Hid (Lr w W3 gr nr 0 L F false (fun _ => 0) (fun _ => 0) (fun _ _ => 0) ∧ w.heap.size ≤ gr) := by
    refine ⟨⟨by rw [hW3]; exact below_alloc _ _, ?_, fun j hj => absurd hj (Nat.not_lt_zero _), fun j j' hj => absurd hj (Nat.not_lt_zero _)⟩, by rw [hgr]; exact Nat.le_refl _⟩
    rw [hW3, hgr]
    exact (World.rowIs_made w (.slice none 0 0) nr 26).congr (fun j hj => by rw [if_neg (Nat.not_lt_zero _)])
  have HR : Hid (Ri14 w gb ob nr X L Cx F ∧ 24 * nr ≤ 140737488351232 ∧ (0 < nr → A = some ⟨gb, ob, none⟩) ∧ 0 < nr ∧ ∀ j, j < nr → L j = L 0) := ⟨h, hn, hA, hr1, hr2⟩
  replace hgr : Hid (gr = w.heap.size) := hgr
  replace hW3 : Hid (W3 = w.alloc (.cells (madeCells #[.slice none 0 0] nr) 26)) := hW3
  clear h hn hA hp hr1 hr2 hs
  go_enter Tryd.func37, Tryd.ntmps37
  go_wp2
  rw [← hgr.out, ← hW3.out]
  go_loopw [9] (fun iv wr => ∃ (i : Nat) (B C : Nat → Nat) (G : Nat → Nat → Nat), i ≤ nr ∧ iv = .int .i64 i ∧ Lr w wr gr nr i L F false B C G) (fun iv _ => nr - (intOf iv).toNat)
  case atStart => exact ⟨0, _, _, _, Nat.zero_le _, rfl, HW3.out.1⟩
  case round =>
    obtain ⟨i, B, C, G, hi, rfl, hl⟩ := hrel
    by_cases hlt : i < nr
    · obtain rfl := HR.out.2.2.1 (by omega)
      have ib : ((i : Nat) : Int) < (nr : Int) := Int.ofNat_lt.mpr hlt
      have hr := HR.out.1.below hl.bel
      have c0 := hr.cell i hlt
      have c1 : (wr.alloc (.cells #[] 34)).cell? ⟨gb, ob + i, none⟩ = some (.slice (X i) (L i) (Cx i)) := ((below_alloc wr _).cell (p := ⟨gb, ob + i, none⟩) hr.lt).trans c0
      obtain ⟨w4, g4, C4, F4, run4, hC4, hg4, hR4, hF4, hb4⟩ := app_lit14 wr (hr.row i hlt) (lens14 (hr.len i hlt)).1
      have y1 : w4.cell? ⟨gr, i, none⟩ = some (.slice none 0 0) := by
        have := (hl.lst.of_block (hb4.block gr hl.lst.lt)).cell (i := i) hlt
        rw [if_neg (Nat.lt_irrefl _)] at this
        exact this
      have y2 := (hl.lst.of_block (hb4.block gr hl.lst.lt)).frozen i
      have W1 : wrap64 ((i : Int) + 1) = (i : Int) + 1 := wrap14 hlt HR.out.2.1
      have HX : Hid (Lr w (w4.setCell ⟨gr, i, none⟩ (.slice (some ⟨g4, 0, none⟩) (L i) C4)) gr nr (i + 1) L F false _ _ _) := hl.next HW3.out.2 hlt hb4 hg4 hR4 hC4 hF4 (fun e => by cases e)
      obtain ⟨Y, hY⟩ : ∃ Y, Y = L i := ⟨_, rfl⟩
      rw [← hY] at *
      clear hl hr hC4 hg4 hR4 hF4 hb4 hmr hW3 hgr k1
      go_wp2_with (at_builtin; refine Lib.wpList_append_run _ rfl _ _ _ _ rfl _ _ rfl rfl _ _ run4 ?_)
      go_roundw
      case rel => exact ⟨i + 1, _, _, _, hlt, by first | rfl | (rw [W1]; rfl), HX.out⟩
      case measure => first | exact meas_lt8 hlt | (rw [W1]; exact meas_lt8 hlt)
    · obtain rfl : i = nr := Nat.le_antisymm hi (Nat.le_of_not_lt hlt)
      have tb : ¬ ((i : Nat) : Int) < (i : Int) := by omega
      obtain ⟨wz, hz0⟩ : ∃ wz, wz = wr := ⟨_, rfl⟩
      have HL : Hid (Lr w wz gr i i L F false B C G) := by rw [hz0]; exact hl
      have HZ : Hid (wz = wr) := hz0
      have k2 := k1 wr
      clear hl hmr hW3 hgr k1 hz0
      obtain rfl := HR.out.2.2.1 HR.out.2.2.2.1
      go_wp2_with (go_at_call 31; ((with_reducible refine (k2).mono ?_); rintro e w' ⟨rfl, rfl⟩))
      go_loopw [10] (fun jv wt => ∃ j m : Nat, j ≤ i ∧ jv = .int .i64 j ∧ wt = wz.drewN m) (fun jv _ => i - (intOf jv).toNat)
      case atStart => exact ⟨0, 0, Nat.zero_le _, rfl, HZ.out.symm⟩
      case round =>
        obtain ⟨j, m, hj, rfl, hw⟩ := hrel
        by_cases hji : j < i
        · have e := HR.out.2.2.2.2 j hji
          have ib : ((j : Nat) : Int) < (i : Int) := Int.ofNat_lt.mpr hji
          have i0 : 0 < i := Nat.lt_of_le_of_lt (Nat.zero_le _) hji
          have ib0 : (0 : Int) < (i : Int) := Int.ofNat_lt.mpr i0
          have hr := HR.out.1.below HL.out.bel
          have c0 : wr.cell? ⟨gb, ob + j, none⟩ = some (.slice (X j) (L j) (Cx j)) := by rw [hw]; exact hr.cell j hji
          have c1 : wr.cell? ⟨gb, ob, none⟩ = some (.slice (X 0) (L 0) (Cx 0)) := by rw [hw]; exact hr.cell 0 i0
          have HW : Hid (wr = wz.drewN m) := hw
          have W1 : wrap64 ((j : Int) + 1) = (j : Int) + 1 := wrap14 hji HR.out.2.1
          clear hr hw
          rw [e] at c0
          clear k4
          go_wp2
          go_quiet (fail)
          go_wp2
          go_roundw
          case rel => exact ⟨j + 1, m + nq, hji, by first | rfl | (rw [W1]; rfl), by rw [HW.out, World.drewN_drewN]⟩
          case measure => first | exact meas_lt8 hji | (rw [W1]; exact meas_lt8 hji)
        · obtain rfl : j = i := Nat.le_antisymm hj (Nat.le_of_not_lt hji)
          have k5 := k4 wr
          have HW : Hid (wr = wz.drewN m) := hw
          clear hw k4
          go_wp2_with (go_at_call 32; ((with_reducible refine (k5).mono ?_); rintro e w' ⟨rfl, rfl⟩))
          go_ret2
          refine ⟨gr, rfl, HW3.out.2, B, C, G, ?_⟩
          rw [HW.out]
          exact HL.out.below (below_drewN (Below.refl _ _) _)
end Go.Proofs.YtgdnjbaohfiijaaDoor
namespace Go.Proofs.YtgdnjbaohfiijaaDoor
open Go.RowKit Gf2
set_option linter.unusedVariables false

/-- one word of a laid row is written. -/
theorem Lr.put {w0 wr : World} {gr nr : Nat} {L : Nat → Nat} {F : Nat → Nat → Nat} {B C : Nat → Nat} {G : Nat → Nat → Nat} (h : Lr w0 wr gr nr nr L F false B C G) (h0 : w0.heap.size ≤ gr) {i c v : Nat} (hi : i < nr) (hc : c < L i) (hv : v < 65536) :
    Lr w0 (wr.setCell ⟨B i, c, none⟩ (.int .u16 (v : Nat))) gr nr nr L (fun j x => if j = i ∧ x = c then v else F j x) false B C (fun j x => if j = i ∧ x = c then v else G j x) := by
  have k : Kp (B i) wr (wr.setCell ⟨B i, c, none⟩ (.int .u16 (v : Nat))) := (Kp.refl _ wr).setCell _ _
  have g1 := (h.row i hi).2.2.1
  refine ⟨h.bel.trans (k.below (Nat.le_trans h0 (Nat.le_of_lt g1)) h.bel.size), h.lst.of_block (k.2 gr h.lst.lt (Nat.ne_of_lt g1)), fun j hj => ?_, h.inj⟩
  obtain ⟨a1, a2, a3, a4, -⟩ := h.row j hj
  refine ⟨?_, a2, a3, fun x hx => ?_, fun e => by cases e⟩
  · by_cases e : j = i
    · subst e
      exact (a1.set c v hv).congr (fun x hx => by by_cases e2 : x = c <;> simp [e2])
    · exact (a1.kp k (fun e2 => e (h.inj j i hj hi e2))).congr (fun x hx => by rw [if_neg (fun e2 => e e2.1)])
  · by_cases e : j = i ∧ x = c
    · rw [if_pos e, if_pos e]
    · rw [if_neg e, if_neg e]; exact a4 x hx
end Go.Proofs.YtgdnjbaohfiijaaDoor
namespace Go.Proofs.YtgdnjbaohfiijaaDoor
open Go.RowKit Gf2
set_option linter.unusedVariables false

-- layer 14: the columns of rows, one by one (laid by wip/genrgj.py)
def cz (T : (Nat → Nat) → Nat → Nat) (F : Nat → Nat → Nat) (c i j x : Nat) : Nat := if x < c ∨ (x = c ∧ j < i) then T (fun y => F y x) j else F j x
theorem cz_zero (T : (Nat → Nat) → Nat → Nat) (F : Nat → Nat → Nat) (j x : Nat) : cz T F 0 0 j x = F j x := by
  unfold cz; rw [if_neg (by omega)]
theorem cz_put (T : (Nat → Nat) → Nat → Nat) (F : Nat → Nat → Nat) (c i j x : Nat) : (if j = i ∧ x = c then T (fun y => F y c) i else cz T F c i j x) = cz T F c (i + 1) j x := by
  unfold cz
  by_cases h : j = i ∧ x = c
  · obtain ⟨rfl, rfl⟩ := h
    rw [if_pos ⟨rfl, rfl⟩, if_pos (by omega)]
  · rw [if_neg h]
    by_cases h2 : x < c ∨ (x = c ∧ j < i)
    · rw [if_pos h2, if_pos (by omega)]
    · rw [if_neg h2, if_neg (by omega)]
theorem cz_full (T : (Nat → Nat) → Nat → Nat) (F : Nat → Nat → Nat) {c nr j x : Nat} (hj : j < nr) : cz T F c nr j x = cz T F (c + 1) 0 j x := by
  unfold cz
  by_cases h2 : x < c + 1
  · rw [if_pos (by omega), if_pos (by omega)]
  · rw [if_neg (by omega), if_neg (by omega)]
theorem cz_end (T : (Nat → Nat) → Nat → Nat) (F : Nat → Nat → Nat) (n j x : Nat) : cz T F n 0 j x = cw n T F j x := by
  unfold cz cw
  by_cases h : x < n
  · rw [if_pos (by omega), if_pos h]
  · rw [if_neg (by omega), if_neg h]
theorem Lr.congrF {w0 wr : World} {gr M i : Nat} {L : Nat → Nat} {F F' : Nat → Nat → Nat} {e3 : Bool} {B C : Nat → Nat} {G : Nat → Nat → Nat} (h : Lr w0 wr gr M i L F e3 B C G) (e : ∀ j, j < i → ∀ x, x < L j → F j x = F' j x) : Lr w0 wr gr M i L F' e3 B C G :=
  ⟨h.bel, h.lst, fun j hj => by
    obtain ⟨a1, a2, a3, a4, a5⟩ := h.row j hj
    exact ⟨a1, a2, a3, fun x hx => (a4 x hx).trans (e j hj x hx), a5⟩, h.inj⟩
theorem rn_idx {c n : Nat} (h : c < n) (hn : 2 * n ≤ 140737488351232) : wrap64 ((c : Int) + 1) = (c : Int) + 1 := by unfold wrap64; omega
/-- row i of what came in, at one place. -/
theorem Ri14.at {w : World} {gb ob nr : Nat} {X : Nat → Option Addr} {L Cx : Nat → Nat} {F : Nat → Nat → Nat} (h : Ri14 w gb ob nr X L Cx F) {i c : Nat} (hi : i < nr) (hc : c < L i) :
    ∃ b o, X i = some ⟨b, o, none⟩ ∧ w.cell? ⟨b, o + c, none⟩ = some (.int .u16 (F i c : Nat)) ∧ F i c < 65536 := by
  obtain ⟨-, hF, a, cap, e, -, -, h4⟩ := h.row i hi
  cases e
  obtain ⟨b, o, e, hl, hc'⟩ := h4 (by omega)
  exact ⟨b, o, e, hc' c hc, hF c hc⟩
theorem fill_next {F : Nat → Nat} {i x : Nat} : (if x = i then F i else if x < i then F x else 0) = if x < i + 1 then F x else 0 := by
  by_cases h : x = i
  · subst h; rw [if_pos rfl, if_pos (by omega)]
  · rw [if_neg h]
    by_cases h2 : x < i
    · rw [if_pos h2, if_pos (by omega)]
    · rw [if_neg h2, if_neg (by omega)]
theorem Lr.kp {w0 wr w' : World} {gr M i g : Nat} {L : Nat → Nat} {F : Nat → Nat → Nat} {e3 : Bool} {B C : Nat → Nat} {G : Nat → Nat → Nat} (h : Lr w0 wr gr M i L F e3 B C G) (k : Kp g wr w') (h0 : w0.heap.size ≤ g) (h1 : gr ≠ g) (h2 : ∀ j, j < i → B j ≠ g) : Lr w0 w' gr M i L F e3 B C G :=
  ⟨h.bel.trans (k.below h0 h.bel.size), h.lst.of_block (k.2 gr h.lst.lt h1), fun j hj => ⟨(h.row j hj).1.kp k (h2 j hj), (h.row j hj).2⟩, h.inj⟩
theorem elems14b (w : World) : Calls Tryd.prog 34 #[] w fun e w' => ∃ g C : Nat, e = .returned (.slice (some ⟨g, 0, none⟩) 65536 C) ∧ We14 w' g ∧ w.heap.size ≤ g ∧ Below w.heap.size w w' :=
  (refElements_any w).mono fun e w' ⟨g, cap, he, h1, h2, h3⟩ => ⟨g, cap, he, ⟨h2, fun i hi => by
    rw [h1.cellAt i (by omega)]
    exact vU_get (wes_get hi)⟩, by
    obtain ⟨g', cap', e, hl, -⟩ := h1.form (by omega)
    cases e
    exact hl, h3⟩
end Go.Proofs.YtgdnjbaohfiijaaDoor
