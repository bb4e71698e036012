import Derived.Test.YtfbgcednodnioaaDoorPnas
import Derived.Test.YtfbgcednodnioaaDoorPnan
import Derived.Test.YtfbgcednodnioaaDoorPnam
import Derived.Test.YtfbgcednodnioaaDoorPnao
import Derived.Deep.RegionHeld3
import Derived.Deep.Upon
import Derived.Lib.AppendZeros
import Derived.Deep.DeepAppendWide
import Derived.Test.YtfbgcednodnioaaDoorPnaj
namespace Go.Proofs.YtfbgcednodnioaaDoor
open Go.RowKit Gf2
set_option linter.unusedVariables false

-- layer 22: PipesNames' beginning
structure Nm22 (w W : World) (b1 b2 b3 f1 f2 f3 : Nat) : Prop where
  bel : Below w.heap.size w W
  blk : W.heap[w.heap.size]? = some (.cells #[.int .i64 (-7)] 24 (0, 0))
  c1 : ∀ W', Below W.heap.size W W' → Calls Tryd.prog 11 #[.pointer (some ⟨b1, 0, none⟩)] W' fun e w' => e = .returned (.iface 22 (.pointer (some ⟨f1, 0, none⟩))) ∧ w' = W'
  c2 : ∀ W', Below W.heap.size W W' → Calls Tryd.prog 12 #[.pointer (some ⟨b2, 0, none⟩)] W' fun e w' => e = .returned (.iface 22 (.pointer (some ⟨f2, 0, none⟩))) ∧ w' = W'
  c3 : ∀ W', Below W.heap.size W W' → Calls Tryd.prog 11 #[.pointer (some ⟨b3, 0, none⟩)] W' fun e w' => e = .returned (.iface 22 (.pointer (some ⟨f3, 0, none⟩))) ∧ w' = W'
  h1 : W.heap[f1]? = some (.cells #[.int .i64 3] 24 (0, 0))
  h2 : W.heap[f2]? = some (.cells #[.int .i64 3] 24 (0, 0))
  h3 : W.heap[f3]? = some (.cells #[.int .i64 3] 24 (0, 0))
  n12 : f1 ≠ f2
  n23 : f2 ≠ f3
  n31 : f3 ≠ f1
theorem nil_rb22 (w : World) : Rb w (.slice none 0 0) 0 (fun _ => 0) := ⟨by decide, fun i hi => absurd hi (Nat.not_lt_zero _), none, 0, rfl, Nat.le_refl _, by decide, fun h => absurd h (Nat.lt_irrefl _)⟩
theorem nil_qi22 (w : World) : Qi w (.slice none 0 0) 0 (fun _ => 0) := ⟨by decide, trivial, none, 0, rfl, Nat.le_refl _, by decide, fun h => absurd h (Nat.lt_irrefl _)⟩
theorem fv_heap22 {w : World} {code : Int} {v : Value} {f : Nat} (h : Fv w 0 code v f) : w.heap[f]? = some (.cells #[.int .i64 code] 24 (0, 0)) := by
  rcases h with ⟨h9, -⟩ | ⟨-, -, h9⟩
  · exact absurd h9 (by decide)
  · exact h9
theorem names_a22 (w w1 : World) (hb : Below w.heap.size w w1) (hblk : w1.heap[w.heap.size]? = some (.cells #[.int .i64 (-7)] 24 (0, 0))) :
    Calls Tryd.prog 9 #[.slice none 0 0, .agg #[.slice none 0 0, .int .i64 0, .int .i64 3]] w1 fun e w2 => ∃ b1, e = .returned (.pointer (some ⟨b1, 0, none⟩)) ∧
    Calls Tryd.prog 10 #[.agg #[.int .i64 0, .int .i64 3]] w2 fun e w3 => ∃ b2, e = .returned (.pointer (some ⟨b2, 0, none⟩)) ∧
    Calls Tryd.prog 9 #[.slice none 0 0, .agg #[.slice none 0 0, .int .i64 0, .int .i64 3]] w3 fun e w4 => ∃ b3, e = .returned (.pointer (some ⟨b3, 0, none⟩)) ∧ ∃ f1 f2 f3, Nm22 w w4 b1 b2 b3 f1 f2 f3 := by
  have hI : I6x 0 := ⟨by decide, by decide⟩
  refine (newsource22 _ _ 0 0 _ _ 0 3 w1 (nil_rb22 _) (nil_qi22 _) (by decide) (by decide) hI).mono fun e w2 ⟨b1, f1, he, s1, q1⟩ => ⟨b1, he, ?_⟩
  refine (newsink22 0 3 w2 hI).mono fun e w3 ⟨b2, f2, he, s2, q2⟩ => ⟨b2, he, ?_⟩
  refine (newsource22 _ _ 0 0 _ _ 0 3 w3 (nil_rb22 _) (nil_qi22 _) (by decide) (by decide) hI).mono fun e w4 ⟨b3, f3, he, s3, q3⟩ => ⟨b3, he, f1, f2, f3, ?_⟩
  have y1 := s1.fb (Int.le_refl _)
  have y2 := s2.fb (Int.le_refl _)
  have y3 := s3.fb (Int.le_refl _)
  unfold Iv at y1 y3
  have t1 := (s1.below q2).below q3
  have t2 := s2.below q3
  have z1 := hb.size
  have z2 := q1.size
  have z3 := q2.size
  have z4 := q3.size
  have lt0 := (Array.getElem?_eq_some_iff.1 hblk).1
  obtain ⟨_, _, _, _, _, _, _, _, F1⟩ := t1.open_
  obtain ⟨_, _, _, _, F2, _, _⟩ := t2.open_
  obtain ⟨_, _, _, _, _, _, _, _, F3⟩ := s3.open_
  refine ⟨hb.trans ((q1.mono z1).trans ((q2.mono (by omega)).trans (q3.mono (by omega)))), ?_, fun W' h => srcfail22 W' (t1.below h), fun W' h => snkfail22 W' (t2.below h), fun W' h => srcfail22 W' (s3.below h), fv_heap22 F1, fv_heap22 F2, fv_heap22 F3, by have := y2.1; omega, by have := y2.1; omega, by omega⟩
  rw [q3.block _ (by omega), q2.block _ (by omega), q1.block _ (by omega)]
  exact hblk
end Go.Proofs.YtfbgcednodnioaaDoor
namespace Go.Proofs.YtfbgcednodnioaaDoor
open Go.RowKit Gf2
set_option linter.unusedVariables false

-- layer 22: PipesNames' state
structure Ns22 (w wr : World) (b1 b2 b3 f1 f2 f3 g : Nat) (x : Addr) : Prop where
  nm : ∃ W, Nm22 w W b1 b2 b3 f1 f2 f3 ∧ Below W.heap.size W wr
  gb : wr.heap[g]? = some (.cells #[.iface 22 (.pointer (some ⟨f1, 0, none⟩)), .iface 22 (.pointer (some ⟨f2, 0, none⟩)), .iface 22 (.pointer (some ⟨f3, 0, none⟩))] 35 (0, 0))
  tb : Lib.TabIs Tryd.prog wr "internal/strconv.uint64pow10" .u64 Lib.pow10Tab
  et : Et22 wr x
theorem Et22.below {w w' : World} {x : Addr} (h : Et22 w x) (hb : Below w.heap.size w w') : Et22 w' x := ⟨(hb.cell (cell_lt22 h.1)).trans h.1, (hb.cell (cell_lt22 h.2)).trans h.2⟩
section
variable {w wr w' : World} {b1 b2 b3 f1 f2 f3 g : Nat} {x : Addr}
theorem Ns22.start {W : World} (h : Nm22 w W b1 b2 b3 f1 f2 f3) (hE : Et22 w x) (hT : Lib.TabIs Tryd.prog w "internal/strconv.uint64pow10" .u64 Lib.pow10Tab) : Ns22 w (W.alloc (.cells #[.iface 22 (.pointer (some ⟨f1, 0, none⟩)), .iface 22 (.pointer (some ⟨f2, 0, none⟩)), .iface 22 (.pointer (some ⟨f3, 0, none⟩))] 35)) b1 b2 b3 f1 f2 f3 W.heap.size x := by
  have b := (Below.refl W.heap.size W).alloc (Nat.le_refl _) (.cells #[.iface 22 (.pointer (some ⟨f1, 0, none⟩)), .iface 22 (.pointer (some ⟨f2, 0, none⟩)), .iface 22 (.pointer (some ⟨f3, 0, none⟩))] 35)
  have b2 := h.bel.trans (b.mono h.bel.size)
  exact ⟨⟨W, h, b⟩, heap_alloc_new _ _, tab_below22 hT b2, hE.below b2⟩
theorem Ns22.below (h : Ns22 w wr b1 b2 b3 f1 f2 f3 g x) (hb : Below wr.heap.size wr w') : Ns22 w w' b1 b2 b3 f1 f2 f3 g x := by
  obtain ⟨W, h1, h2⟩ := h.nm
  exact ⟨⟨W, h1, h2.trans (hb.mono h2.size)⟩, (hb.block _ (Array.getElem?_eq_some_iff.1 h.gb).1).trans h.gb, tab_below22 h.tb hb, h.et.below hb⟩
theorem Ns22.bel (h : Ns22 w wr b1 b2 b3 f1 f2 f3 g x) : Below w.heap.size w wr := by
  obtain ⟨W, h1, h2⟩ := h.nm
  exact h1.bel.trans (h2.mono h1.bel.size)
/-- what round i reads. -/
theorem Ns22.round (h : Ns22 w wr b1 b2 b3 f1 f2 f3 g x) (i : Nat) (hi : i < 3) : ∃ j u v : Nat, j < 3 ∧ j = (i + 1) % 3 ∧ wr.cell? ⟨g, i, none⟩ = some (.iface 22 (.pointer (some ⟨u, 0, none⟩))) ∧ wr.cell? ⟨g, j, none⟩ = some (.iface 22 (.pointer (some ⟨v, 0, none⟩))) ∧
    wr.heap[u]? = some (.cells #[.int .i64 3] 24 (0, 0)) ∧ wr.heap[v]? = some (.cells #[.int .i64 3] 24 (0, 0)) ∧ u ≠ v := by
  obtain ⟨W, h1, h2⟩ := h.nm
  have k1 := (h2.block _ (Array.getElem?_eq_some_iff.1 h1.h1).1).trans h1.h1
  have k2 := (h2.block _ (Array.getElem?_eq_some_iff.1 h1.h2).1).trans h1.h2
  have k3 := (h2.block _ (Array.getElem?_eq_some_iff.1 h1.h3).1).trans h1.h3
  have c0 := cell_of_row _ _ 0 _ _ _ h.gb
  have c1 := cell_of_row _ _ 1 _ _ _ h.gb
  have c2 := cell_of_row _ _ 2 _ _ _ h.gb
  rcases (by omega : i = 0 ∨ i = 1 ∨ i = 2) with rfl | rfl | rfl
  · exact ⟨1, f1, f2, by decide, rfl, c0, c1, k1, k2, h1.n12⟩
  · exact ⟨2, f2, f3, by decide, rfl, c1, c2, k2, k3, h1.n23⟩
  · exact ⟨0, f3, f1, by decide, rfl, c2, c0, k3, k1, h1.n31⟩
end
end Go.Proofs.YtfbgcednodnioaaDoor
namespace Go.Proofs.YtfbgcednodnioaaDoor
open Go.RowKit Gf2
set_option linter.unusedVariables false

-- layer 22: PipesNames' end
theorem bt7_22 : bt22 (-7) = .string ⟨#[98, 114, 111, 107, 101, 110, 32, 45, 55]⟩ := by
  have h : Lib.itoa (-7) = [45, 55] := by
    unfold Lib.itoa
    rw [if_pos (by decide)]
    show 45 :: Lib.decDigits 7 = _
    rw [Lib.decDigits, dif_pos (by decide)]
    rfl
  unfold bt22
  rw [h]
  rfl
set_option maxRecDepth 100000 in
theorem errnil22 (w : World) : Calls Tryd.prog 14 #[.pointer none] w fun e w' => e = .returned (.string ⟨#[]⟩) ∧ w' = w := by
  go_enter Tryd.func14, Tryd.ntmps14
  go_wp2
  go_ret
  exact ⟨rfl, rfl⟩
set_option maxRecDepth 100000 in
theorem eserr22 (x : Addr) (w : World) (h : w.cell? x = some (.string ⟨#[101, 110, 100]⟩)) : Calls Tryd.prog 73 #[.pointer (some x)] w fun e w' => e = .returned (.string ⟨#[101, 110, 100]⟩) ∧ w' = w := by
  obtain ⟨xb, xo, xs⟩ := x
  go_enter Tryd.func73, Tryd.ntmps73
  go_wp2
  go_ret
  exact ⟨rfl, rfl⟩
theorem Ns22.fails {w wr : World} {b1 b2 b3 f1 f2 f3 g : Nat} {x : Addr} (h : Ns22 w wr b1 b2 b3 f1 f2 f3 g x) :
    (∀ q, Calls Tryd.prog 11 #[.pointer (some ⟨b1, 0, none⟩)] (wr.drewN q) fun e w' => e = .returned (.iface 22 (.pointer (some ⟨f1, 0, none⟩))) ∧ ∃ m, w' = (wr.drewN q).drewN m) ∧
    (∀ q, Calls Tryd.prog 12 #[.pointer (some ⟨b2, 0, none⟩)] (wr.drewN q) fun e w' => e = .returned (.iface 22 (.pointer (some ⟨f2, 0, none⟩))) ∧ ∃ m, w' = (wr.drewN q).drewN m) ∧
    wr.cell? ⟨g, 0, none⟩ = some (.iface 22 (.pointer (some ⟨f1, 0, none⟩))) ∧ wr.cell? ⟨g, 1, none⟩ = some (.iface 22 (.pointer (some ⟨f2, 0, none⟩))) := by
  obtain ⟨W, h1, h2⟩ := h.nm
  exact ⟨fun q => (h1.c1 _ (below_drewN h2 q)).mono fun e w' ⟨he, hw⟩ => ⟨he, 0, by rw [World.drewN_zero]; exact hw⟩, fun q => (h1.c2 _ (below_drewN h2 q)).mono fun e w' ⟨he, hw⟩ => ⟨he, 0, by rw [World.drewN_zero]; exact hw⟩, cell_of_row _ _ 0 _ _ _ h.gb, cell_of_row _ _ 1 _ _ _ h.gb⟩
theorem Ns22.blk {w wr : World} {b1 b2 b3 f1 f2 f3 g : Nat} {x : Addr} (h : Ns22 w wr b1 b2 b3 f1 f2 f3 g x) : wr.heap[w.heap.size]? = some (.cells #[.int .i64 (-7)] 24 (0, 0)) := by
  obtain ⟨W, h1, h2⟩ := h.nm
  exact (h2.block _ (Array.getElem?_eq_some_iff.1 h1.blk).1).trans h1.blk
end Go.Proofs.YtfbgcednodnioaaDoor
namespace Go.Proofs.YtfbgcednodnioaaDoor
open Go.RowKit Gf2
set_option linter.unusedVariables false

set_option maxHeartbeats 4000000 in
set_option maxRecDepth 100000 in
theorem pipesNames_any (x : Addr) (w : World) (hE : Et22 w x) (hT : Lib.TabIs Tryd.prog w "internal/strconv.uint64pow10" .u64 Lib.pow10Tab) :
    Calls Tryd.prog 3 #[] w fun e w' => e = .returned (.bool true) ∧ Below w.heap.size w w' := by
  have c1 := names_a22 w (w.alloc (.cells #[.int .i64 (-7)] 24)) ((Below.refl _ _).alloc (Nat.le_refl _) _) (heap_alloc_new _ _)
  have HE : Hid (Et22 w x ∧ Lib.TabIs Tryd.prog w "internal/strconv.uint64pow10" .u64 Lib.pow10Tab) := ⟨hE, hT⟩
  clear hE hT
  go_enter Tryd.func3, Tryd.ntmps3
  go_upto_region 9 with (first
    | (go_at_call 9; (with_reducible refine c1.mono ?_); rintro e w2 ⟨b1, rfl, c2⟩; clear c1)
    | (go_at_call 10; (with_reducible refine c2.mono ?_); rintro e w3 ⟨b2, rfl, c3⟩; clear c2)
    | (go_at_call 9; (with_reducible refine c3.mono ?_); rintro e w4 ⟨b3, rfl, f1, f2, f3, hN⟩; clear c3; have c4 := hN.c1 w4 (Below.refl _ _); have c5 := hN.c2 w4 (Below.refl _ _); have c6 := hN.c3 w4 (Below.refl _ _); have HN : Hid _ := hN; clear hN)
    | (go_at_call 11; (with_reducible refine c4.mono ?_); rintro e w9 ⟨rfl, hw9⟩; have hw9 := hw9.symm; subst hw9; clear c4)
    | (go_at_call 12; (with_reducible refine c5.mono ?_); rintro e w9 ⟨rfl, hw9⟩; have hw9 := hw9.symm; subst hw9; clear c5)
    | (go_at_call 11; (with_reducible refine c6.mono ?_); rintro e w9 ⟨rfl, hw9⟩; have hw9 := hw9.symm; subst hw9; clear c6))
  have HS : Hid (Ns22 w (w4.alloc (.cells #[.iface 22 (.pointer (some ⟨f1, 0, none⟩)), .iface 22 (.pointer (some ⟨f2, 0, none⟩)), .iface 22 (.pointer (some ⟨f3, 0, none⟩))] 35)) b1 b2 b3 f1 f2 f3 w4.heap.size x) := Ns22.start HN.out HE.out.1 HE.out.2
  obtain ⟨g, hg⟩ : ∃ g, Hid (w4.heap.size = g) := ⟨_, rfl⟩
  rw [hg.out] at HS
  rw [hg.out]
  clear HN HE
  go_loopw [7] (fun s7 wr => ∃ i : Nat, i ≤ 3 ∧ s7 = .int .i64 (i : Int) ∧ Ns22 w wr b1 b2 b3 f1 f2 f3 g x) (fun s7 _ => 3 - (intOf s7).toNat)
  case atStart => exact ⟨0, by decide, rfl, HS.out⟩
  case round =>
    obtain ⟨i, hi, rfl, hS⟩ := hrel
    clear HS
    by_cases hlt : i < 3
    · obtain ⟨j, u, v, hj, hje, y0, y1, y2, y3, huv⟩ := hS.round i hlt
      have ib : (i : Int) < 3 := by omega
      have jb : (j : Int) < 3 := by omega
      have D1 : decide ((i : Int) < 3) = true := decide_eq_true ib
      have W1 : wrap64 ((i : Int) + 1) = (i : Int) + 1 := by unfold wrap64; omega
      have R1 : Int.tmod ((i : Int) + 1) 3 = (j : Int) := by rw [Int.tmod_eq_emod_of_nonneg (by omega)]; omega
      have W3 : IntKind.i64.wrap ((i : Int) + 1) = (i : Int) + 1 := by rw [IntKind.wrap_i64]; omega
      have R3 : Int.tmod (IntKind.i64.wrap ((i : Int) + 1)) 3 = (j : Int) := by rw [W3]; exact R1
      have R2 : ((i : Int) + 1) % 3 = (j : Int) := by omega
      have W2 : wrap64 (j : Int) = (j : Int) := by unfold wrap64; omega
      have c1 := broken22 u 3 (by decide) (by decide) wr.drew y2 hS.tb
      have HX : Hid (i < 3 ∧ j < 3 ∧ u ≠ v) := ⟨hlt, hj, huv⟩
      have HK : Hid (∀ w5, Below wr.drew.heap.size wr.drew w5 → Ns22 w w5 b1 b2 b3 f1 f2 f3 g x ∧ w5.cell? ⟨g, i, none⟩ = some (.iface 22 (.pointer (some ⟨u, 0, none⟩))) ∧ w5.cell? ⟨g, j, none⟩ = some (.iface 22 (.pointer (some ⟨v, 0, none⟩))) ∧ w5.heap[u]? = some (.cells #[.int .i64 3] 24 (0, 0)) ∧ w5.heap[v]? = some (.cells #[.int .i64 3] 24 (0, 0))) := fun w5 hb =>
        ⟨hS.below (((Below.refl wr.heap.size wr).drew).trans hb), cell_bel22 y0 (((Below.refl wr.heap.size wr).drew).trans hb), cell_bel22 y1 (((Below.refl wr.heap.size wr).drew).trans hb), (hb.block _ (Array.getElem?_eq_some_iff.1 y2).1).trans y2, (hb.block _ (Array.getElem?_eq_some_iff.1 y3).1).trans y3⟩
      clear hS hlt hj hje huv hi
      go_upto_region 11 with (fail)
      refine region_planI (fun w' => w'.cell? ⟨g, i, none⟩ = some (.iface 22 (.pointer (some ⟨u, 0, none⟩))) ∧ w'.cell? ⟨g, j, none⟩ = some (.iface 22 (.pointer (some ⟨v, 0, none⟩))) ∧ w'.heap[u]? = some (.cells #[.int .i64 3] 24 (0, 0)) ∧ w'.heap[v]? = some (.cells #[.int .i64 3] 24 (0, 0))) [0, 1, 2, 3, 4, 5, 6, 7, 8, 9, 10, 11, 12, 13, 14, 15, 16, 17, 18] [4, 14] 80 ⟨y0, y1, y2, y3⟩ (by kernel_rfl) (by kernel_rfl) (fun _ a d v _ h => by cases d <;> exact h) ?_
      simp only [atI, List.getElem?_cons_zero, List.getElem?_cons_succ]
      refine planH_step ?AR0 rfl (fun w' hS => ?sR0) rfl (fun K hK => ?nR0)
      case sR0 =>
        obtain ⟨y0, y1, y2, y3⟩ := hS
        simp only [List.take_succ_cons, List.take_zero]
        repeat still_step
        exact rfl
      case nR0 =>
      go_simp
      go_wp2_with (go_at_call 13; (with_reducible refine c1.mono ?_); rintro e w5 ⟨rfl, hb5⟩; obtain ⟨hN5, x0, x1, x2, x3⟩ := HK.out w5 hb5; have HG : Hid _ := hN5; clear c1 hb5 hN5 HK)
      refine hK _ _ ⟨x0, x1, x2, x3⟩ ?_
      clear hK K
      refine planH_last ?AR1 rfl (fun w' hS => ?sR1) rfl ?nR1
      case sR1 =>
        obtain ⟨y0, y1, y2, y3⟩ := hS
        have e1 := eqo22 w' HX.out.2.2 y2 y3
        simp only [List.take_succ_cons, List.take_zero]
        repeat still_step
        exact rfl
      case nR1 =>
      go_wp2
      go_roundw
      case rel => exact ⟨i + 1, HX.out.1, by first | rfl | (rw [W1]; rfl), HG.out⟩
      case measure => first | exact meas_lt8 HX.out.1 | (rw [W1]; exact meas_lt8 HX.out.1)
    · have D1 : decide ((i : Int) < 3) = false := decide_eq_false (by omega)
      have ib : ¬ (i : Int) < 3 := by omega
      obtain ⟨c1, c2, y0, y1⟩ := hS.fails
      have HS : Hid _ := hS
      have e1 := fun W => nef22 W f1
      have e2 := fun W => nef22 W f2
      clear hS
      go_upto_region 13 with (fail)
      go_quiet ((first
        | (go_at_call 11; with_reducible exact Calls.quiet_of (c1 _))
        | (go_at_call 12; with_reducible exact Calls.quiet_of (c2 _))))
      clear c1 c2 y0 y1 e1 e2 D1 ib hlt hi
      obtain ⟨w6, hw6⟩ : ∃ w6, w6 = wr.drewN nq := ⟨_, rfl⟩
      rw [← hw6]
      have HQ : Hid (Ns22 w w6 b1 b2 b3 f1 f2 f3 g x) := by rw [hw6]; exact HS.out.below (below_drewN (Below.refl _ _) nq)
      clear hw6 HS
      have zE : w6.cell? ⟨0, 0, none⟩ = some (.iface 114 (.pointer (some x))) := HQ.out.et.1
      have c1 := eserr22 x w6 HQ.out.et.2
      have c2 := errnil22 w6
      have c3 := error22 w.heap.size (-7) (by decide) (by decide) w6 HQ.out.blk HQ.out.tb
      rw [bt7_22] at c3
      have hm : ∀ W, Sem.run Tryd.prog (method 232 114 (.pointer (some x)) "Error") W = .ok (73, .pointer (some x)) W := fun _ => by kernel_rfl
      have e1 : ∀ W : World, Sem.run Tryd.prog (binOp BinOp.neq 35 (Value.iface 114 (.pointer (some x))) Value.nilIface) W = .ok (.bool true) W := fun W => by kernel_rfl
      go_wp2_with (first
        | (go_at_call 73; (with_reducible refine c1.mono ?_); rintro e w9 ⟨rfl, hw9⟩; have hw9 := hw9.symm; subst hw9; clear c1)
        | (go_at_call 14; (with_reducible refine c2.mono ?_); rintro e w9 ⟨rfl, hw9⟩; have hw9 := hw9.symm; subst hw9; clear c2)
        | (go_at_call 14; (with_reducible refine c3.mono ?_); rintro e w7 ⟨rfl, hb7⟩; have HB7 : Hid _ := hb7; clear c3 hb7 zE; have c4 := awake22 w7)
        | (go_at_call 15; (with_reducible refine c4.mono ?_); rintro e w8 ⟨rfl, hb8⟩; have HB8 : Hid _ := hb8; clear c4 hb8))
      go_ret
      exact ⟨rfl, (HQ.out.bel.trans (HB7.out.mono HQ.out.bel.size)).trans (HB8.out.mono (by have := HQ.out.bel.size; have := HB7.out.size; omega))⟩
end Go.Proofs.YtfbgcednodnioaaDoor
