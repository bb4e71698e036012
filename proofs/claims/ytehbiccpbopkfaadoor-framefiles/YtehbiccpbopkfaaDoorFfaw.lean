import Derived.Test.YtehbiccpbopkfaaDoorFfav
import Derived.Test.YtehbiccpbopkfaaDoorFfaj
import Derived.Test.YtehbiccpbopkfaaDoorFfat
import Derived.Test.YtehbiccpbopkfaaDoorFfai
import Derived.Deep.Cut
import Derived.Test.YtehbiccpbopkfaaDoorFfar
import Derived.Test.YtehbiccpbopkfaaDoorFfap
import Derived.Deep.QuietTactic
namespace Go.Proofs.YtehbiccpbopkfaaDoor
open Go.RowKit Gf2
set_option linter.unusedVariables false

-- layer 25: the law's files
theorem zcells25 {X : World} {b0 : Nat} {T : TypeId} {c0 c1 c2 c3 c4 c5 c6 c7 c8 c9 c10 : Value} (h : X.heap[b0]? = some (.cells #[c0, c1, c2, c3, c4, c5, c6, c7, c8, c9, c10] T (0, 0))) :
    X.cell? ⟨b0, 0, none⟩ = some c0 ∧ X.cell? ⟨b0, 1, none⟩ = some c1 ∧ X.cell? ⟨b0, 2, none⟩ = some c2 ∧ X.cell? ⟨b0, 3, none⟩ = some c3 ∧ X.cell? ⟨b0, 4, none⟩ = some c4 ∧ X.cell? ⟨b0, 5, none⟩ = some c5 ∧ X.cell? ⟨b0, 6, none⟩ = some c6 ∧ X.cell? ⟨b0, 7, none⟩ = some c7 ∧ X.cell? ⟨b0, 8, none⟩ = some c8 ∧ X.cell? ⟨b0, 9, none⟩ = some c9 ∧ X.cell? ⟨b0, 10, none⟩ = some c10 :=
  ⟨by rw [cell_of_row _ _ 0 _ _ _ h]; rfl, by rw [cell_of_row _ _ 1 _ _ _ h]; rfl, by rw [cell_of_row _ _ 2 _ _ _ h]; rfl, by rw [cell_of_row _ _ 3 _ _ _ h]; rfl, by rw [cell_of_row _ _ 4 _ _ _ h]; rfl, by rw [cell_of_row _ _ 5 _ _ _ h]; rfl, by rw [cell_of_row _ _ 6 _ _ _ h]; rfl, by rw [cell_of_row _ _ 7 _ _ _ h]; rfl, by rw [cell_of_row _ _ 8 _ _ _ h]; rfl, by rw [cell_of_row _ _ 9 _ _ _ h]; rfl, by rw [cell_of_row _ _ 10 _ _ _ h]; rfl⟩
theorem hfacts25 {X : World} {g : Nat} {T : TypeId} {c0 c1 c2 c3 c4 c5 c6 c7 : Value} (h : X.heap[g]? = some (.cells #[c0, c1, c2, c3, c4, c5, c6, c7] T (0, 0))) :
    (X.cell? ⟨g, 0, none⟩ = some c0 ∧ X.cell? ⟨g, 1, none⟩ = some c1 ∧ X.cell? ⟨g, 2, none⟩ = some c2 ∧ X.cell? ⟨g, 3, none⟩ = some c3 ∧ X.cell? ⟨g, 4, none⟩ = some c4 ∧ X.cell? ⟨g, 5, none⟩ = some c5 ∧ X.cell? ⟨g, 6, none⟩ = some c6 ∧ X.cell? ⟨g, 7, none⟩ = some c7) ∧
    (X.frozen? ⟨g, 0, none⟩ = false ∧ X.frozen? ⟨g, 1, none⟩ = false ∧ X.frozen? ⟨g, 2, none⟩ = false ∧ X.frozen? ⟨g, 3, none⟩ = false ∧ X.frozen? ⟨g, 4, none⟩ = false ∧ X.frozen? ⟨g, 5, none⟩ = false ∧ X.frozen? ⟨g, 6, none⟩ = false ∧ X.frozen? ⟨g, 7, none⟩ = false) :=
  ⟨⟨by rw [cell_of_row _ _ 0 _ _ _ h]; rfl, by rw [cell_of_row _ _ 1 _ _ _ h]; rfl, by rw [cell_of_row _ _ 2 _ _ _ h]; rfl, by rw [cell_of_row _ _ 3 _ _ _ h]; rfl, by rw [cell_of_row _ _ 4 _ _ _ h]; rfl, by rw [cell_of_row _ _ 5 _ _ _ h]; rfl, by rw [cell_of_row _ _ 6 _ _ _ h]; rfl, by rw [cell_of_row _ _ 7 _ _ _ h]; rfl⟩,
   ⟨frozen_of_row _ _ _ _ _ h, frozen_of_row _ _ _ _ _ h, frozen_of_row _ _ _ _ _ h, frozen_of_row _ _ _ _ _ h, frozen_of_row _ _ _ _ _ h, frozen_of_row _ _ _ _ _ h, frozen_of_row _ _ _ _ _ h, frozen_of_row _ _ _ _ _ h⟩⟩
/-- a copy of n bytes, in block g from x on. -/
def Cp25 (x : Nat) (W : World) (g C n : Nat) (F : Nat → Nat) : Prop := x ≤ g ∧ n ≤ C ∧ ∃ Fg, Rw W g C Fg ∧ ∀ i, i < n → Fg i = F i
theorem Cp25.below {x : Nat} {W W' : World} {g C n : Nat} {F : Nat → Nat} (h : Cp25 x W g C n F) (hb : Below W.heap.size W W') : Cp25 x W' g C n F := by
  obtain ⟨h1, h2, Fg, h3, h4⟩ := h
  exact ⟨h1, h2, Fg, h3.of_block (hb.block _ h3.lt), h4⟩
theorem Cp25.only {x y : Nat} {W W' : World} {g C n : Nat} {F : Nat → Nat} (h : Cp25 x W g C n F) (ho : Only y W W') (hy : y < x) : Cp25 x W' g C n F := by
  obtain ⟨h1, h2, Fg, h3, h4⟩ := h
  exact ⟨h1, h2, Fg, h3.of_block (ho.2.2 _ (by omega)), h4⟩
theorem Cp25.rb {x : Nat} {W : World} {g C n : Nat} {F : Nat → Nat} (h : Cp25 x W g C n F) : Rb W (.slice (some ⟨g, 0, none⟩) n C) n F := by
  obtain ⟨h1, h2, Fg, h3, h4⟩ := h
  exact ((h3.re (E := fun _ => False) h2 h2 h3.1 (fun e => e)).rb).congr h4
theorem copy_rb25 (X : World) {aB : Option Addr} {n cap : Nat} {F : Nat → Nat} (h : Rb X (.slice aB n cap) n F) (hn : n ≤ 140737488355328) :
    ∃ x4 g C, (Builtin.append_ #[27, 27] 27 #[.slice (some ⟨X.heap.size, 0, none⟩) 0 0, .slice aB n cap]).run Tryd.prog (X.alloc (.cells #[] 5)) = .ok (.slice (some ⟨g, 0, none⟩) n C) x4 ∧ Below X.heap.size X x4 ∧ Cp25 X.heap.size x4 g C n F := by
  obtain ⟨x4, g, C, Fg, h1, h2, h3, h4, h5, h6, h7⟩ := copy_app X h hn
  exact ⟨x4, g, C, h1, h7, h3, h2, Fg, h5, h6⟩
set_option maxHeartbeats 16000000 in
set_option maxRecDepth 100000 in
theorem files25 (K f k m i s l b : Int) (st S : Nat) (aB : Option Addr) (n cap : Nat) (F : Nat → Nat) (w : World) (hV : Rb w (.slice aB n cap) n F) (bV : n ≤ 140737488355328) (hT : Fsh w) :
    Calls Tryd.prog 17 #[.agg #[.int .i64 K, .int .i64 f, .int .i64 k, .int .i64 m, .int .i64 i, .int .i64 s, .int .i64 l, .int .i64 b, .int .u64 (st : Int), .slice aB n cap, .int .u32 (S : Int)]] w fun e w' => e = .returned (.bool true) ∧ Below w.heap.size w w' := by
  obtain ⟨f1, k1, m1, i1, s1, l1, b1, st1, c1, hp, hq, r, hlong, f2, k2, m2, i2, s2, l2, b2, st2, c2, nS, G, nL, Sv, hR, hQ⟩ := heads25 n F hV.2.1
  obtain ⟨w1, hw1⟩ : ∃ w1, Hid (w.alloc (.cells #[.int .i64 K, .int .i64 f, .int .i64 k, .int .i64 m, .int .i64 i, .int .i64 s, .int .i64 l, .int .i64 b, .int .u64 (st : Int), .slice aB n cap, .int .u32 (S : Int)] 30) = w1) := ⟨_, rfl⟩
  have bw1 : Below w.heap.size w w1 := by rw [← hw1.out]; exact (Below.refl _ _).alloc (Nat.le_refl _) _
  obtain ⟨b0, hb0⟩ : ∃ b0, Hid (w.heap.size = b0) := ⟨_, rfl⟩
  have hblk : w1.heap[b0]? = some (.cells #[.int .i64 K, .int .i64 f, .int .i64 k, .int .i64 m, .int .i64 i, .int .i64 s, .int .i64 l, .int .i64 b, .int .u64 (st : Int), .slice aB n cap, .int .u32 (S : Int)] 30 (0, 0)) := by rw [← hw1.out, ← hb0.out]; exact heap_alloc_new _ _
  have HZ : Hid (∀ W, Below w1.heap.size w1 W → W.heap[b0]? = some (.cells #[.int .i64 K, .int .i64 f, .int .i64 k, .int .i64 m, .int .i64 i, .int .i64 s, .int .i64 l, .int .i64 b, .int .u64 (st : Int), .slice aB n cap, .int .u32 (S : Int)] 30 (0, 0))) := fun W hW => (hW.block _ (Array.getElem?_eq_some_iff.1 hblk).1).trans hblk
  have cq := hq _ w1 (hV.below bw1)
  have HP : Hid (∀ W, Below w1.heap.size w1 W → Rb W (.slice aB n cap) n F ∧ Fsh W ∧ Below w.heap.size w W) := fun W hW => ⟨(hV.below bw1).below hW, (hT.below bw1).below hW, bw1.trans (hW.mono bw1.size)⟩
  have HC : Hid (∀ X, Below w1.heap.size w1 X → ∃ x4 g C, (Builtin.append_ #[27, 27] 27 #[.slice (some ⟨X.heap.size, 0, none⟩) 0 0, .slice aB n cap]).run Tryd.prog (X.alloc (.cells #[] 5)) = .ok (.slice (some ⟨g, 0, none⟩) n C) x4 ∧ Below X.heap.size X x4 ∧ Cp25 X.heap.size x4 g C n F) := fun X hX => copy_rb25 X (HP.out X hX).1 bV
  have Hp : Hid (∀ v w, Rb w v n F → Fsh w → Calls Tryd.prog 33 #[v] w fun e w' => e = .returned (.tuple #[hd25 f1 k1 m1 i1 s1 l1 b1 st1, .int .i64 c1]) ∧ Below w.heap.size w w') := hp
  have Hlong : Hid (∀ W, Calls Tryd.prog 34 #[hd25 f1 k1 m1 i1 s1 l1 b1 st1] W fun e w' => e = .returned (.bool r) ∧ Below W.heap.size W w') := hlong
  have HR : Hid (∀ a cap w, Rb w (.slice a n cap) n F → Fsh w → Calls Tryd.prog 35 #[.slice a n cap] w (fun e w' => Ra25 f2 k2 m2 i2 s2 l2 b2 st2 c2 nS G nL Sv w w' e)) := hR
  have HQ : Hid (∀ a cap w, Rb w (.slice a n cap) n F → Calls Tryd.prog 36 #[.slice a n cap] w (fun e w' => Ra25 f2 k2 m2 i2 s2 l2 b2 st2 c2 nS G nL Sv w w' e)) := hQ
  have hz0 := zcells25 (HZ.out w1 (Below.refl _ _))
  obtain ⟨z0, z1, z2, z3, z4, z5, z6, z7, z8, z9, z10⟩ := hz0
  unfold hd25 at Hp Hlong cq
  unfold Ra25 hd25 at HR HQ
  clear hV hT bV bw1 hblk hp hq hlong hR hQ
  go_enter Tryd.func17, Tryd.ntmps17
  go_upto_region 1 with (fail)
  rw [hw1.out]
  rw [hb0.out]
  go_upto_region 3 with (first
    | (go_at_call 32; (with_reducible refine cq.mono ?_); rintro e x2 ⟨rfl, hb2⟩; clear cq; have k3 := heap_alloc_new x2 (.cells #[.int .i64 f1, .int .i64 k1, .int .i64 m1, .int .i64 i1, .int .i64 s1, .int .i64 l1, .int .i64 b1, .int .u64 (st1 : Int)] 26); have b3 : Below w1.heap.size w1 (x2.alloc (.cells #[.int .i64 f1, .int .i64 k1, .int .i64 m1, .int .i64 i1, .int .i64 s1, .int .i64 l1, .int .i64 b1, .int .u64 (st1 : Int)] 26)) := hb2.alloc hb2.size _; obtain ⟨X3, hX3⟩ : ∃ X3, x2.alloc (.cells #[.int .i64 f1, .int .i64 k1, .int .i64 m1, .int .i64 i1, .int .i64 s1, .int .i64 l1, .int .i64 b1, .int .u64 (st1 : Int)] 26) = X3 := ⟨_, rfl⟩; rw [hX3] at k3 b3; obtain ⟨h3, hh3⟩ : ∃ h3, x2.heap.size = h3 := ⟨_, rfl⟩; rw [hh3] at k3; have hx3 : h3 < X3.heap.size := (Array.getElem?_eq_some_iff.1 k3).1; obtain ⟨x4, gb, C, r1, b4, hr4⟩ := HC.out X3 b3; have z9a : (X3.alloc (.cells #[] 5)).cell? ⟨b0, 9, none⟩ = some (.slice aB n cap) := (zcells25 (HZ.out _ (b3.alloc b3.size _))).2.2.2.2.2.2.2.2.2.1; clear z0 z1 z2 z3 z4 z5 z6 z7 z8 z9 z10 HC)
    | (at_builtin; refine Lib.wpList_append_run _ rfl _ _ _ _ rfl _ _ rfl rfl _ _ r1 ?_; clear r1 z9a))
  have b5 : Below w1.heap.size w1 x4 := b3.trans (b4.mono b3.size)
  have k5 := (b4.block _ (Array.getElem?_eq_some_iff.1 k3).1).trans k3
  have hl3 : w1.heap.size ≤ h3 := by rw [← hh3]; exact hb2.size
  have hl4 : h3 < x4.heap.size := (Array.getElem?_eq_some_iff.1 k5).1
  have hcp4 : Cp25 (h3 + 1) x4 gb C n F := ⟨Nat.le_trans (by omega) hr4.1, hr4.2⟩
  clear hX3 hh3 hb2 k3 b3 b4 hx3
  have hz1 := zcells25 (HZ.out x4 b5)
  obtain ⟨z0, z1, z2, z3, z4, z5, z6, z7, z8, z9, z10⟩ := hz1
  have heq1 := heq25 f1 k1 m1 i1 s1 l1 b1 st1
  have heq2 := heq25 f2 k2 m2 i2 s2 l2 b2 st2
  have HH1 : Hid (∀ W, Calls Tryd.prog 13 #[.agg #[.int .i64 f1, .int .i64 k1, .int .i64 m1, .int .i64 i1, .int .i64 s1, .int .i64 l1, .int .i64 b1, .int .u64 (st1 : Int)]] W fun e w' => e = .returned (.agg #[.int .i64 f1, .int .i64 k1, .int .i64 m1, .int .i64 i1, .int .i64 s1, .int .i64 l1, .int .i64 b1, .int .u64 (st1 : Int)]) ∧ Below W.heap.size W w') := fun W => lawHead25 f1 k1 m1 i1 s1 l1 b1 st1 W
  have HH2 : Hid (∀ W, Calls Tryd.prog 13 #[.agg #[.int .i64 f2, .int .i64 k2, .int .i64 m2, .int .i64 i2, .int .i64 s2, .int .i64 l2, .int .i64 b2, .int .u64 (st2 : Int)]] W fun e w' => e = .returned (.agg #[.int .i64 f2, .int .i64 k2, .int .i64 m2, .int .i64 i2, .int .i64 s2, .int .i64 l2, .int .i64 b2, .int .u64 (st2 : Int)]) ∧ Below W.heap.size W w') := fun W => lawHead25 f2 k2 m2 i2 s2 l2 b2 st2 W
  by_cases hK : K = 5
  · subst hK
    have cp := Hp.out (.slice (some ⟨gb, 0, none⟩) n C) x4 hr4.rb (HP.out x4 b5).2.1
    clear Hp HH2 HR HQ Hlong heq2
    go_upto_region 5 with (go_at_call 33; (with_reducible refine cp.mono ?_); rintro e x5 ⟨rfl, hb5⟩; clear cp; have k6 := heap_alloc_new x5 (.cells #[.int .i64 f1, .int .i64 k1, .int .i64 m1, .int .i64 i1, .int .i64 s1, .int .i64 l1, .int .i64 b1, .int .u64 (st1 : Int)] 38); have b6 : Below x4.heap.size x4 (x5.alloc (.cells #[.int .i64 f1, .int .i64 k1, .int .i64 m1, .int .i64 i1, .int .i64 s1, .int .i64 l1, .int .i64 b1, .int .u64 (st1 : Int)] 38)) := hb5.alloc hb5.size _; obtain ⟨X6, hX6⟩ : ∃ X6, x5.alloc (.cells #[.int .i64 f1, .int .i64 k1, .int .i64 m1, .int .i64 i1, .int .i64 s1, .int .i64 l1, .int .i64 b1, .int .u64 (st1 : Int)] 38) = X6 := ⟨_, rfl⟩; rw [hX6] at k6 b6; obtain ⟨h6, hh6⟩ : ∃ h6, x5.heap.size = h6 := ⟨_, rfl⟩; rw [hh6] at k6)
    have b7 : Below w1.heap.size w1 X6 := b5.trans (b6.mono b5.size)
    have k7 := (b6.block _ hl4).trans k5
    have HB6 : Hid (Below x4.heap.size x4 X6) := b6
    have HS : Hid (∀ W, Below X6.heap.size X6 W → (W.heap[h6]? = some (.cells #[.int .i64 f1, .int .i64 k1, .int .i64 m1, .int .i64 i1, .int .i64 s1, .int .i64 l1, .int .i64 b1, .int .u64 (st1 : Int)] 38 (0, 0)) ∧ W.heap[h3]? = some (.cells #[.int .i64 f1, .int .i64 k1, .int .i64 m1, .int .i64 i1, .int .i64 s1, .int .i64 l1, .int .i64 b1, .int .u64 (st1 : Int)] 26 (0, 0)) ∧ W.heap[b0]? = some (.cells #[.int .i64 5, .int .i64 f, .int .i64 k, .int .i64 m, .int .i64 i, .int .i64 s, .int .i64 l, .int .i64 b, .int .u64 (st : Int), .slice aB n cap, .int .u32 (S : Int)] 30 (0, 0)))) := fun W hW => ⟨(hW.block _ (Array.getElem?_eq_some_iff.1 k6).1).trans k6, (hW.block _ (Array.getElem?_eq_some_iff.1 k7).1).trans k7, HZ.out W (b7.trans (hW.mono b7.size))⟩
    have HB7 : Hid (Below w1.heap.size w1 X6) := b7
    clear hX6 hh6 hb5 k6 k7 b6 b7 z0 z1 z2 z3 z4 z5 z6 z7 z8 z9 z10
    refine region_planI (fun w' => (w'.heap[h6]? = some (.cells #[.int .i64 f1, .int .i64 k1, .int .i64 m1, .int .i64 i1, .int .i64 s1, .int .i64 l1, .int .i64 b1, .int .u64 (st1 : Int)] 38 (0, 0)) ∧ w'.heap[h3]? = some (.cells #[.int .i64 f1, .int .i64 k1, .int .i64 m1, .int .i64 i1, .int .i64 s1, .int .i64 l1, .int .i64 b1, .int .u64 (st1 : Int)] 26 (0, 0)) ∧ w'.heap[b0]? = some (.cells #[.int .i64 5, .int .i64 f, .int .i64 k, .int .i64 m, .int .i64 i, .int .i64 s, .int .i64 l, .int .i64 b, .int .u64 (st : Int), .slice aB n cap, .int .u32 (S : Int)] 30 (0, 0)))) [0, 1, 2, 3, 4, 5, 6, 7, 8, 9, 10, 11, 12, 13, 14, 15] [6, 6, 2] 89 (HS.out _ (Below.refl X6.heap.size X6).drew) (by kernel_rfl) (by kernel_rfl) (fun _ a d v _ h => by cases d <;> exact h) ?_
    simp only [atI, List.getElem?_cons_zero, List.getElem?_cons_succ]
    refine planH_step ?A1 rfl (fun w' hS => ?s1) rfl (fun K9 hK9 => ?n1)
    case s1 =>
      obtain ⟨a1, a2, a3⟩ := hS
      obtain ⟨⟨p0, p1, p2, p3, p4, p5, p6, p7⟩, -⟩ := hfacts25 a1
      obtain ⟨⟨q0, q1, q2, q3, q4, q5, q6, q7⟩, -⟩ := hfacts25 a2
      obtain ⟨z0, z1, z2, z3, z4, z5, z6, z7, z8, z9, z10⟩ := zcells25 a3
      simp only [List.take_succ_cons, List.take_zero]
      repeat still_step
      exact rfl
    case n1 =>
    go_simp
    go_wp2_with (go_at_call 13; (with_reducible refine (HH1.out _).mono ?_); rintro e x8 ⟨rfl, hb8⟩; have D8 := ((Below.refl X6.heap.size X6).drew).trans (hb8.mono (by simp)); clear hb8)
    refine hK9 _ _ (HS.out _ D8) ?_
    clear hK9 K9
    refine planH_step ?A2 rfl (fun w' hS => ?s2) rfl (fun K9 hK9 => ?n2)
    case s2 =>
      obtain ⟨a1, a2, a3⟩ := hS
      obtain ⟨⟨p0, p1, p2, p3, p4, p5, p6, p7⟩, -⟩ := hfacts25 a1
      obtain ⟨⟨q0, q1, q2, q3, q4, q5, q6, q7⟩, -⟩ := hfacts25 a2
      obtain ⟨z0, z1, z2, z3, z4, z5, z6, z7, z8, z9, z10⟩ := zcells25 a3
      simp only [List.take_succ_cons, List.take_zero]
      repeat still_step
      exact rfl
    case n2 =>
    have ce := sq25_true (.slice (some ⟨gb, 0, none⟩) n C) (.slice aB n cap) n F F x8 (hr4.rb.below (HB6.out.trans (D8.mono HB6.out.size))) (HP.out _ (HB7.out.trans (D8.mono HB7.out.size))).1 (fun _ _ => rfl)
    go_simp
    go_wp2_with (go_at_call 16; (with_reducible refine ce.mono ?_); rintro e x9 ⟨rfl, m9, rfl⟩; clear ce)
    refine hK9 _ _ (HS.out _ (below_drewN D8 m9)) ?_
    clear hK9 K9
    refine planH_last ?A3 rfl (fun w' hS => ?s3) rfl ?n3
    case s3 =>
      obtain ⟨a1, a2, a3⟩ := hS
      obtain ⟨⟨p0, p1, p2, p3, p4, p5, p6, p7⟩, -⟩ := hfacts25 a1
      obtain ⟨⟨q0, q1, q2, q3, q4, q5, q6, q7⟩, -⟩ := hfacts25 a2
      obtain ⟨z0, z1, z2, z3, z4, z5, z6, z7, z8, z9, z10⟩ := zcells25 a3
      simp only [List.take_succ_cons, List.take_zero]
      repeat still_step
      exact rfl
    case n3 =>
    go_wp2
    go_ret
    exact ⟨rfl, (HP.out _ (HB7.out.trans ((below_drewN D8 m9).mono HB7.out.size))).2.2⟩
  · have hK5 : (K == 5) = false := beq_eq_false_iff_ne.2 hK
    have cl := Hlong.out x4
    clear Hp HH1 heq1 hr4
    obtain ⟨⟨q0, q1, q2, q3, q4, q5, q6, q7⟩, -⟩ := hfacts25 k5
    cases r with
    | true =>
      go_wp2_with (go_at_call 34; (with_reducible refine cl.mono ?_); rintro e x5 ⟨rfl, hb5⟩; clear cl)
      go_ret
      exact ⟨rfl, (HP.out _ (b5.trans (hb5.mono b5.size))).2.2⟩
    | false =>
      go_upto_region 8 with (go_at_call 34; (with_reducible refine cl.mono ?_); rintro e x5 ⟨rfl, hb5⟩; clear cl)
      have b51 := b5.trans (hb5.mono b5.size)
      have k51 := (hb5.block _ hl4).trans k5
      have hl5 : h3 < x5.heap.size := Nat.lt_of_lt_of_le hl4 hb5.size
      have hc5 := hcp4.below hb5
      clear b5 k5 hl4 hcp4 hb5 q0 q1 q2 q3 q4 q5 q6 q7 z0 z1 z2 z3 z4 z5 z6 z7 z8 z9 z10
      have cr := HR.out (some ⟨gb, 0, none⟩) C x5 hc5.rb (HP.out x5 b51).2.1
      clear HR
      go_upto_region 9 with (go_at_call 35; (with_reducible refine cr.mono ?_); rintro e x6 ⟨sv, bv, rfl, hb6, hs6, hj6⟩; clear cr; have k7 := heap_alloc_new x6 (.cells #[.int .i64 f2, .int .i64 k2, .int .i64 m2, .int .i64 i2, .int .i64 s2, .int .i64 l2, .int .i64 b2, .int .u64 (st2 : Int)] 38); have b7 : Below x5.heap.size x5 (x6.alloc (.cells #[.int .i64 f2, .int .i64 k2, .int .i64 m2, .int .i64 i2, .int .i64 s2, .int .i64 l2, .int .i64 b2, .int .u64 (st2 : Int)] 38)) := hb6.alloc hb6.size _; have s7 := hs6.below ((Below.refl x6.heap.size x6).alloc (Nat.le_refl _) (.cells #[.int .i64 f2, .int .i64 k2, .int .i64 m2, .int .i64 i2, .int .i64 s2, .int .i64 l2, .int .i64 b2, .int .u64 (st2 : Int)] 38)); have j7 := hj6.below ((Below.refl x6.heap.size x6).alloc (Nat.le_refl _) (.cells #[.int .i64 f2, .int .i64 k2, .int .i64 m2, .int .i64 i2, .int .i64 s2, .int .i64 l2, .int .i64 b2, .int .u64 (st2 : Int)] 38)); obtain ⟨X7, hX7⟩ : ∃ X7, x6.alloc (.cells #[.int .i64 f2, .int .i64 k2, .int .i64 m2, .int .i64 i2, .int .i64 s2, .int .i64 l2, .int .i64 b2, .int .u64 (st2 : Int)] 38) = X7 := ⟨_, rfl⟩; rw [hX7] at k7 b7 s7 j7; obtain ⟨h7, hh7⟩ : ∃ h7, x6.heap.size = h7 := ⟨_, rfl⟩; rw [hh7] at k7)
      have b71 := b51.trans (b7.mono b51.size)
      have k71 := (b7.block _ hl5).trans k51
      have hl7 : h3 < h7 := by rw [← hh7]; exact Nat.lt_of_lt_of_le hl5 hb6.size
      have hc7 := hc5.below b7
      clear hX7 hh7 hb6 hs6 hj6 k51 hc5
      have hz2 := zcells25 (HZ.out X7 b71)
      obtain ⟨z0, z1, z2, z3, z4, z5, z6, z7, z8, z9, z10⟩ := hz2
      have cq := HQ.out aB cap X7 (HP.out X7 b71).1
      clear HQ
      go_upto_region 10 with (go_at_call 36; (with_reducible refine cq.mono ?_); rintro e x8 ⟨wv, lv, rfl, hb8, hs8, hj8⟩; clear cq z0 z1 z2 z3 z4 z5 z6 z7 z8 z9 z10; have k8 := (hb8.block _ (Array.getElem?_eq_some_iff.1 k71).1).trans k71; obtain ⟨⟨q0, q1, q2, q3, q4, q5, q6, q7⟩, ⟨e0, e1, e2, e3, e4, e5, e6, e7⟩⟩ := hfacts25 k8; have kst := store8_25 k8 (.int .i64 f2) (.int .i64 k2) (.int .i64 m2) (.int .i64 i2) (.int .i64 s2) (.int .i64 l2) (.int .i64 b2) (.int .u64 (st2 : Int)); obtain ⟨X9, hX9⟩ : ∃ X9, ((((((((x8.setCell ⟨h3, 0, none⟩ (.int .i64 f2)).setCell ⟨h3, 1, none⟩ (.int .i64 k2)).setCell ⟨h3, 2, none⟩ (.int .i64 m2)).setCell ⟨h3, 3, none⟩ (.int .i64 i2)).setCell ⟨h3, 4, none⟩ (.int .i64 s2)).setCell ⟨h3, 5, none⟩ (.int .i64 l2)).setCell ⟨h3, 6, none⟩ (.int .i64 b2)).setCell ⟨h3, 7, none⟩ (.int .u64 (st2 : Int))) = X9 := ⟨_, rfl⟩; rw [hX9] at kst)
      have ho9 := kst.2
      have k91 := kst.1
      have k97 : X9.heap[h7]? = some (.cells #[.int .i64 f2, .int .i64 k2, .int .i64 m2, .int .i64 i2, .int .i64 s2, .int .i64 l2, .int .i64 b2, .int .u64 (st2 : Int)] 38 (0, 0)) := (ho9.2.2 _ (by omega)).trans ((hb8.block _ (Array.getElem?_eq_some_iff.1 k7).1).trans k7)
      have b9 : Below w1.heap.size w1 X9 := (b71.trans (hb8.mono b71.size)).trans (ho9.below hl3)
      have hxl : X7.heap.size = X7.heap.size := rfl
      have l37 : h3 < X7.heap.size := Nat.lt_of_lt_of_le hl5 b7.size
      have s9 := ((s7.below hb8).only ho9 hl5).rb
      have j9 := (gj_only25 (j7.below hb8) ho9 hl5).qi
      have t9 := (hs8.only ho9 l37).rb
      have u9 := (gj_only25 hj8 ho9 l37).qi
      have hc9 := ((hc7.below hb8).only ho9 (Nat.lt_succ_self _)).rb
      have HS : Hid (∀ W, Below X9.heap.size X9 W → (W.heap[h7]? = some (.cells #[.int .i64 f2, .int .i64 k2, .int .i64 m2, .int .i64 i2, .int .i64 s2, .int .i64 l2, .int .i64 b2, .int .u64 (st2 : Int)] 38 (0, 0)) ∧ W.heap[h3]? = some (.cells #[.int .i64 f2, .int .i64 k2, .int .i64 m2, .int .i64 i2, .int .i64 s2, .int .i64 l2, .int .i64 b2, .int .u64 (st2 : Int)] 26 (0, 0)) ∧ W.heap[b0]? = some (.cells #[.int .i64 K, .int .i64 f, .int .i64 k, .int .i64 m, .int .i64 i, .int .i64 s, .int .i64 l, .int .i64 b, .int .u64 (st : Int), .slice aB n cap, .int .u32 (S : Int)] 30 (0, 0)))) := fun W hW => ⟨(hW.block _ (Array.getElem?_eq_some_iff.1 k97).1).trans k97, (hW.block _ (Array.getElem?_eq_some_iff.1 k91).1).trans k91, HZ.out W (b9.trans (hW.mono b9.size))⟩
      have HF : Hid (∀ W, Below X9.heap.size X9 W → Rb W sv nS G ∧ Qi W bv nL Sv ∧ Rb W wv nS G ∧ Qi W lv nL Sv ∧ Rb W (.slice (some ⟨gb, 0, none⟩) n C) n F ∧ Rb W (.slice aB n cap) n F ∧ Below w.heap.size w W) := fun W hW => ⟨s9.below hW, j9.below hW, t9.below hW, u9.below hW, hc9.below hW, (HP.out W (b9.trans (hW.mono b9.size))).1, (HP.out W (b9.trans (hW.mono b9.size))).2.2⟩
      clear hX9 hb8 hs8 hj8 k7 k71 k8 kst ho9 k91 k97 b9 hxl l37 s9 j9 t9 u9 hc9 hc7 s7 j7 b7 b71 b51 hl7 hl5 hl3 q0 q1 q2 q3 q4 q5 q6 q7 e0 e1 e2 e3 e4 e5 e6 e7
      refine region_planI (fun w' => (w'.heap[h7]? = some (.cells #[.int .i64 f2, .int .i64 k2, .int .i64 m2, .int .i64 i2, .int .i64 s2, .int .i64 l2, .int .i64 b2, .int .u64 (st2 : Int)] 38 (0, 0)) ∧ w'.heap[h3]? = some (.cells #[.int .i64 f2, .int .i64 k2, .int .i64 m2, .int .i64 i2, .int .i64 s2, .int .i64 l2, .int .i64 b2, .int .u64 (st2 : Int)] 26 (0, 0)) ∧ w'.heap[b0]? = some (.cells #[.int .i64 K, .int .i64 f, .int .i64 k, .int .i64 m, .int .i64 i, .int .i64 s, .int .i64 l, .int .i64 b, .int .u64 (st : Int), .slice aB n cap, .int .u32 (S : Int)] 30 (0, 0)))) [0, 1, 2, 3, 4, 5, 6, 7, 8, 9, 10, 11, 12, 13, 14, 15, 16, 17, 18, 19, 20, 21, 22, 23, 24, 25] [6, 5, 4, 5, 2] 89 (HS.out _ (Below.refl X9.heap.size X9).drew) (by kernel_rfl) (by kernel_rfl) (fun _ a d v _ h => by cases d <;> exact h) ?_
      simp only [atI, List.getElem?_cons_zero, List.getElem?_cons_succ]
      refine planH_step ?A4 rfl (fun w' hS => ?s4) rfl (fun K9 hK9 => ?n4)
      case s4 =>
        obtain ⟨a1, a2, a3⟩ := hS
        obtain ⟨⟨p0, p1, p2, p3, p4, p5, p6, p7⟩, -⟩ := hfacts25 a1
        obtain ⟨⟨q0, q1, q2, q3, q4, q5, q6, q7⟩, -⟩ := hfacts25 a2
        obtain ⟨z0, z1, z2, z3, z4, z5, z6, z7, z8, z9, z10⟩ := zcells25 a3
        simp only [List.take_succ_cons, List.take_zero]
        repeat still_step
        exact rfl
      case n4 =>
      go_simp
      go_wp2_with (go_at_call 13; (with_reducible refine (HH2.out _).mono ?_); rintro e x8 ⟨rfl, hb8⟩; have D8 := ((Below.refl X9.heap.size X9).drew).trans (hb8.mono (by simp)); clear hb8)
      refine hK9 _ _ (HS.out _ D8) ?_
      clear hK9 K9
      have ce := sq25_true sv wv nS G G x8 (HF.out x8 D8).1 (HF.out x8 D8).2.2.1 (fun _ _ => rfl)
      refine planH_step ?A5 rfl (fun w' hS => ?s5) rfl (fun K9 hK9 => ?n5)
      case s5 =>
        obtain ⟨a1, a2, a3⟩ := hS
        obtain ⟨⟨p0, p1, p2, p3, p4, p5, p6, p7⟩, -⟩ := hfacts25 a1
        obtain ⟨⟨q0, q1, q2, q3, q4, q5, q6, q7⟩, -⟩ := hfacts25 a2
        obtain ⟨z0, z1, z2, z3, z4, z5, z6, z7, z8, z9, z10⟩ := zcells25 a3
        simp only [List.take_succ_cons, List.take_zero]
        repeat still_step
        exact rfl
      case n5 =>
      go_simp
      go_wp2_with (go_at_call 16; (with_reducible refine ce.mono ?_); rintro e x9 ⟨rfl, m9, rfl⟩; clear ce; have D9 := below_drewN D8 m9)
      refine hK9 _ _ (HS.out _ D9) ?_
      clear hK9 K9
      have ce := sj25_true bv lv nL Sv Sv (x8.drewN m9) (HF.out _ D9).2.1 (HF.out _ D9).2.2.2.1 (fun _ _ => rfl)
      refine planH_step ?A6 rfl (fun w' hS => ?s6) rfl (fun K9 hK9 => ?n6)
      case s6 =>
        obtain ⟨a1, a2, a3⟩ := hS
        obtain ⟨⟨p0, p1, p2, p3, p4, p5, p6, p7⟩, -⟩ := hfacts25 a1
        obtain ⟨⟨q0, q1, q2, q3, q4, q5, q6, q7⟩, -⟩ := hfacts25 a2
        obtain ⟨z0, z1, z2, z3, z4, z5, z6, z7, z8, z9, z10⟩ := zcells25 a3
        simp only [List.take_succ_cons, List.take_zero]
        repeat still_step
        exact rfl
      case n6 =>
      go_simp
      go_wp2_with (go_at_call 37; (with_reducible refine ce.mono ?_); rintro e x9 ⟨rfl, m10, rfl⟩; clear ce; have D10 := below_drewN D8 (m9 + m10))
      refine hK9 _ _ (HS.out _ D10) ?_
      clear hK9 K9
      have ce := sq25_true (.slice (some ⟨gb, 0, none⟩) n C) (.slice aB n cap) n F F (x8.drewN (m9 + m10)) (HF.out _ D10).2.2.2.2.1 (HF.out _ D10).2.2.2.2.2.1 (fun _ _ => rfl)
      refine planH_step ?A7 rfl (fun w' hS => ?s7) rfl (fun K9 hK9 => ?n7)
      case s7 =>
        obtain ⟨a1, a2, a3⟩ := hS
        obtain ⟨⟨p0, p1, p2, p3, p4, p5, p6, p7⟩, -⟩ := hfacts25 a1
        obtain ⟨⟨q0, q1, q2, q3, q4, q5, q6, q7⟩, -⟩ := hfacts25 a2
        obtain ⟨z0, z1, z2, z3, z4, z5, z6, z7, z8, z9, z10⟩ := zcells25 a3
        simp only [List.take_succ_cons, List.take_zero]
        repeat still_step
        exact rfl
      case n7 =>
      go_simp
      go_wp2_with (go_at_call 16; (with_reducible refine ce.mono ?_); rintro e x9 ⟨rfl, m11, rfl⟩; clear ce; have D11 := below_drewN D8 (m9 + m10 + m11))
      refine hK9 _ _ (HS.out _ D11) ?_
      clear hK9 K9
      refine planH_last ?A8 rfl (fun w' hS => ?s8) rfl ?n8
      case s8 =>
        obtain ⟨a1, a2, a3⟩ := hS
        obtain ⟨⟨p0, p1, p2, p3, p4, p5, p6, p7⟩, -⟩ := hfacts25 a1
        obtain ⟨⟨q0, q1, q2, q3, q4, q5, q6, q7⟩, -⟩ := hfacts25 a2
        obtain ⟨z0, z1, z2, z3, z4, z5, z6, z7, z8, z9, z10⟩ := zcells25 a3
        simp only [List.take_succ_cons, List.take_zero]
        repeat still_step
        exact rfl
      case n8 =>
      go_wp2
      go_ret
      exact ⟨rfl, (HF.out _ D11).2.2.2.2.2.2⟩
end Go.Proofs.YtehbiccpbopkfaaDoor
namespace Go.Proofs.YtehbiccpbopkfaaDoor
open Go.RowKit Gf2
set_option linter.unusedVariables false

-- layer 25: both sides' CheckHead and Pack, side by side
theorem checks25 (f k m i s l b : Int) (st : Nat) (hk : I64 k) : ∃ c : Int,
    (∀ w, Calls Tryd.prog 12 #[hd25 f k m i s l b st] w fun e w' => e = .returned (.int .i64 c) ∧ Below w.heap.size w w') ∧
    (∀ w, Calls Tryd.prog 14 #[hd25 f k m i s l b st] w fun e w' => e = .returned (.int .i64 c) ∧ Below w.heap.size w w') := by
  rcases Classical.em (gd25 f k m i s l b) with h | h
  · obtain ⟨K, M, I, S, L, B, rfl, rfl, rfl, rfl, rfl, rfl, hg⟩ := h
    exact ⟨0, fun w => check25_yes f K M I S L B st w hg, fun w => rcheck25_yes f K M I S L B st w hg⟩
  · exact ⟨251, fun w => check25_no f k m i s l b st w hk h, fun w => rcheck25_no f k m i s l b st w h⟩
theorem packs25 (f k m i s l b : Int) (st : Nat) (hk : I64 k) (hst : st < 18446744073709551616) (n : Nat) (F : Nat → Nat) : ∃ (c : Int) (nP : Nat) (G : Nat → Nat),
    (∀ a cap w, Rb w (.slice a n cap) n F → Fsh w → Calls Tryd.prog 7 #[hd25 f k m i s l b st, .slice a n cap] w fun e w' => ∃ pv, e = .returned (.tuple #[pv, .int .i64 c]) ∧ Below w.heap.size w w' ∧ Rb w' pv nP G) ∧
    (∀ a cap w, Rb w (.slice a n cap) n F → Calls Tryd.prog 15 #[hd25 f k m i s l b st, .slice a n cap] w fun e w' => ∃ pv, e = .returned (.tuple #[pv, .int .i64 c]) ∧ Below w.heap.size w w' ∧ Rb w' pv nP G) := by
  rcases Classical.em (gd25 f k m i s l b) with h | h
  · obtain ⟨K, M, I, S, L, B, rfl, rfl, rfl, rfl, rfl, rfl, hg⟩ := h
    obtain ⟨f', rfl⟩ : ∃ f' : Nat, f = f' := ⟨f.toNat, by have := hg.pv.fam; omega⟩
    by_cases hn : n = L
    · subst hn
      refine ⟨0, 48 + n + 4 * nb25 n B, fl25 (hdb25 f' K M I S n B st) (hsm25 f' K M I S n B st) n B F, fun a cap w h hT => ?_, fun a cap w h => ?_⟩
      · refine (pack25_yes f' K M I S n B st _ F w hg hst h hT).mono ?_
        rintro e w' ⟨g, rfl, hb, -, hr⟩
        exact ⟨_, rfl, hb, hr.rb0⟩
      · refine (rpack25_yes f' K M I S n B st _ F w hg hst h).mono ?_
        rintro e w' ⟨g, C, rfl, hG⟩
        exact ⟨_, rfl, hG.bel, hG.rb⟩
    · refine ⟨6, 0, fun _ => 0, fun a cap w h hT => ?_, fun a cap w h => ?_⟩
      · refine (pack25_lens f' K M I S L B st a n cap w hg hn).mono ?_
        rintro e w' ⟨rfl, hb⟩
        exact ⟨_, rfl, hb, nil_rb25 w'⟩
      · refine (rpack25_lens f' K M I S L B st a n cap w hg hn).mono ?_
        rintro e w' ⟨rfl, hb⟩
        exact ⟨_, rfl, hb, nil_rb25 w'⟩
  · refine ⟨251, 0, fun _ => 0, fun a cap w h2 hT => ?_, fun a cap w h2 => ?_⟩
    · refine (pack25_head f k m i s l b st _ w hk h).mono ?_
      rintro e w' ⟨rfl, hb⟩
      exact ⟨_, rfl, hb, nil_rb25 w'⟩
    · refine (rpack25_head f k m i s l b st _ w h).mono ?_
      rintro e w' ⟨rfl, hb⟩
      exact ⟨_, rfl, hb, nil_rb25 w'⟩
end Go.Proofs.YtehbiccpbopkfaaDoor
namespace Go.Proofs.YtehbiccpbopkfaaDoor
open Go.RowKit Gf2
set_option linter.unusedVariables false

-- layer 25: the law's plays
set_option maxHeartbeats 16000000 in
set_option maxRecDepth 100000 in
theorem plays25 (K f k m i s l b : Int) (st S : Nat) (aB : Option Addr) (n cap : Nat) (F : Nat → Nat) (w : World) (hk : I64 k) (hst : st < 18446744073709551616) (hS : S < 4294967296) (hV : Rb w (.slice aB n cap) n F) (bV : n ≤ 140737488355328) (hT : Fsh w) :
    Calls Tryd.prog 6 #[.agg #[.int .i64 K, .int .i64 f, .int .i64 k, .int .i64 m, .int .i64 i, .int .i64 s, .int .i64 l, .int .i64 b, .int .u64 (st : Int), .slice aB n cap, .int .u32 (S : Int)]] w fun e w' => e = .returned (.bool true) ∧ Below w.heap.size w w' := by
  obtain ⟨w1, hw1⟩ : ∃ w1, Hid (w.alloc (.cells #[.int .i64 K, .int .i64 f, .int .i64 k, .int .i64 m, .int .i64 i, .int .i64 s, .int .i64 l, .int .i64 b, .int .u64 (st : Int), .slice aB n cap, .int .u32 (S : Int)] 30) = w1) := ⟨_, rfl⟩
  have bw1 : Below w.heap.size w w1 := by rw [← hw1.out]; exact (Below.refl _ _).alloc (Nat.le_refl _) _
  obtain ⟨b0, hb0⟩ : ∃ b0, Hid (w.heap.size = b0) := ⟨_, rfl⟩
  have hblk : w1.heap[b0]? = some (.cells #[.int .i64 K, .int .i64 f, .int .i64 k, .int .i64 m, .int .i64 i, .int .i64 s, .int .i64 l, .int .i64 b, .int .u64 (st : Int), .slice aB n cap, .int .u32 (S : Int)] 30 (0, 0)) := by rw [← hw1.out, ← hb0.out]; exact heap_alloc_new _ _
  have z9a : (w1.alloc (.cells #[] 5)).cell? ⟨b0, 9, none⟩ = some (.slice aB n cap) := (zcells25 ((((Below.refl w1.heap.size w1).alloc (Nat.le_refl _) (.cells #[] 5)).block _ (Array.getElem?_eq_some_iff.1 hblk).1).trans hblk)).2.2.2.2.2.2.2.2.2.1
  obtain ⟨x4, gb, C, r1, b4, hr4⟩ := copy_rb25 w1 (hV.below bw1) bV
  have HF : Hid (∀ W, Below x4.heap.size x4 W → Rb W (.slice (some ⟨gb, 0, none⟩) n C) n F ∧ Rb W (.slice aB n cap) n F ∧ Below w.heap.size w W ∧ W.heap[b0]? = some (.cells #[.int .i64 K, .int .i64 f, .int .i64 k, .int .i64 m, .int .i64 i, .int .i64 s, .int .i64 l, .int .i64 b, .int .u64 (st : Int), .slice aB n cap, .int .u32 (S : Int)] 30 (0, 0))) := fun W hW => by
    have b5 := b4.trans (hW.mono b4.size)
    exact ⟨hr4.rb.below hW, (hV.below bw1).below b5, bw1.trans (b5.mono bw1.size), (b5.block _ (Array.getElem?_eq_some_iff.1 hblk).1).trans hblk⟩
  have HT : Hid (∀ W, Below x4.heap.size x4 W → Fsh W) := fun W hW => (hT.below bw1).below (b4.trans (hW.mono b4.size))
  have HK9 : Hid (I64 k) := hk
  have HST : Hid (st < 18446744073709551616) := hst
  have HS9 : Hid (S < 4294967296) := hS
  have HN9 : Hid (n ≤ 140737488355328) := bV
  clear hV hT bV bw1 hblk hk hst hS b4 hr4
  go_enter Tryd.func6, Tryd.ntmps6
  go_upto_region 1 with (fail)
  rw [hw1.out]
  rw [hb0.out]
  go_upto_region 3 with (at_builtin; refine Lib.wpList_append_run _ rfl _ _ _ _ rfl _ _ rfl rfl _ _ r1 ?_)
  clear r1 z9a
  by_cases K1 : K = 1
  · subst K1
    obtain ⟨z0, z1, z2, z3, z4, z5, z6, z7, z8, z9, z10⟩ := zcells25 (HF.out x4 (Below.refl _ _)).2.2.2
    have c1 : Hid (∀ m, Calls Tryd.prog 8 #[(.slice (some ⟨gb, 0, none⟩) n C)] (x4.drewN m) fun e w' => e = .returned (.int .u32 ((nt (fol25 (nt 0) F n) : Nat) : Int)) ∧ w' = x4.drewN m) := fun m => sum25 _ n F _ (HF.out _ (below_drewN (Below.refl _ _) m)).1 (HT.out _ (below_drewN (Below.refl _ _) m))
    have c2 : Hid (∀ m, Calls Tryd.prog 9 #[(.slice aB n cap)] (x4.drewN m) fun e w' => e = .returned (.int .u32 ((nt (fol25 (nt 0) F n) : Nat) : Int)) ∧ w' = x4.drewN m) := fun m => rsum25 _ n F _ (HF.out _ (below_drewN (Below.refl _ _) m)).2.1
    generalize nt (fol25 (nt 0) F n) = y at c1 c2
    go_wp2
    go_quiet (first | (go_at_call 8; with_reducible exact Calls.quiet_of_same (c1.out _)) | (go_at_call 9; with_reducible exact Calls.quiet_of_same (c2.out _)))
    clear z0 z1 z2 z3 z4 z5 z6 z7 z8 z9 z10 c1 c2
    have BE := below_drewN (Below.refl x4.heap.size x4) nq
    obtain ⟨X5, hX5⟩ : ∃ X5, x4.drewN nq = X5 := ⟨_, rfl⟩
    rw [hX5] at BE ⊢
    have hzE := (HF.out X5 BE).2.2.2
    obtain ⟨z0, z1, z2, z3, z4, z5, z6, z7, z8, z9, z10⟩ := zcells25 hzE
    have ce := sq25_true (.slice (some ⟨gb, 0, none⟩) n C) (.slice aB n cap) n F F X5 (HF.out X5 BE).1 (HF.out X5 BE).2.1 (fun _ _ => rfl)
    clear hzE
    go_wp2_with (go_at_call 16; (with_reducible refine ce.mono ?_); rintro e x9 ⟨rfl, m9, rfl⟩; clear ce)
    go_ret
    exact ⟨rfl, (HF.out _ (below_drewN BE m9)).2.2.1⟩
  · skip
    by_cases K2 : K = 2
    · subst K2
      obtain ⟨z0, z1, z2, z3, z4, z5, z6, z7, z8, z9, z10⟩ := zcells25 (HF.out x4 (Below.refl _ _)).2.2.2
      have c1 : Hid (∀ m, Calls Tryd.prog 10 #[.int .u32 (S : Int), (.slice (some ⟨gb, 0, none⟩) n C)] (x4.drewN m) fun e w' => e = .returned (.int .u32 ((nt (fol25 (nt S) F n) : Nat) : Int)) ∧ w' = x4.drewN m) := fun m => fold25 S _ n F _ (HF.out _ (below_drewN (Below.refl _ _) m)).1 (HT.out _ (below_drewN (Below.refl _ _) m)) HS9.out
      have c2 : Hid (∀ m, Calls Tryd.prog 11 #[.int .u32 (S : Int), (.slice aB n cap)] (x4.drewN m) fun e w' => e = .returned (.int .u32 ((nt (fol25 (nt S) F n) : Nat) : Int)) ∧ w' = x4.drewN m) := fun m => rfold25 S _ n F _ (HF.out _ (below_drewN (Below.refl _ _) m)).2.1 HS9.out
      generalize nt (fol25 (nt S) F n) = y at c1 c2
      go_wp2
      go_quiet (first | (go_at_call 10; with_reducible exact Calls.quiet_of_same (c1.out _)) | (go_at_call 11; with_reducible exact Calls.quiet_of_same (c2.out _)))
      clear z0 z1 z2 z3 z4 z5 z6 z7 z8 z9 z10 c1 c2
      have BE := below_drewN (Below.refl x4.heap.size x4) nq
      obtain ⟨X5, hX5⟩ : ∃ X5, x4.drewN nq = X5 := ⟨_, rfl⟩
      rw [hX5] at BE ⊢
      have hzE := (HF.out X5 BE).2.2.2
      obtain ⟨z0, z1, z2, z3, z4, z5, z6, z7, z8, z9, z10⟩ := zcells25 hzE
      have ce := sq25_true (.slice (some ⟨gb, 0, none⟩) n C) (.slice aB n cap) n F F X5 (HF.out X5 BE).1 (HF.out X5 BE).2.1 (fun _ _ => rfl)
      clear hzE
      go_wp2_with (go_at_call 16; (with_reducible refine ce.mono ?_); rintro e x9 ⟨rfl, m9, rfl⟩; clear ce)
      go_ret
      exact ⟨rfl, (HF.out _ (below_drewN BE m9)).2.2.1⟩
    · skip
      by_cases K3 : K = 3
      · subst K3
        obtain ⟨cc, hcA, hcB⟩ := checks25 f k m i s l b st HK9.out
        have HA : Hid (∀ w, Calls Tryd.prog 12 #[hd25 f k m i s l b st] w fun e w' => e = .returned (.int .i64 cc) ∧ Below w.heap.size w w') := hcA
        have HB : Hid (∀ w, Calls Tryd.prog 14 #[hd25 f k m i s l b st] w fun e w' => e = .returned (.int .i64 cc) ∧ Below w.heap.size w w') := hcB
        have HH1 : Hid (∀ W, Calls Tryd.prog 13 #[hd25 f k m i s l b st] W fun e w' => e = .returned (hd25 f k m i s l b st) ∧ Below W.heap.size W w') := fun W => lawHead25 f k m i s l b st W
        unfold hd25 at HA HB HH1
        clear hcA hcB
        obtain ⟨z0, z1, z2, z3, z4, z5, z6, z7, z8, z9, z10⟩ := zcells25 (HF.out x4 (Below.refl _ _)).2.2.2
        go_wp2
        clear z0 z1 z2 z3 z4 z5 z6 z7 z8 z9 z10
        refine region_planI (fun w' => (w'.heap[b0]? = some (.cells #[.int .i64 3, .int .i64 f, .int .i64 k, .int .i64 m, .int .i64 i, .int .i64 s, .int .i64 l, .int .i64 b, .int .u64 (st : Int), .slice aB n cap, .int .u32 (S : Int)] 30 (0, 0)))) [0, 1, 4, 5, 2, 3, 6, 7, 8] [4, 0, 0, 2] 83 (HF.out _ (Below.refl x4.heap.size x4).drew).2.2.2 (by kernel_rfl) (by kernel_rfl) (fun _ a d v _ h => by cases d <;> exact h) ?_
        simp only [atI, List.getElem?_cons_zero, List.getElem?_cons_succ]
        refine planH_step ?A1y3 rfl (fun w' hS => ?s1y3) rfl (fun K9 hK9 => ?n1y3)
        case s1y3 =>
          obtain ⟨z0, z1, z2, z3, z4, z5, z6, z7, z8, z9, z10⟩ := zcells25 hS
          simp only [List.take_succ_cons, List.take_zero]
          repeat still_step
          exact rfl
        case n1y3 =>
        go_simp
        go_wp2_with (go_at_call 13; (with_reducible refine (HH1.out _).mono ?_); rintro e x5 ⟨rfl, hb5⟩; have D5 := ((Below.refl x4.heap.size x4).drew).trans (hb5.mono (by simp)); clear hb5)
        refine hK9 _ _ (HF.out _ D5).2.2.2 ?_
        clear hK9 K9
        refine planH_step ?A2y3 rfl (fun w' hS => ?s2y3) rfl (fun K9 hK9 => ?n2y3)
        case s2y3 =>
          simp only [List.take_zero]
          repeat still_step
          exact rfl
        case n2y3 =>
        go_simp
        go_wp2_with (go_at_call 12; (with_reducible refine (HA.out _).mono ?_); rintro e x6 ⟨rfl, hb6⟩; have D6 := D5.trans (hb6.mono D5.size); clear hb6)
        refine hK9 _ _ (HF.out _ D6).2.2.2 ?_
        clear hK9 K9
        refine planH_step ?A3y3 rfl (fun w' hS => ?s3y3) rfl (fun K9 hK9 => ?n3y3)
        case s3y3 =>
          simp only [List.take_zero]
          repeat still_step
          exact rfl
        case n3y3 =>
        go_simp
        go_wp2_with (go_at_call 14; (with_reducible refine (HB.out _).mono ?_); rintro e x7 ⟨rfl, hb7⟩; have D7 := D6.trans (hb7.mono D6.size); clear hb7)
        refine hK9 _ _ (HF.out _ D7).2.2.2 ?_
        clear hK9 K9
        refine planH_last ?A4y3 rfl (fun w' hS => ?s4y3) rfl ?n4y3
        case s4y3 =>
          simp only [List.take_succ_cons, List.take_zero]
          repeat still_step
          exact rfl
        case n4y3 =>
        clear HA HB HH1
        have hzE := (HF.out x7 D7).2.2.2
        obtain ⟨z0, z1, z2, z3, z4, z5, z6, z7, z8, z9, z10⟩ := zcells25 hzE
        have ce := sq25_true (.slice (some ⟨gb, 0, none⟩) n C) (.slice aB n cap) n F F x7 (HF.out x7 D7).1 (HF.out x7 D7).2.1 (fun _ _ => rfl)
        clear hzE
        go_wp2_with (go_at_call 16; (with_reducible refine ce.mono ?_); rintro e x9 ⟨rfl, m9, rfl⟩; clear ce)
        go_ret
        exact ⟨rfl, (HF.out _ (below_drewN D7 m9)).2.2.1⟩
      · skip
        by_cases K4 : K = 4
        · subst K4
          obtain ⟨cc, nP, G, hcA, hcB⟩ := packs25 f k m i s l b st HK9.out HST.out n F
          have HA : Hid (∀ a cap w, Rb w (.slice a n cap) n F → Fsh w → Calls Tryd.prog 7 #[hd25 f k m i s l b st, .slice a n cap] w fun e w' => ∃ pv, e = .returned (.tuple #[pv, .int .i64 cc]) ∧ Below w.heap.size w w' ∧ Rb w' pv nP G) := hcA
          have HB : Hid (∀ a cap w, Rb w (.slice a n cap) n F → Calls Tryd.prog 15 #[hd25 f k m i s l b st, .slice a n cap] w fun e w' => ∃ pv, e = .returned (.tuple #[pv, .int .i64 cc]) ∧ Below w.heap.size w w' ∧ Rb w' pv nP G) := hcB
          have HH1 : Hid (∀ W, Calls Tryd.prog 13 #[hd25 f k m i s l b st] W fun e w' => e = .returned (hd25 f k m i s l b st) ∧ Below W.heap.size W w') := fun W => lawHead25 f k m i s l b st W
          unfold hd25 at HA HB HH1
          clear hcA hcB
          obtain ⟨z0, z1, z2, z3, z4, z5, z6, z7, z8, z9, z10⟩ := zcells25 (HF.out x4 (Below.refl _ _)).2.2.2
          go_wp2_with (first
            | (go_at_call 13; (with_reducible refine (HH1.out _).mono ?_); rintro e x5 ⟨rfl, hb5⟩; have c2 := HA.out _ C x5 (HF.out x5 hb5).1 (HT.out x5 hb5); clear HH1)
            | (go_at_call 7; (with_reducible refine c2.mono ?_); rintro e x6 ⟨pv, rfl, hb6, hr6⟩; have D6 := hb5.trans (hb6.mono hb5.size); clear z0 z1 z2 z3 z4 z5 z6 z7 z8 z9 z10 c2 hb6; have c3 := HB.out _ cap x6 (HF.out x6 D6).2.1; obtain ⟨z0, z1, z2, z3, z4, z5, z6, z7, z8, z9, z10⟩ := zcells25 (HF.out x6 D6).2.2.2)
            | (go_at_call 15; (with_reducible refine c3.mono ?_); rintro e x7 ⟨rv, rfl, hb7, hr7⟩; have D7 := D6.trans (hb7.mono D6.size); clear z0 z1 z2 z3 z4 z5 z6 z7 z8 z9 z10 c3; have c4 := sq25_true pv rv nP G G x7 (hr6.below hb7) hr7 (fun _ _ => rfl))
            | (go_at_call 16; (with_reducible refine c4.mono ?_); rintro e x8 ⟨rfl, m8, rfl⟩; clear c4; have D8 := below_drewN D7 m8; have ce := sq25_true (.slice (some ⟨gb, 0, none⟩) n C) (.slice aB n cap) n F F (x7.drewN m8) (HF.out _ D8).1 (HF.out _ D8).2.1 (fun _ _ => rfl); obtain ⟨z0, z1, z2, z3, z4, z5, z6, z7, z8, z9, z10⟩ := zcells25 (HF.out _ D8).2.2.2)
            | (go_at_call 16; (with_reducible refine ce.mono ?_); rintro e x9 ⟨rfl, m9, rfl⟩; clear ce))
          go_ret
          exact ⟨rfl, (HF.out _ (by first | exact below_drewN D8 m9 | exact below_drewN D7 (m8 + m9))).2.2.1⟩
        · skip
          by_cases K5 : K = 5
          · subst K5
            obtain ⟨z0, z1, z2, z3, z4, z5, z6, z7, z8, z9, z10⟩ := zcells25 (HF.out x4 (Below.refl _ _)).2.2.2
            have c1 := files25 5 f k m i s l b st S aB n cap F x4 (HF.out x4 (Below.refl _ _)).2.1 HN9.out (HT.out x4 (Below.refl _ _))
            go_wp2_with (first
              | (go_at_call 17; (with_reducible refine c1.mono ?_); rintro e x5 ⟨rfl, D5⟩; clear c1 z0 z1 z2 z3 z4 z5 z6 z7 z8 z9 z10; have ce := sq25_true (.slice (some ⟨gb, 0, none⟩) n C) (.slice aB n cap) n F F x5 (HF.out x5 D5).1 (HF.out x5 D5).2.1 (fun _ _ => rfl); obtain ⟨z0, z1, z2, z3, z4, z5, z6, z7, z8, z9, z10⟩ := zcells25 (HF.out x5 D5).2.2.2)
              | (go_at_call 16; (with_reducible refine ce.mono ?_); rintro e x9 ⟨rfl, m9, rfl⟩; clear ce))
            go_ret
            exact ⟨rfl, (HF.out _ (below_drewN D5 m9)).2.2.1⟩
          · skip
            by_cases K6 : K = 6
            · subst K6
              obtain ⟨z0, z1, z2, z3, z4, z5, z6, z7, z8, z9, z10⟩ := zcells25 (HF.out x4 (Below.refl _ _)).2.2.2
              have c1 := files25 6 f k m i s l b st S aB n cap F x4 (HF.out x4 (Below.refl _ _)).2.1 HN9.out (HT.out x4 (Below.refl _ _))
              go_wp2_with (first
                | (go_at_call 17; (with_reducible refine c1.mono ?_); rintro e x5 ⟨rfl, D5⟩; clear c1 z0 z1 z2 z3 z4 z5 z6 z7 z8 z9 z10; have ce := sq25_true (.slice (some ⟨gb, 0, none⟩) n C) (.slice aB n cap) n F F x5 (HF.out x5 D5).1 (HF.out x5 D5).2.1 (fun _ _ => rfl); obtain ⟨z0, z1, z2, z3, z4, z5, z6, z7, z8, z9, z10⟩ := zcells25 (HF.out x5 D5).2.2.2)
                | (go_at_call 16; (with_reducible refine ce.mono ?_); rintro e x9 ⟨rfl, m9, rfl⟩; clear ce))
              go_ret
              exact ⟨rfl, (HF.out _ (below_drewN D5 m9)).2.2.1⟩
            · skip
              have e1 : (K == 1) = false := beq_eq_false_iff_ne.2 K1
              have e2 : (K == 2) = false := beq_eq_false_iff_ne.2 K2
              have e3 : (K == 3) = false := beq_eq_false_iff_ne.2 K3
              have e4 : (K == 4) = false := beq_eq_false_iff_ne.2 K4
              have e5 : (K == 5) = false := beq_eq_false_iff_ne.2 K5
              have e6 : (K == 6) = false := beq_eq_false_iff_ne.2 K6
              obtain ⟨z0, z1, z2, z3, z4, z5, z6, z7, z8, z9, z10⟩ := zcells25 (HF.out x4 (Below.refl _ _)).2.2.2
              have ce := sq25_true (.slice (some ⟨gb, 0, none⟩) n C) (.slice aB n cap) n F F x4 (HF.out x4 (Below.refl _ _)).1 (HF.out x4 (Below.refl _ _)).2.1 (fun _ _ => rfl)
              go_wp2_with (go_at_call 16; (with_reducible refine ce.mono ?_); rintro e x9 ⟨rfl, m9, rfl⟩; clear ce)
              go_ret
              exact ⟨rfl, (HF.out _ (below_drewN (Below.refl _ _) m9)).2.2.1⟩
end Go.Proofs.YtehbiccpbopkfaaDoor
