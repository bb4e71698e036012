import Derived.Test.YtdolghlphmjcdabKan
import Derived.Test.YtdolghlphmjcdabKj7
import Derived.Test.YtdolghlphmjcdabEbo
namespace Go.Proofs.Ytdolghlphmjcdab
open Go.RowKit Gf2
set_option linter.unusedVariables false

-- layer 9: KernelDots: its calls in a chain
theorem bt9 {w a b : World} (h : Below w.heap.size w a) (k : Below a.heap.size a b) : Below w.heap.size w b := h.trans (k.mono h.size)
theorem bal9 (w : World) (o : Obj) : Below w.heap.size w (w.alloc o) := (Below.refl _ _).alloc (Nat.le_refl _) _
/-- what stands at the beginning of a round. -/
structure Hy9 (y0 : World) (p : Addr) (bk lo hi : Nat) (vr vo vS : Value) (nr n g5 : Nat) (Fr Fo : Nat → Nat) (SS : Nat → Nat → Nat) : Prop where
  ks : Ks y0 p bk lo hi
  row : Rb y0 vr nr Fr
  oth : Rb y0 vo nr Fo
  src : Lb y0 vS nr (fun _ => n) SS
  both : Rw y0 g5 nr (fun i => Fr i ^^^ Fo i)
  h0 : 0 < nr
  hnr : nr ≤ 140737488351232
  hmS : 24 * nr ≤ 140737488351232
  hn : n ≤ 140737488351232
/-- the four rows. -/
structure Dx9 (y0 x : World) (n ga gb gc gd : Nat) (A B C D : Nat → Nat) : Prop where
  bel : Below y0.heap.size y0 x
  a : Rw x ga n A ∧ y0.heap.size ≤ ga
  b : Rw x gb n B ∧ y0.heap.size ≤ gb
  c : Rw x gc n C ∧ y0.heap.size ≤ gc
  d : Rw x gd n D ∧ y0.heap.size ≤ gd
  ne : ga ≠ gb ∧ ga ≠ gc ∧ ga ≠ gd ∧ gb ≠ gc ∧ gb ≠ gd ∧ gc ≠ gd
section
variable {y0 x x' : World} {n ga gb gc gd : Nat} {A B C D F : Nat → Nat}
theorem Dx9.up (h : Dx9 y0 x n ga gb gc gd A B C D) (hb : Below x.heap.size x x') : Dx9 y0 x' n ga gb gc gd A B C D :=
  ⟨bt9 h.bel hb, ⟨rw_below h.a.1 hb, h.a.2⟩, ⟨rw_below h.b.1 hb, h.b.2⟩, ⟨rw_below h.c.1 hb, h.c.2⟩, ⟨rw_below h.d.1 hb, h.d.2⟩, h.ne⟩
theorem Rw.kp9 {w w' : World} {g k N : Nat} {G : Nat → Nat} (h : Rw w g N G) (hk : Kp k w w') (hne : g ≠ k) : Rw w' g N G := ⟨h.1, h.2.1, h.2.2.of_block (hk.2 g h.2.2.lt hne)⟩
theorem Dx9.sa (h : Dx9 y0 x n ga gb gc gd A B C D) (k : Kp ga x x') (r : Rw x' ga n F) : Dx9 y0 x' n ga gb gc gd F B C D :=
  ⟨h.bel.trans (k.below h.a.2 h.bel.size), ⟨r, h.a.2⟩, ⟨h.b.1.kp9 k (Ne.symm h.ne.1), h.b.2⟩, ⟨h.c.1.kp9 k (Ne.symm h.ne.2.1), h.c.2⟩, ⟨h.d.1.kp9 k (Ne.symm h.ne.2.2.1), h.d.2⟩, h.ne⟩
theorem Dx9.sb (h : Dx9 y0 x n ga gb gc gd A B C D) (k : Kp gb x x') (r : Rw x' gb n F) : Dx9 y0 x' n ga gb gc gd A F C D :=
  ⟨h.bel.trans (k.below h.b.2 h.bel.size), ⟨h.a.1.kp9 k h.ne.1, h.a.2⟩, ⟨r, h.b.2⟩, ⟨h.c.1.kp9 k (Ne.symm h.ne.2.2.2.1), h.c.2⟩, ⟨h.d.1.kp9 k (Ne.symm h.ne.2.2.2.2.1), h.d.2⟩, h.ne⟩
theorem Dx9.sc (h : Dx9 y0 x n ga gb gc gd A B C D) (k : Kp gc x x') (r : Rw x' gc n F) : Dx9 y0 x' n ga gb gc gd A B F D :=
  ⟨h.bel.trans (k.below h.c.2 h.bel.size), ⟨h.a.1.kp9 k h.ne.2.1, h.a.2⟩, ⟨h.b.1.kp9 k h.ne.2.2.2.1, h.b.2⟩, ⟨r, h.c.2⟩, ⟨h.d.1.kp9 k (Ne.symm h.ne.2.2.2.2.2), h.d.2⟩, h.ne⟩
theorem Dx9.sd (h : Dx9 y0 x n ga gb gc gd A B C D) (k : Kp gd x x') (r : Rw x' gd n F) : Dx9 y0 x' n ga gb gc gd A B C F :=
  ⟨h.bel.trans (k.below h.d.2 h.bel.size), ⟨h.a.1.kp9 k h.ne.2.2.1, h.a.2⟩, ⟨h.b.1.kp9 k h.ne.2.2.2.2.1, h.b.2⟩, ⟨h.c.1.kp9 k h.ne.2.2.2.2.2, h.c.2⟩, ⟨r, h.d.2⟩, h.ne⟩
end
theorem dot9_ok (p : Addr) (bk lo hi k n g : Nat) (F R : Nat → Nat) (S : Nat → Nat → Nat) (row srcs : Value) (w : World) (hk : Ks w p bk lo hi) (hn : n ≤ 140737488351232) (hkb : 24 * k ≤ 140737488351232) (hg : hi ≤ g) (hR : Rw w g n F) (hr : Re (fun x => x = g) w row k R) (hs : Ll (fun x => x = g) w srcs k (fun _ => n) S) :
    Calls Try.prog 16 #[.pointer (some p), row, srcs, .slice (some ⟨g, 0, none⟩) n n] w fun e w' => e = .returned (.int .i64 0) ∧ Kp g w w' ∧ Rw w' g n (fun j => ks R S k j) :=
  (kdot_ok p bk lo hi k n g 0 n F R S _ n row srcs w (Nat.le_refl _) (by unfold big; omega) hk (by unfold big; omega) (by omega) (.inr hg) hR (fun _ => rfl) (by omega) hr hs).mono fun e w' ⟨he, h1, h2⟩ => ⟨he, h1, h2.congr (fun j hj => pl_all hj)⟩
/-- a list of one list. -/
theorem lit1_9 {E : Nat → Prop} {W : World} {v : Value} {n : Nat} {F : Nat → Nat} (h : Re E W v n F) (hE : ¬ E W.heap.size) : Ll E (W.alloc (.cells #[v] 25)) (.slice (some ⟨W.heap.size, 0, none⟩) 1 1) 1 (fun _ => n) (fun _ => F) := by
  refine ⟨fun _ => v, ⟨by decide, _, 1, rfl, Nat.le_refl _, by decide, fun _ => ⟨W.heap.size, 0, rfl, ⟨by simp, hE⟩, fun i hi => ?_⟩⟩, fun i hi => h.ke (ke_below (bal9 W _) E)⟩
  obtain rfl : i = 0 := by omega
  rw [cell_of_row _ _ _ _ _ _ (heap_alloc_new _ _)]
  rfl
theorem lit2_9 {E : Nat → Prop} {W : World} {v : Value} {n : Nat} {F : Nat → Nat} (h : Re E W v n F) (hE : ¬ E W.heap.size) : Ll E (W.alloc (.cells #[v, v] 25)) (.slice (some ⟨W.heap.size, 0, none⟩) 2 2) 2 (fun _ => n) (fun _ => F) := by
  refine ⟨fun _ => v, ⟨by decide, _, 2, rfl, Nat.le_refl _, by decide, fun _ => ⟨W.heap.size, 0, rfl, ⟨by simp, hE⟩, fun i hi => ?_⟩⟩, fun i hi => h.ke (ke_below (bal9 W _) E)⟩
  rw [cell_of_row _ _ _ _ _ _ (heap_alloc_new _ _)]
  have : i = 0 ∨ i = 1 := by omega
  rcases this with rfl | rfl <;> rfl
theorem litb1_9 (W : World) (t : Nat) (ht : t < 256) : Rw (W.alloc (.cells #[.int .u8 (t : Int)] 5)) W.heap.size 1 (fun _ => t) := by
  refine ⟨by decide, fun i hi => ht, _, heap_alloc_new _ _, rfl, fun i hi => ?_⟩
  obtain rfl : i = 0 := by omega
  rfl
theorem litb2_9 (W : World) (s t : Nat) (hs : s < 256) (ht : t < 256) : Rw (W.alloc (.cells #[.int .u8 (s : Int), .int .u8 (t : Int)] 5)) W.heap.size 2 (fun i => if i = 0 then s else t) := by
  refine ⟨by decide, fun i hi => by by_cases e : i = 0 <;> simp [e, hs, ht], _, heap_alloc_new _ _, rfl, fun i hi => ?_⟩
  have : i = 0 ∨ i = 1 := by omega
  rcases this with rfl | rfl <;> rfl
section
variable {y0 : World} {p : Addr} {bk lo hi : Nat} {vr vo vS : Value} {nr n g5 : Nat} {Fr Fo : Nat → Nat} {SS : Nat → Nat → Nat}
/-- copied, copies, Dot. -/
theorem cdd9 (H : Hy9 y0 p bk lo hi vr vo vS nr n g5 Fr Fo SS) {x : World} (hb : Below y0.heap.size y0 x) {v : Value} {R : Nat → Nat} (hv : Rb y0 v nr R) {g : Nat} {F : Nat → Nat} (hg : y0.heap.size ≤ g) (hR : Rw x g n F) :
    Calls Try.prog 13 #[v] x fun e x1 => ∃ g1, e = .returned (.slice (some ⟨g1, 0, none⟩) nr nr) ∧
      Calls Try.prog 10 #[vS] x1 fun e x2 => ∃ v2, e = .returned v2 ∧
      Calls Try.prog 16 #[.pointer (some p), .slice (some ⟨g1, 0, none⟩) nr nr, v2, .slice (some ⟨g, 0, none⟩) n n] x2 fun e x3 => e = .returned (.int .i64 0) ∧ Below x.heap.size x x2 ∧ Kp g x2 x3 ∧ Rw x3 g n (fun j => ks R SS nr j) := by
  have gl := hR.lt
  refine (cd9 v nr R x (hv.below hb) H.hnr).mono fun e x1 ⟨g1, he, r1, l1, b1⟩ => ⟨g1, he, ?_⟩
  refine (copies9_any vS nr _ SS x1 (Lb.below H.src (bt9 hb b1)) H.hmS (fun _ _ => H.hn)).mono fun e x2 ⟨v2, B2, he, r2, b2⟩ => ⟨v2, he, ?_⟩
  have b02 := bt9 b1 b2
  have s1 := b1.size
  refine (dot9_ok p bk lo hi nr n g F R SS _ v2 x2 (Ks.below H.ks (bt9 hb b02)) H.hn H.hmS (Nat.le_trans H.ks.hi hg) (rw_below hR b02) ((rw_below r1 b2).re (Nat.le_refl _) (Nat.le_refl _) r1.1 (fun e => by omega)) (r2.ll (fun q h1 h2 e => by omega))).mono fun e x3 ⟨he, k3, r3⟩ => ⟨he, b02, k3, r3⟩
end
end Go.Proofs.Ytdolghlphmjcdab
