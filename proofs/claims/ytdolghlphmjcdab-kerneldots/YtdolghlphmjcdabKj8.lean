import Derived.Test.YtdolghlphmjcdabKan
import Derived.Test.YtdolghlphmjcdabKj7
import Derived.Test.YtdolghlphmjcdabEbo
namespace Go.Proofs.Ytdolghlphmjcdab
open Go.RowKit Gf2
set_option linter.unusedVariables false

-- layer 9: KernelDots: its calls in a chain
theorem bt9 {w a b : World} (h : Below w.heap.size w a) (k : Below a.heap.size a b) : Below w.heap.size w b := h.trans (k.mono h.size)
theorem bal9 (w : World) (o : Obj) : Below w.heap.size w (w.alloc o) := (Below.refl _ _).alloc (Nat.le_refl _) _
/-- what stands at the beginning of a round. -/
structure Hy9 (y0 : World) (p : Addr) (bk lo hi : Nat) (vr vo vS : Value) (nr n g5 : Nat) (Fr Fo : Nat → Nat) (SS : Nat → Nat → Nat) : Prop where
  ks : Ks y0 p bk lo hi
  row : Rb y0 vr nr Fr
  oth : Rb y0 vo nr Fo
  src : Lb y0 vS nr (fun _ => n) SS
  both : Rw y0 g5 nr (fun i => Fr i ^^^ Fo i)
  h0 : 0 < nr
  hnr : nr ≤ 140737488351232
  hmS : 24 * nr ≤ 140737488351232
  hn : n ≤ 140737488351232
/-- the four rows. -/
structure Dx9 (y0 x : World) (n ga gb gc gd : Nat) (A B C D : Nat → Nat) : Prop where
  bel : Below y0.heap.size y0 x
  a : Rw x ga n A ∧ y0.heap.size ≤ ga
  b : Rw x gb n B ∧ y0.heap.size ≤ gb
  c : Rw x gc n C ∧ y0.heap.size ≤ gc
  d : Rw x gd n D ∧ y0.heap.size ≤ gd
  ne : ga ≠ gb ∧ ga ≠ gc ∧ ga ≠ gd ∧ gb ≠ gc ∧ gb ≠ gd ∧ gc ≠ gd
section
variable {y0 x x' : World} {n ga gb gc gd : Nat} {A B C D F : Nat → Nat}
theorem Dx9.up (h : Dx9 y0 x n ga gb gc gd A B C D) (hb : Below x.heap.size x x') : Dx9 y0 x' n ga gb gc gd A B C D :=
  ⟨bt9 h.bel hb, ⟨rw_below h.a.1 hb, h.a.2⟩, ⟨rw_below h.b.1 hb, h.b.2⟩, ⟨rw_below h.c.1 hb, h.c.2⟩, ⟨rw_below h.d.1 hb, h.d.2⟩, h.ne⟩
theorem Rw.kp9 {w w' : World} {g k N : Nat} {G : Nat → Nat} (h : Rw w g N G) (hk : Kp k w w') (hne : g ≠ k) : Rw w' g N G := ⟨h.1, h.2.1, h.2.2.of_block (hk.2 g h.2.2.lt hne)⟩
theorem Dx9.sa (h : Dx9 y0 x n ga gb gc gd A B C D) (k : Kp ga x x') (r : Rw x' ga n F) : Dx9 y0 x' n ga gb gc gd F B C D :=
  ⟨h.bel.trans (k.below h.a.2 h.bel.size), ⟨r, h.a.2⟩, ⟨h.b.1.kp9 k (Ne.symm h.ne.1), h.b.2⟩, ⟨h.c.1.kp9 k (Ne.symm h.ne.2.1), h.c.2⟩, ⟨h.d.1.kp9 k (Ne.symm h.ne.2.2.1), h.d.2⟩, h.ne⟩
theorem Dx9.sb (h : Dx9 y0 x n ga gb gc gd A B C D) (k : Kp gb x x') (r : Rw x' gb n F) : Dx9 y0 x' n ga gb gc gd A F C D :=
  ⟨h.bel.trans (k.below h.b.2 h.bel.size), ⟨h.a.1.kp9 k h.ne.1, h.a.2⟩, ⟨r, h.b.2⟩, ⟨h.c.1.kp9 k (Ne.symm h.ne.2.2.2.1), h.c.2⟩, ⟨h.d.1.kp9 k (Ne.symm h.ne.2.2.2.2.1), h.d.2⟩, h.ne⟩
theorem Dx9.sc (h : Dx9 y0 x n ga gb gc gd A B C D) (k : Kp gc x x') (r : Rw x' gc n F) : Dx9 y0 x' n ga gb gc gd A B F D :=
  ⟨h.bel.trans (k.below h.c.2 h.bel.size), ⟨h.a.1.kp9 k h.ne.2.1, h.a.2⟩, ⟨h.b.1.kp9 k h.ne.2.2.2.1, h.b.2⟩, ⟨r, h.c.2⟩, ⟨h.d.1.kp9 k (Ne.symm h.ne.2.2.2.2.2), h.d.2⟩, h.ne⟩
theorem Dx9.sd (h : Dx9 y0 x n ga gb gc gd A B C D) (k : Kp gd x x') (r : Rw x' gd n F) : Dx9 y0 x' n ga gb gc gd A B C F :=
  ⟨h.bel.trans (k.below h.d.2 h.bel.size), ⟨h.a.1.kp9 k h.ne.2.2.1, h.a.2⟩, ⟨h.b.1.kp9 k h.ne.2.2.2.2.1, h.b.2⟩, ⟨h.c.1.kp9 k h.ne.2.2.2.2.2, h.c.2⟩, ⟨r, h.d.2⟩, h.ne⟩
end
theorem dot9_ok (p : Addr) (bk lo hi k n g : Nat) (F R : Nat → Nat) (S : Nat → Nat → Nat) (row srcs : Value) (w : World) (hk : Ks w p bk lo hi) (hn : n ≤ 140737488351232) (hkb : 24 * k ≤ 140737488351232) (hg : hi ≤ g) (hR : Rw w g n F) (hr : Re (fun x => x = g) w row k R) (hs : Ll (fun x => x = g) w srcs k (fun _ => n) S) :
    Calls Try.prog 16 #[.pointer (some p), row, srcs, .slice (some ⟨g, 0, none⟩) n n] w fun e w' => e = .returned (.int .i64 0) ∧ Kp g w w' ∧ Rw w' g n (fun j => ks R S k j) :=
  (kdot_ok p bk lo hi k n g 0 n F R S _ n row srcs w (Nat.le_refl _) (by unfold big; omega) hk (by unfold big; omega) (by omega) (.inr hg) hR (fun _ => rfl) (by omega) hr hs).mono fun e w' ⟨he, h1, h2⟩ => ⟨he, h1, h2.congr (fun j hj => pl_all hj)⟩
/-- a list of one list. -/
theorem lit1_9 {E : Nat → Prop} {W : World} {v : Value} {n : Nat} {F : Nat → Nat} (h : Re E W v n F) (hE : ¬ E W.heap.size) : Ll E (W.alloc (.cells #[v] 25)) (.slice (some ⟨W.heap.size, 0, none⟩) 1 1) 1 (fun _ => n) (fun _ => F) := by
  refine ⟨fun _ => v, ⟨by decide, _, 1, rfl, Nat.le_refl _, by decide, fun _ => ⟨W.heap.size, 0, rfl, ⟨by simp, hE⟩, fun i hi => ?_⟩⟩, fun i hi => h.ke (ke_below (bal9 W _) E)⟩
  obtain rfl : i = 0 := by omega
  rw [cell_of_row _ _ _ _ _ _ (heap_alloc_new _ _)]
  rfl
theorem lit2_9 {E : Nat → Prop} {W : World} {v : Value} {n : Nat} {F : Nat → Nat} (h : Re E W v n F) (hE : ¬ E W.heap.size) : Ll E (W.alloc (.cells #[v, v] 25)) (.slice (some ⟨W.heap.size, 0, none⟩) 2 2) 2 (fun _ => n) (fun _ => F) := by
  refine ⟨fun _ => v, ⟨by decide, _, 2, rfl, Nat.le_refl _, by decide, fun _ => ⟨W.heap.size, 0, rfl, ⟨by simp, hE⟩, fun i hi => ?_⟩⟩, fun i hi => h.ke (ke_below (bal9 W _) E)⟩
  rw [cell_of_row _ _ _ _ _ _ (heap_alloc_new _ _)]
  have : i = 0 ∨ i = 1 := by omega
  rcases this with rfl | rfl <;> rfl
theorem litb1_9 (W : World) (t : Nat) (ht : t < 256) : Rw (W.alloc (.cells #[.int .u8 (t : Int)] 5)) W.heap.size 1 (fun _ => t) := by
  refine ⟨by decide, fun i hi => ht, _, heap_alloc_new _ _, rfl, fun i hi => ?_⟩
  obtain rfl : i = 0 := by omega
  rfl
theorem litb2_9 (W : World) (s t : Nat) (hs : s < 256) (ht : t < 256) : Rw (W.alloc (.cells #[.int .u8 (s : Int), .int .u8 (t : Int)] 5)) W.heap.size 2 (fun i => if i = 0 then s else t) := by
  refine ⟨by decide, fun i hi => by by_cases e : i = 0 <;> simp [e, hs, ht], _, heap_alloc_new _ _, rfl, fun i hi => ?_⟩
  have : i = 0 ∨ i = 1 := by omega
  rcases this with rfl | rfl <;> rfl
section
variable {y0 : World} {p : Addr} {bk lo hi : Nat} {vr vo vS : Value} {nr n g5 : Nat} {Fr Fo : Nat → Nat} {SS : Nat → Nat → Nat}
/-- copied, copies, Dot. -/
theorem cdd9 (H : Hy9 y0 p bk lo hi vr vo vS nr n g5 Fr Fo SS) {x : World} (hb : Below y0.heap.size y0 x) {v : Value} {R : Nat → Nat} (hv : Rb y0 v nr R) {g : Nat} {F : Nat → Nat} (hg : y0.heap.size ≤ g) (hR : Rw x g n F) :
    Calls Try.prog 13 #[v] x fun e x1 => ∃ g1, e = .returned (.slice (some ⟨g1, 0, none⟩) nr nr) ∧
      Calls Try.prog 10 #[vS] x1 fun e x2 => ∃ v2, e = .returned v2 ∧
      Calls Try.prog 16 #[.pointer (some p), .slice (some ⟨g1, 0, none⟩) nr nr, v2, .slice (some ⟨g, 0, none⟩) n n] x2 fun e x3 => e = .returned (.int .i64 0) ∧ Below x.heap.size x x2 ∧ Kp g x2 x3 ∧ Rw x3 g n (fun j => ks R SS nr j) := by
  have gl := hR.lt
  refine (cd9 v nr R x (hv.below hb) H.hnr).mono fun e x1 ⟨g1, he, r1, l1, b1⟩ => ⟨g1, he, ?_⟩
  refine (copies9_any vS nr _ SS x1 (Lb.below H.src (bt9 hb b1)) H.hmS (fun _ _ => H.hn)).mono fun e x2 ⟨v2, B2, he, r2, b2⟩ => ⟨v2, he, ?_⟩
  have b02 := bt9 b1 b2
  have s1 := b1.size
  refine (dot9_ok p bk lo hi nr n g F R SS _ v2 x2 (Ks.below H.ks (bt9 hb b02)) H.hn H.hmS (Nat.le_trans H.ks.hi hg) (rw_below hR b02) ((rw_below r1 b2).re (Nat.le_refl _) (Nat.le_refl _) r1.1 (fun e => by omega)) (r2.ll (fun q h1 h2 e => by omega))).mono fun e x3 ⟨he, k3, r3⟩ => ⟨he, b02, k3, r3⟩
end
end Go.Proofs.Ytdolghlphmjcdab
namespace Go.Proofs.Ytdolghlphmjcdab
open Go.RowKit Gf2
set_option linter.unusedVariables false

-- layer 9: KernelDots: the calls over lists that are written out
section
variable {y0 : World} {p : Addr} {bk lo hi : Nat} {vr vo vS : Value} {nr n g5 : Nat} {Fr Fo : Nat → Nat} {SS : Nat → Nat → Nat}
theorem len9_one {k n : Nat} (h : 0 < k) : len9 k 1 (fun _ => n) (fun _ => n) = n := by unfold len9; rw [if_pos h]
/-- Apply of one row into one list. -/
theorem apply9_one (H : Hy9 y0 p bk lo hi vr vo vS nr n g5 Fr Fo SS) {x : World} (hb : Below y0.heap.size y0 x) {g : Nat} {F : Nat → Nat} (hg : y0.heap.size ≤ g) (hR : Rw x g n F) :
    Calls Try.prog 13 #[vr] x fun e x1 => ∃ g1, e = .returned (.slice (some ⟨g1, 0, none⟩) nr nr) ∧
      Calls Try.prog 10 #[vS] (x1.alloc (.cells #[.slice (some ⟨g1, 0, none⟩) nr nr] 25)) fun e x2 => ∃ v2, e = .returned v2 ∧
      Calls Try.prog 11 #[.pointer (some p), .slice (some ⟨x1.heap.size, 0, none⟩) 1 1, v2, .slice (some ⟨x2.heap.size, 0, none⟩) 1 1, .agg #[.int .i64 0, .int .i64 (n : Int)]] (x2.alloc (.cells #[.slice (some ⟨g, 0, none⟩) n n] 25)) fun e x3 =>
        e = .returned (.int .i64 0) ∧ Below x.heap.size x (x2.alloc (.cells #[.slice (some ⟨g, 0, none⟩) n n] 25)) ∧ Kp g (x2.alloc (.cells #[.slice (some ⟨g, 0, none⟩) n n] 25)) x3 ∧ Rw x3 g n (fun j => ks Fr SS nr j) := by
  have gl := hR.lt
  refine (cd9 vr nr Fr x (H.row.below hb) H.hnr).mono fun e x1 ⟨g1, he, r1, l1, b1⟩ => ⟨g1, he, ?_⟩
  have ba := bal9 x1 (.cells #[.slice (some ⟨g1, 0, none⟩) nr nr] 25)
  have s1 := b1.size
  have hne : ∀ q, Eb 1 (fun _ => g) q → q = g := fun q ⟨r, _, e⟩ => e
  have hrow : Ll (Eb 1 (fun _ => g)) (x1.alloc (.cells #[.slice (some ⟨g1, 0, none⟩) nr nr] 25)) (.slice (some ⟨x1.heap.size, 0, none⟩) 1 1) 1 (fun _ => nr) (fun _ => Fr) := lit1_9 (r1.re (Nat.le_refl _) (Nat.le_refl _) r1.1 (fun e => by have := hne _ e; omega)) (fun e => by have := hne _ e; omega)
  refine (copies9_any vS nr _ SS _ (Lb.below H.src (bt9 (bt9 hb b1) ba)) H.hmS (fun _ _ => H.hn)).mono fun e x2 ⟨v2, B2, he, r2, b2⟩ => ⟨v2, he, ?_⟩
  have bb := bal9 x2 (.cells #[.slice (some ⟨g, 0, none⟩) n n] 25)
  have bx : Below x.heap.size x x2 := bt9 (bt9 b1 ba) b2
  have s2 := bx.size
  have sa : (x1.alloc (.cells #[.slice (some ⟨g1, 0, none⟩) nr nr] 25)).heap.size = x1.heap.size + 1 := by simp
  have hrow2 := (hrow.ke (ke_below b2 _)).ke (ke_below bb (Eb 1 (fun _ => g)))
  have hsrc : Ll (Eb 1 (fun _ => g)) (x2.alloc (.cells #[.slice (some ⟨g, 0, none⟩) n n] 25)) v2 nr (fun _ => n) SS := (r2.ll (E := Eb 1 (fun _ => g)) (fun q h1 h2 e => by have := hne _ e; omega)).ke (ke_below bb _)
  have hRb : Rw (x2.alloc (.cells #[.slice (some ⟨g, 0, none⟩) n n] 25)) g n F := rw_below hR (bt9 bx bb)
  have hd : Dl (x2.alloc (.cells #[.slice (some ⟨g, 0, none⟩) n n] 25)) (.slice (some ⟨x2.heap.size, 0, none⟩) 1 1) 1 n (fun _ => g) (fun _ => 0) (fun _ => n) (fun _ => F) := by
    refine ⟨⟨fun _ => some ⟨g, 0, none⟩, fun _ => n, ⟨by decide, _, 1, rfl, Nat.le_refl _, by decide, fun _ => ⟨x2.heap.size, 0, rfl, ⟨by simp, fun e => by have := hne _ e; omega⟩, fun i hi => ?_⟩⟩, fun r hr => ⟨Nat.le_refl _, hR.1, fun _ => rfl⟩⟩, fun r hr => ⟨hRb, by omega⟩, fun r s hr hs hrs => absurd (show r = s by omega) hrs⟩
    obtain rfl : i = 0 := by omega
    rw [cell_of_row _ _ _ _ _ _ (heap_alloc_new _ _)]
    rfl
  refine (kapply_ok p bk lo hi 1 nr n 0 n (fun _ => g) (fun _ => 0) (fun _ => n) (fun _ => Fr) SS (fun _ => F) _ v2 _ _ (Ks.below H.ks (bt9 hb (bt9 bx bb))) (by omega) (by have := H.hmS; omega) (fun r hr => .inr (Nat.le_trans H.ks.hi hg)) hrow2 hsrc hd (Nat.zero_le _) (by rw [len9_one H.h0]; exact Nat.le_refl _)).mono fun e x3 ⟨he, k3, r3⟩ => ⟨he, bt9 bx bb, ⟨k3.1, fun q hq hn => k3.2 q hq (fun e => hn (hne q e))⟩, (r3 0 (by decide)).congr (fun j hj => ?_)⟩
  show (if g = g ∧ 0 + 0 ≤ j ∧ j < 0 + n then ks Fr SS nr (j - 0) else F j) = _
  rw [if_pos ⟨rfl, by omega, by omega⟩, Nat.sub_zero]
/-- Dot with the one factor 1. -/
theorem dot9_one (H : Hy9 y0 p bk lo hi vr vo vS nr n g5 Fr Fo SS) {x : World} (hb : Below y0.heap.size y0 x) {v : Value} {S0 : Nat → Nat} (hv : Rb y0 v n S0) {g : Nat} {F : Nat → Nat} (hg : y0.heap.size ≤ g) (hR : Rw x g n F) :
    Calls Try.prog 13 #[v] (x.alloc (.cells #[.int .u8 1] 5)) fun e x1 => ∃ g1, e = .returned (.slice (some ⟨g1, 0, none⟩) n n) ∧
      Calls Try.prog 16 #[.pointer (some p), .slice (some ⟨x.heap.size, 0, none⟩) 1 1, .slice (some ⟨x1.heap.size, 0, none⟩) 1 1, .slice (some ⟨g, 0, none⟩) n n] (x1.alloc (.cells #[.slice (some ⟨g1, 0, none⟩) n n] 25)) fun e x3 =>
        e = .returned (.int .i64 0) ∧ Below x.heap.size x (x1.alloc (.cells #[.slice (some ⟨g1, 0, none⟩) n n] 25)) ∧ Kp g (x1.alloc (.cells #[.slice (some ⟨g1, 0, none⟩) n n] 25)) x3 ∧ Rw x3 g n S0 := by
  have gl := hR.lt
  have hlt := hv.2.1
  have b0 := bal9 x (.cells #[.int .u8 1] 5)
  have s0 : (x.alloc (.cells #[.int .u8 1] 5)).heap.size = x.heap.size + 1 := by simp
  have one := litb1_9 x 1 (by decide)
  refine (cd9 v n S0 _ (hv.below (bt9 hb b0)) H.hn).mono fun e x1 ⟨g1, he, r1, l1, b1⟩ => ⟨g1, he, ?_⟩
  have bb := bal9 x1 (.cells #[.slice (some ⟨g1, 0, none⟩) n n] 25)
  have bx := bt9 (bt9 b0 b1) bb
  have s1 := b1.size
  have hl : Ll (fun q => q = g) (x1.alloc (.cells #[.slice (some ⟨g1, 0, none⟩) n n] 25)) (.slice (some ⟨x1.heap.size, 0, none⟩) 1 1) 1 (fun _ => n) (fun _ => S0) := lit1_9 (r1.re (Nat.le_refl _) (Nat.le_refl _) r1.1 (fun e => by omega)) (fun e => by omega)
  refine (dot9_ok p bk lo hi 1 n g F (fun _ => 1) (fun _ => S0) _ _ _ (Ks.below H.ks (bt9 hb bx)) H.hn (by decide) (Nat.le_trans H.ks.hi hg) (rw_below hR bx) ((rw_below one (bt9 b1 bb)).re (Nat.le_refl _) (Nat.le_refl _) (by decide) (fun e => by omega)) hl).mono fun e x3 ⟨he, k3, r3⟩ => ⟨he, bx, k3, r3.congr (fun j hj => ?_)⟩
  show 0 ^^^ fm 285 1 (S0 j) = S0 j
  rw [Nat.zero_xor, fld8.one_fm (hlt j hj)]
theorem two_ks {r s : Nat} {S0 : Nat → Nat} (j : Nat) : ks (fun i => if i = 0 then r else s) (fun _ => S0) 2 j = fm 285 (r ^^^ s) (S0 j) := by
  show (0 ^^^ fm 285 r (S0 j)) ^^^ fm 285 s (S0 j) = _
  rw [Nat.zero_xor, fld8.xor_fm]
/-- Dot with two factors over one list twice: the bytes first, or the lists. -/
theorem dot9_two (H : Hy9 y0 p bk lo hi vr vo vS nr n g5 Fr Fo SS) {x : World} (hb : Below y0.heap.size y0 x) {r s g1 : Nat} (hr : r < 256) (hs : s < 256) {S0 : Nat → Nat} (h1 : Rw x g1 n S0) {g : Nat} {F : Nat → Nat} (hg : y0.heap.size ≤ g) (hR : Rw x g n F) (hne : g1 ≠ g) :
    (Calls Try.prog 16 #[.pointer (some p), .slice (some ⟨x.heap.size, 0, none⟩) 2 2, .slice (some ⟨x.heap.size + 1, 0, none⟩) 2 2, .slice (some ⟨g, 0, none⟩) n n] ((x.alloc (.cells #[.int .u8 (r : Int), .int .u8 (s : Int)] 5)).alloc (.cells #[.slice (some ⟨g1, 0, none⟩) n n, .slice (some ⟨g1, 0, none⟩) n n] 25)).drew fun e x3 =>
        e = .returned (.int .i64 0) ∧ Hid (∃ x2, Below x.heap.size x x2 ∧ Kp g x2 x3 ∧ Rw x3 g n (fun j => fm 285 (r ^^^ s) (S0 j)))) ∧
    (Calls Try.prog 16 #[.pointer (some p), .slice (some ⟨x.heap.size + 1, 0, none⟩) 2 2, .slice (some ⟨x.heap.size, 0, none⟩) 2 2, .slice (some ⟨g, 0, none⟩) n n] ((x.alloc (.cells #[.slice (some ⟨g1, 0, none⟩) n n, .slice (some ⟨g1, 0, none⟩) n n] 25)).alloc (.cells #[.int .u8 (r : Int), .int .u8 (s : Int)] 5)).drew fun e x3 =>
        e = .returned (.int .i64 0) ∧ Hid (∃ x2, Below x.heap.size x x2 ∧ Kp g x2 x3 ∧ Rw x3 g n (fun j => fm 285 (r ^^^ s) (S0 j)))) := by
  have gl := hR.lt
  have gl1 := h1.lt
  constructor
  · have b0 := bal9 x (.cells #[.int .u8 (r : Int), .int .u8 (s : Int)] 5)
    have s0 : (x.alloc (.cells #[.int .u8 (r : Int), .int .u8 (s : Int)] 5)).heap.size = x.heap.size + 1 := by simp
    have two := litb2_9 x r s hr hs
    have bb := bal9 (x.alloc (.cells #[.int .u8 (r : Int), .int .u8 (s : Int)] 5)) (.cells #[.slice (some ⟨g1, 0, none⟩) n n, .slice (some ⟨g1, 0, none⟩) n n] 25)
    have bx := (bt9 b0 bb).drew
    have hl : Ll (fun q => q = g) ((x.alloc (.cells #[.int .u8 (r : Int), .int .u8 (s : Int)] 5)).alloc (.cells #[.slice (some ⟨g1, 0, none⟩) n n, .slice (some ⟨g1, 0, none⟩) n n] 25)).drew (.slice (some ⟨x.heap.size + 1, 0, none⟩) 2 2) 2 (fun _ => n) (fun _ => S0) := by
      have h9 := lit2_9 (E := fun q => q = g) (W := x.alloc (.cells #[.int .u8 (r : Int), .int .u8 (s : Int)] 5)) ((rw_below h1 b0).re (Nat.le_refl _) (Nat.le_refl _) h1.1 hne) (fun e => by omega)
      rw [s0] at h9
      exact h9
    exact (dot9_ok p bk lo hi 2 n g F _ (fun _ => S0) _ _ _ (Ks.below H.ks (bt9 hb bx)) H.hn (by decide) (Nat.le_trans H.ks.hi hg) (rw_below hR bx) ((rw_below two bb.drew).re (Nat.le_refl _) (Nat.le_refl _) (by decide) (fun e => by omega)) hl).mono fun e x3 ⟨he, k3, r3⟩ => ⟨he, _, bx, k3, r3.congr (fun j hj => two_ks j)⟩
  · have b0 := bal9 x (.cells #[.slice (some ⟨g1, 0, none⟩) n n, .slice (some ⟨g1, 0, none⟩) n n] 25)
    have s0 : (x.alloc (.cells #[.slice (some ⟨g1, 0, none⟩) n n, .slice (some ⟨g1, 0, none⟩) n n] 25)).heap.size = x.heap.size + 1 := by simp
    have two := litb2_9 (x.alloc (.cells #[.slice (some ⟨g1, 0, none⟩) n n, .slice (some ⟨g1, 0, none⟩) n n] 25)) r s hr hs
    rw [s0] at two
    have bb := bal9 (x.alloc (.cells #[.slice (some ⟨g1, 0, none⟩) n n, .slice (some ⟨g1, 0, none⟩) n n] 25)) (.cells #[.int .u8 (r : Int), .int .u8 (s : Int)] 5)
    have bx := (bt9 b0 bb).drew
    have hl : Ll (fun q => q = g) ((x.alloc (.cells #[.slice (some ⟨g1, 0, none⟩) n n, .slice (some ⟨g1, 0, none⟩) n n] 25)).alloc (.cells #[.int .u8 (r : Int), .int .u8 (s : Int)] 5)).drew (.slice (some ⟨x.heap.size, 0, none⟩) 2 2) 2 (fun _ => n) (fun _ => S0) :=
      (lit2_9 (E := fun q => q = g) (W := x) (h1.re (Nat.le_refl _) (Nat.le_refl _) h1.1 hne) (fun e => by omega)).ke (ke_below bb.drew _)
    exact (dot9_ok p bk lo hi 2 n g F _ (fun _ => S0) _ _ _ (Ks.below H.ks (bt9 hb bx)) H.hn (by decide) (Nat.le_trans H.ks.hi hg) (rw_below hR bx) ((two.drew9).re (Nat.le_refl _) (Nat.le_refl _) (by decide) (fun e => by omega)) hl).mono fun e x3 ⟨he, k3, r3⟩ => ⟨he, _, bx, k3, r3.congr (fun j hj => two_ks j)⟩
end
end Go.Proofs.Ytdolghlphmjcdab
namespace Go.Proofs.Ytdolghlphmjcdab
open Go.RowKit Gf2
set_option linter.unusedVariables false

-- layer 9: KernelDots: Xor, Mul, four new rows
theorem ks_two (R T : Nat → Nat) (S : Nat → Nat → Nat) (j : Nat) : ∀ k, ks (fun i => R i ^^^ T i) S k j = ks T S k j ^^^ ks R S k j
  | 0 => by show (0 : Nat) = 0 ^^^ 0; simp
  | k + 1 => by
    show ks (fun i => R i ^^^ T i) S k j ^^^ fm 285 (R k ^^^ T k) (S k j) = (ks T S k j ^^^ fm 285 (T k) (S k j)) ^^^ (ks R S k j ^^^ fm 285 (R k) (S k j))
    rw [ks_two R T S j k, fld8.xor_fm]
    generalize ks T S k j = a
    generalize ks R S k j = b
    generalize fm 285 (R k) (S k j) = c
    generalize fm 285 (T k) (S k j) = d
    rw [Nat.xor_assoc, Nat.xor_assoc]
    congr 1
    rw [← Nat.xor_assoc, ← Nat.xor_assoc, Nat.xor_comm (b ^^^ c) d, Nat.xor_assoc]
theorem xor9_ok {w : World} {g n : Nat} {D S : Nat → Nat} {v : Value} (hR : Rw w g n D) (hv : Re (fun x => x = g) w v n S) :
    Calls Try.prog 12 #[.slice (some ⟨g, 0, none⟩) n n, v] w fun e w' => e = .returned (.int .i64 0) ∧ Kp g w w' ∧ Rw w' g n (fun j => S j ^^^ D j) :=
  (rw_xor9 hR hv).mono fun e w' ⟨he, h1, h2⟩ => ⟨by rw [he]; unfold er9; rw [if_pos rfl]; rfl, h1, h2.congr (fun j hj => by unfold vl9; rw [if_pos rfl])⟩
theorem mul9_ok {w : World} {g n c : Nat} {D S : Nat → Nat} {v : Value} {p : Addr} {bk klo khi : Nat} (hR : Rw w g n D) (hv : Re (fun x => x = g) w v n S) (hk : Ks w p bk klo khi) (hkl : khi ≤ g) (hc : c < 256) :
    Calls Try.prog 18 #[.pointer (some p), .int .u8 (c : Int), .slice (some ⟨g, 0, none⟩) n n, v] w fun e w' => e = .returned (.int .i64 0) ∧ Kp g w w' ∧ Rw w' g n (fun j => fm 285 c (S j)) :=
  (rw_mul9 hR hv hk (.inr hkl) hc).mono fun e w' ⟨he, h1, h2⟩ => ⟨by rw [he]; unfold er9; rw [if_pos rfl]; rfl, h1, h2.congr (fun j hj => by unfold vl9; rw [if_pos rfl])⟩
theorem made9 (n : Nat) (hn : n ≤ 140737488355328) (w : World) : Rw (w.alloc (.cells (madeCells #[.int .u8 0] n) 5)) w.heap.size n (fun _ => 0) :=
  ⟨by unfold big; omega, fun _ _ => Nat.zero_lt_succ 255, (World.rowIs_made w (.int .u8 0) n 5).congr (fun i hi => rfl)⟩
/-- four new rows. -/
def w4_9 (w : World) (n : Nat) : World := ((((w.alloc (.cells (madeCells #[.int .u8 0] n) 5)).alloc (.cells (madeCells #[.int .u8 0] n) 5)).alloc (.cells (madeCells #[.int .u8 0] n) 5)).alloc (.cells (madeCells #[.int .u8 0] n) 5)).drew
theorem four9 (n : Nat) (hn : n ≤ 140737488355328) (w : World) : Below w.heap.size w (w4_9 w n) ∧ Rw (w4_9 w n) w.heap.size n (fun _ => 0) ∧ Rw (w4_9 w n) (w.heap.size + 1) n (fun _ => 0) ∧ Rw (w4_9 w n) (w.heap.size + 1 + 1) n (fun _ => 0) ∧ Rw (w4_9 w n) (w.heap.size + 1 + 1 + 1) n (fun _ => 0) := by
  obtain ⟨o, ho⟩ : ∃ o, o = Obj.cells (madeCells #[.int .u8 0] n) 5 := ⟨_, rfl⟩
  have m1 := made9 n hn w
  have m2 := made9 n hn (w.alloc o)
  have m3 := made9 n hn ((w.alloc o).alloc o)
  have m4 := made9 n hn (((w.alloc o).alloc o).alloc o)
  unfold w4_9
  rw [← ho] at m1 m2 m3 m4 ⊢
  have s1 : (w.alloc o).heap.size = w.heap.size + 1 := by simp
  have s2 : ((w.alloc o).alloc o).heap.size = w.heap.size + 1 + 1 := by simp
  have s3 : (((w.alloc o).alloc o).alloc o).heap.size = w.heap.size + 1 + 1 + 1 := by simp
  rw [s1] at m2
  rw [s2] at m3
  rw [s3] at m4
  have b1 := bal9 w o
  have b2 := bal9 (w.alloc o) o
  have b3 := bal9 ((w.alloc o).alloc o) o
  have b4 := bal9 (((w.alloc o).alloc o).alloc o) o
  exact ⟨(bt9 (bt9 (bt9 b1 b2) b3) b4).drew, rw_below m1 (bt9 (bt9 b2 b3) b4).drew, rw_below m2 (bt9 b3 b4).drew, rw_below m3 b4.drew, m4.drew9⟩
theorem dots_end {y0 x x3 : World} {n ga gb gc gd : Nat} {A B C D F : Nat → Nat} (h : Hid (Dx9 y0 x n ga gb gc gd A B C D)) (k : Hid (∃ x2, Below x.heap.size x x2 ∧ Kp gd x2 x3 ∧ Rw x3 gd n F)) : Dx9 y0 x3 n ga gb gc gd A B C F := by
  obtain ⟨x2, b2, k2, r2⟩ := k.out
  exact (h.out.up b2).sd k2 r2
theorem dots_keep {x x3 : World} {n gd g : Nat} {F G : Nat → Nat} (k : Hid (∃ x2, Below x.heap.size x x2 ∧ Kp gd x2 x3 ∧ Rw x3 gd n F)) (h : Rw x g n G) (hne : g ≠ gd) : Rw x3 g n G := by
  obtain ⟨x2, b2, k2, r2⟩ := k.out
  exact (rw_below h b2).kp9 k2 hne
theorem Re_of9 {E : Nat → Prop} {w : World} {g n : Nat} {F : Nat → Nat} (h : Rw w g n F) (hE : ¬ E g) : Re E w (.slice (some ⟨g, 0, none⟩) n n) n F := h.re (Nat.le_refl _) (Nat.le_refl _) h.1 hE
theorem bdrew9 {w x : World} (m : Nat) (h : x = w.drewN m) : Below w.heap.size w x := by rw [h]; exact ⟨rfl, rfl, rfl, Nat.le_refl _, fun _ _ => rfl⟩
theorem cal9 {W : World} {a : Addr} {v : Value} {o : Obj} (h : W.cell? a = some v) : (W.alloc o).cell? a = some v := ((bal9 W o).cell (p := a) (cell_lt5 h)).trans h
end Go.Proofs.Ytdolghlphmjcdab
