import Derived.Test.YtdeophhcbkahgaaKj7
import Derived.Test.YtdeophhcbkahgaaKj5
namespace Go.Proofs.Ytdeophhcbkahgaa
open Go.RowKit Gf2
set_option linter.unusedVariables false

-- layer 9: KernelAlike: what a round holds, and its calls in chains
theorem bta9 {w a b : World} (h : Below w.heap.size w a) (k : Below a.heap.size a b) : Below w.heap.size w b := h.trans (k.mono h.size)
/-- a call in its box, its span in a box, what came in, three sets. -/
structure Ba9 (y : World) (g gp gl : Nat) (P : Nat → Addr) (lo hi : Nat → Nat) (kind : Int) (c : Nat) (vr vR vS vD vd vs : Value) (fr to : Int) (nr : Nat) (R : Nat → Nat) (mR : Nat) (nR : Nat → Nat) (RR : Nat → Nat → Nat) (mS : Nat) (nS : Nat → Nat) (SS : Nat → Nat → Nat) (mD : Nat) (nD : Nat → Nat) (DD : Nat → Nat → Nat) (nd : Nat) (D : Nat → Nat) (ns : Nat) (S : Nat → Nat) : Prop where
  bx : Box9 y g (cv9 kind c vr vR vS vD vd vs fr to) 25
  sb : Sb9 y gp fr to
  iq : Iq9 y c vr vR vS vD vd vs nr R mR nR RR mS nS SS mD nD DD nd D ns S
  glt : gl < y.heap.size
  pt : ∀ i, i < 3 → y.cell? ⟨gl, i, none⟩ = some (.pointer (some (P i)))
  ks : ∀ i, i < 3 → Ks y (P i) i (lo i) (hi i)
/-- the slices of a round, and its five numbers. -/
structure Ax9 (y0 x : World) (nd gd : Nat) (F : Nat → Nat) (mD : Nat) (nD : Nat → Nat) (v1 : Value) (l1 h1 : Nat) (B1 : Nat → Nat) (T1 : Nat → Nat → Nat) (v2 : Value) (l2 h2 : Nat) (B2 : Nat → Nat) (T2 : Nat → Nat → Nat) (gn : Nat) (A : Array Value) : Prop where
  bel : Below y0.heap.size y0 x
  dst : Rw x gd nd F
  dlo : y0.heap.size ≤ gd
  dhi : gd < l1
  ds : Cs l1 h1 x v1 mD nD nD B1 T1
  ot : Cs l2 h2 x v2 mD nD nD B2 T2
  o1 : l1 ≤ h1
  o12 : h1 ≤ l2
  o2 : l2 ≤ h2
  nlo : h2 ≤ gn
  now : Box9 x gn A 32
section
variable {y0 x x' : World} {g gp gl : Nat} {P : Nat → Addr} {lo hi : Nat → Nat} {kind : Int} {c : Nat} {vr vR vS vD vd vs : Value} {fr to : Int} {nr : Nat} {R : Nat → Nat} {mR : Nat} {nR : Nat → Nat} {RR : Nat → Nat → Nat} {mS : Nat} {nS : Nat → Nat} {SS : Nat → Nat → Nat} {mD : Nat} {nD : Nat → Nat} {DD : Nat → Nat → Nat} {nd : Nat} {D : Nat → Nat} {ns : Nat} {S : Nat → Nat}
variable {gd : Nat} {F F' : Nat → Nat} {v1 v2 : Value} {l1 h1 l2 h2 : Nat} {B1 B2 : Nat → Nat} {T1 T2 T' : Nat → Nat → Nat} {gn : Nat} {A : Array Value}
theorem Ba9.below (h : Ba9 y0 g gp gl P lo hi kind c vr vR vS vD vd vs fr to nr R mR nR RR mS nS SS mD nD DD nd D ns S) (hb : Below y0.heap.size y0 x) : Ba9 x g gp gl P lo hi kind c vr vR vS vD vd vs fr to nr R mR nR RR mS nS SS mD nD DD nd D ns S :=
  ⟨h.bx.below hb, h.sb.below hb, h.iq.below hb, Nat.lt_of_lt_of_le h.glt hb.size, fun i hi => (hb.cell (p := ⟨gl, i, none⟩) h.glt).trans (h.pt i hi), fun i hi => (h.ks i hi).below hb⟩
theorem Ax9.up (h : Ax9 y0 x nd gd F mD nD v1 l1 h1 B1 T1 v2 l2 h2 B2 T2 gn A) (hb : Below x.heap.size x x') : Ax9 y0 x' nd gd F mD nD v1 l1 h1 B1 T1 v2 l2 h2 B2 T2 gn A :=
  ⟨bta9 h.bel hb, rw_below h.dst hb, h.dlo, h.dhi, h.ds.below hb, h.ot.below hb, h.o1, h.o12, h.o2, h.nlo, h.now.below hb⟩
theorem Ax9.sdst (h : Ax9 y0 x nd gd F mD nD v1 l1 h1 B1 T1 v2 l2 h2 B2 T2 gn A) (k : Kp gd x x') (r : Rw x' gd nd F') : Ax9 y0 x' nd gd F' mD nD v1 l1 h1 B1 T1 v2 l2 h2 B2 T2 gn A := by
  have a1 := h.dhi
  have a2 := h.o1
  have a3 := h.o12
  have a4 := h.o2
  have a5 := h.nlo
  exact ⟨h.bel.trans (k.below h.dlo h.bel.size), r, h.dlo, h.dhi, h.ds.keep k.ke (fun q e1 e2 e => by omega), h.ot.keep k.ke (fun q e1 e2 e => by omega), h.o1, h.o12, h.o2, h.nlo, ⟨by rw [k.2 gn h.now.lt (by omega)]; exact h.now.blk⟩⟩
theorem Ax9.sds (h : Ax9 y0 x nd gd F mD nD v1 l1 h1 B1 T1 v2 l2 h2 B2 T2 gn A) (k : Ke (In l1 h1) x x') (r : Cs l1 h1 x' v1 mD nD nD B1 T') : Ax9 y0 x' nd gd F mD nD v1 l1 h1 B1 T' v2 l2 h2 B2 T2 gn A := by
  have a0 := h.dlo
  have a1 := h.dhi
  have a2 := h.o1
  have a3 := h.o12
  have a4 := h.o2
  have a5 := h.nlo
  exact ⟨h.bel.trans (k.below (fun q hq => by have := hq.1; omega) h.bel.size), k.rw_ h.dst (fun e => by have := e.1; omega), h.dlo, h.dhi, r, h.ot.keep k (fun q e1 e2 e => by have := e.2; omega), h.o1, h.o12, h.o2, h.nlo, ⟨by rw [k.2 gn h.now.lt (fun e => by have := e.2; omega)]; exact h.now.blk⟩⟩
theorem Ax9.sot (h : Ax9 y0 x nd gd F mD nD v1 l1 h1 B1 T1 v2 l2 h2 B2 T2 gn A) (k : Ke (In l2 h2) x x') (r : Cs l2 h2 x' v2 mD nD nD B2 T') : Ax9 y0 x' nd gd F mD nD v1 l1 h1 B1 T1 v2 l2 h2 B2 T' gn A := by
  have a0 := h.dlo
  have a1 := h.dhi
  have a2 := h.o1
  have a3 := h.o12
  have a4 := h.o2
  have a5 := h.nlo
  exact ⟨h.bel.trans (k.below (fun q hq => by have := hq.1; omega) h.bel.size), k.rw_ h.dst (fun e => by have := e.1; omega), h.dlo, h.dhi, h.ds.keep k (fun q e1 e2 e => by have := e.1; omega), r, h.o1, h.o12, h.o2, h.nlo, ⟨by rw [k.2 gn h.now.lt (fun e => by have := e.2; omega)]; exact h.now.blk⟩⟩
theorem Ax9.snow (h : Ax9 y0 x nd gd F mD nD v1 l1 h1 B1 T1 v2 l2 h2 B2 T2 gn A) (i : Nat) (v : Value) : Ax9 y0 (x.setCell ⟨gn, i, none⟩ v) nd gd F mD nD v1 l1 h1 B1 T1 v2 l2 h2 B2 T2 gn (A.setIfInBounds i v) := by
  have a0 := h.dlo
  have a1 := h.dhi
  have a2 := h.o1
  have a3 := h.o12
  have a4 := h.o2
  have a5 := h.nlo
  have k : Kp gn x (x.setCell ⟨gn, i, none⟩ v) := (Kp.refl gn x).setCell i v
  exact ⟨h.bel.trans (k.below (by omega) h.bel.size), k.ke.rw_ h.dst (fun e => by omega), h.dlo, h.dhi, h.ds.keep k.ke (fun q e1 e2 e => by omega), h.ot.keep k.ke (fun q e1 e2 e => by omega), h.o1, h.o12, h.o2, h.nlo, ⟨heap_setCell_same _ _ _ _ _ _ h.now.blk⟩⟩
theorem Ax9.fro (h : Ax9 y0 x nd gd F mD nD v1 l1 h1 B1 T1 v2 l2 h2 B2 T2 gn A) (i : Nat) : x.frozen? ⟨gn, i, none⟩ = false := frozen_of_row _ _ _ _ _ h.now.blk

/-- copied, MulAdd. -/
theorem al_add (HB : Ba9 y0 g gp gl P lo hi kind c vr vR vS vD vd vs fr to nr R mR nR RR mS nS SS mD nD DD nd D ns S) (h : Ax9 y0 x nd gd F mD nD v1 l1 h1 B1 T1 v2 l2 h2 B2 T2 gn A) {k : Nat} (hk : k < 3) :
    Calls Try.prog 8 #[vs] x fun e x1 => ∃ g1, e = .returned (.slice (some ⟨g1, 0, none⟩) ns ns) ∧ Below y0.heap.size y0 x1 ∧
      Calls Try.prog 10 #[.pointer (some (P k)), .int .u8 (c : Int), .slice (some ⟨gd, 0, none⟩) nd nd, .slice (some ⟨g1, 0, none⟩) ns ns] x1 fun e x2 => e = .returned (.int .i64 (er9 nd ns : Nat)) ∧
        Ax9 y0 x2 nd gd (vl9 nd ns F (fun j => fm 285 c (S j) ^^^ F j)) mD nD v1 l1 h1 B1 T1 v2 l2 h2 B2 T2 gn A := by
  refine (cd9 vs ns S x (HB.iq.src.below h.bel) HB.iq.srcl).mono fun e x1 ⟨g1, he, r1, u1, b1⟩ => ⟨g1, he, bta9 h.bel b1, ?_⟩
  have h' := h.up b1
  refine (rw_add9 h'.dst (r1.re (Nat.le_refl _) (Nat.le_refl _) r1.1 (fun e => by have := h.dst.lt; omega)) ((HB.ks k hk).below h'.bel) (.inr (Nat.le_trans (HB.ks k hk).hi h.dlo)) HB.iq.hc).mono fun e x2 ⟨he, k2, r2⟩ => ⟨he, h'.sdst k2 r2⟩
/-- copied, copies, Dot. -/
theorem al_dot (HB : Ba9 y0 g gp gl P lo hi kind c vr vR vS vD vd vs fr to nr R mR nR RR mS nS SS mD nD DD nd D ns S) (h : Ax9 y0 x nd gd F mD nD v1 l1 h1 B1 T1 v2 l2 h2 B2 T2 gn A) {k : Nat} (hk : k < 3) :
    Calls Try.prog 8 #[vr] x fun e x1 => ∃ g1, e = .returned (.slice (some ⟨g1, 0, none⟩) nr nr) ∧ Below y0.heap.size y0 x1 ∧
      Calls Try.prog 9 #[vS] x1 fun e x2 => ∃ u2, e = .returned u2 ∧ Below y0.heap.size y0 x2 ∧
      Calls Try.prog 11 #[.pointer (some (P k)), .slice (some ⟨g1, 0, none⟩) nr nr, u2, .slice (some ⟨gd, 0, none⟩) nd nd] x2 fun e x3 => e = .returned (.int .i64 (de9 nr mS nd nS : Nat)) ∧
        Ax9 y0 x3 nd gd (dv9 nr mS nd nS R F SS) mD nD v1 l1 h1 B1 T1 v2 l2 h2 B2 T2 gn A := by
  have gl := h.dst.lt
  refine (cd9 vr nr R x (HB.iq.row.below h.bel) HB.iq.rowl).mono fun e x1 ⟨g1, he, r1, u1, b1⟩ => ⟨g1, he, bta9 h.bel b1, ?_⟩
  refine (copies9_any vS mS nS SS x1 (Lb.below HB.iq.srcs (bta9 h.bel b1)) HB.iq.srcsl HB.iq.srcsn).mono fun e x2 ⟨u2, B', he, r2, b2⟩ => ⟨u2, he, bta9 (bta9 h.bel b1) b2, ?_⟩
  have s1 := b1.size
  have h' := (h.up b1).up b2
  refine (rw_dot9 h'.dst ((rw_below r1 b2).re (Nat.le_refl _) (Nat.le_refl _) r1.1 (fun e => by omega)) (r2.ll (fun q e1 e2 e => by omega)) ((HB.ks k hk).below h'.bel) (.inr (Nat.le_trans (HB.ks k hk).hi h.dlo)) HB.iq.rowl HB.iq.srcsl).mono fun e x3 ⟨he, k3, r3⟩ => ⟨he, h'.sdst k3 r3⟩
/-- copies, copies, Apply. -/
theorem al_apply (HB : Ba9 y0 g gp gl P lo hi kind c vr vR vS vD vd vs fr to nr R mR nR RR mS nS SS mD nD DD nd D ns S) (h : Ax9 y0 x nd gd F mD nD v1 l1 h1 B1 T1 v2 l2 h2 B2 T2 gn A) {k : Nat} (hk : k < 3) :
    Calls Try.prog 9 #[vR] x fun e x1 => ∃ u1, e = .returned u1 ∧ Below y0.heap.size y0 x1 ∧
      Calls Try.prog 9 #[vS] x1 fun e x2 => ∃ u2, e = .returned u2 ∧ Below y0.heap.size y0 x2 ∧
      Calls Try.prog 12 #[.pointer (some (P k)), u1, u2, v1, .agg #[.int .i64 fr, .int .i64 to]] x2 fun e x3 => e = .returned (.int .i64 (fit9 mR mS mD nR nS nD fr to : Nat)) ∧
        Ax9 y0 x3 nd gd F mD nD v1 l1 h1 B1 (ap9 mR mS mD nR nS nD fr to RR SS T1) v2 l2 h2 B2 T2 gn A := by
  have hw := h.ds.hw
  refine (copies9_any vR mR nR RR x (Lb.below HB.iq.rows h.bel) HB.iq.rowsl HB.iq.rowsn).mono fun e x1 ⟨u1, B', he, r1, b1⟩ => ⟨u1, he, bta9 h.bel b1, ?_⟩
  refine (copies9_any vS mS nS SS x1 (Lb.below HB.iq.srcs (bta9 h.bel b1)) HB.iq.srcsl HB.iq.srcsn).mono fun e x2 ⟨u2, B', he, r2, b2⟩ => ⟨u2, he, bta9 (bta9 h.bel b1) b2, ?_⟩
  have s1 := b1.size
  have h' := (h.up b1).up b2
  have a0 := h.dlo
  have a1 := h.dhi
  refine (cs_apply h'.ds ((r1.below b2).ll (fun q e1 e2 e => by have := e.2; omega)) (r2.ll (fun q e1 e2 e => by have := e.2; omega)) ((HB.ks k hk).below h'.bel) (.inl (Nat.le_trans (HB.ks k hk).hi (by omega))) fr to HB.iq.rowsl HB.iq.srcsl HB.iq.dstsl).mono fun e x3 ⟨he, k3, r3⟩ => ⟨he, h'.sds k3 r3⟩
/-- copied, copied, Spread. -/
theorem al_spread (HB : Ba9 y0 g gp gl P lo hi kind c vr vR vS vD vd vs fr to nr R mR nR RR mS nS SS mD nD DD nd D ns S) (h : Ax9 y0 x nd gd F mD nD v1 l1 h1 B1 T1 v2 l2 h2 B2 T2 gn A) {k : Nat} (hk : k < 3) :
    Calls Try.prog 8 #[vr] x fun e x1 => ∃ g1, e = .returned (.slice (some ⟨g1, 0, none⟩) nr nr) ∧ Below y0.heap.size y0 x1 ∧
      Calls Try.prog 8 #[vs] x1 fun e x2 => ∃ g2, e = .returned (.slice (some ⟨g2, 0, none⟩) ns ns) ∧ Below y0.heap.size y0 x2 ∧
      Calls Try.prog 13 #[.pointer (some (P k)), .slice (some ⟨g1, 0, none⟩) nr nr, .slice (some ⟨g2, 0, none⟩) ns ns, v2, .agg #[.int .i64 fr, .int .i64 to]] x2 fun e x3 => e = .returned (.int .i64 (sf9 nr mD ns nD fr to : Nat)) ∧
        Ax9 y0 x3 nd gd F mD nD v1 l1 h1 B1 T1 v2 l2 h2 B2 (sp9 nr mD ns nD fr to R S T2) gn A := by
  have hw := h.ot.hw
  have a0 := h.dlo
  have a1 := h.dhi
  have a2 := h.o1
  have a3 := h.o12
  refine (cd9 vr nr R x (HB.iq.row.below h.bel) HB.iq.rowl).mono fun e x1 ⟨g1, he, r1, q1, b1⟩ => ⟨g1, he, bta9 h.bel b1, ?_⟩
  refine (cd9 vs ns S x1 (HB.iq.src.below (bta9 h.bel b1)) HB.iq.srcl).mono fun e x2 ⟨g2, he, r2, q2, b2⟩ => ⟨g2, he, bta9 (bta9 h.bel b1) b2, ?_⟩
  have s1 := b1.size
  have h' := (h.up b1).up b2
  refine (cs_spread h'.ot ((rw_below r1 b2).re (Nat.le_refl _) (Nat.le_refl _) r1.1 (fun e => by have := e.2; omega)) (r2.re (Nat.le_refl _) (Nat.le_refl _) r2.1 (fun e => by have := e.2; omega)) ((HB.ks k hk).below h'.bel) (.inl (Nat.le_trans (HB.ks k hk).hi (by omega))) fr to HB.iq.rowl HB.iq.dstsl).mono fun e x3 ⟨he, k3, r3⟩ => ⟨he, h'.sot k3 r3⟩
/-- copies, copies, copies, Agrees. -/
theorem al_agrees (HB : Ba9 y0 g gp gl P lo hi kind c vr vR vS vD vd vs fr to nr R mR nR RR mS nS SS mD nD DD nd D ns S) (h : Ax9 y0 x nd gd F mD nD v1 l1 h1 B1 T1 v2 l2 h2 B2 T2 gn A) {k : Nat} (hk : k < 3) :
    Calls Try.prog 9 #[vR] x fun e x1 => ∃ u1, e = .returned u1 ∧ Below y0.heap.size y0 x1 ∧
      Calls Try.prog 9 #[vS] x1 fun e x2 => ∃ u2, e = .returned u2 ∧ Below y0.heap.size y0 x2 ∧
      Calls Try.prog 9 #[vD] x2 fun e x3 => ∃ u3, e = .returned u3 ∧ Below y0.heap.size y0 x3 ∧
      Calls Try.prog 14 #[.pointer (some (P k)), u1, u2, u3, .agg #[.int .i64 fr, .int .i64 to]] x3 fun e x4 => ∃ b : Bool, e = .returned (.tuple #[.bool b, .int .i64 (fit9 mR mS mD nR nS nD fr to : Nat)]) ∧
        (b = true ↔ fit9 mR mS mD nR nS nD fr to = 0 ∧ ∀ r, r < mD → ∀ t : Nat, fr ≤ (t : Int) → (t : Int) < to → DD r t = ks (RR r) SS mS t) ∧
        Ax9 y0 x4 nd gd F mD nD v1 l1 h1 B1 T1 v2 l2 h2 B2 T2 gn A := by
  refine (copies9_any vR mR nR RR x (Lb.below HB.iq.rows h.bel) HB.iq.rowsl HB.iq.rowsn).mono fun e x1 ⟨u1, B', he, r1, b1⟩ => ⟨u1, he, bta9 h.bel b1, ?_⟩
  refine (copies9_any vS mS nS SS x1 (Lb.below HB.iq.srcs (bta9 h.bel b1)) HB.iq.srcsl HB.iq.srcsn).mono fun e x2 ⟨u2, B', he, r2, b2⟩ => ⟨u2, he, bta9 (bta9 h.bel b1) b2, ?_⟩
  refine (copies9_any vD mD nD DD x2 (Lb.below HB.iq.dsts (bta9 (bta9 h.bel b1) b2)) HB.iq.dstsl HB.iq.dstsn).mono fun e x3 ⟨u3, B', he, r3, b3⟩ => ⟨u3, he, bta9 (bta9 (bta9 h.bel b1) b2) b3, ?_⟩
  have h' := ((h.up b1).up b2).up b3
  have e1 := HB.iq.rowsl
  have e2 := HB.iq.srcsl
  have e3 := HB.iq.dstsl
  exact (kagrees_any (P k) k (lo k) (hi k) mR mS mD nR nS nD RR SS DD fr to u1 u2 u3 x3 ((HB.ks k hk).below h'.bel) (by omega) (by omega) (by omega) HB.iq.srcsn HB.iq.dstsn ((r1.below b2).below b3).lb (r2.below b3).lb r3.lb).mono fun e x4 ⟨b, he, hb, b4⟩ => ⟨b, he, hb, h'.up b4⟩
end
set_option maxHeartbeats 2000000 in
set_option maxRecDepth 100000 in
theorem copies9_cg (u : Value) (m : Nat) (n : Nat → Nat) (S : Nat → Nat → Nat) (w : World) (h : Lb w u m n S) (hm : 24 * m ≤ 140737488351232) (hn : ∀ i, i < m → n i ≤ 140737488351232) :
    Calls Try.prog 9 #[u] w fun e w' => ∃ v B, e = .returned v ∧ Cg w w' v m n n B S := by
  obtain ⟨V, ⟨hmb, a, cap, rfl, -, -, h4⟩, hV⟩ := h
  go_enter Try.func9, Try.ntmps9
  go_wp2
  go_loopw [3, 8] (fun o i wr => ∃ k B, k ≤ m ∧ i = .int .i64 (k : Nat) ∧ Cg w wr o k n n B S) (fun _ i _ => m - (intOf i).toNat)
  case atStart => exact ⟨0, fun _ => 0, Nat.zero_le _, rfl, Cg.start _ _ _ _ _⟩
  case round =>
    obtain ⟨k, B, hk, rfl, hG⟩ := hrel
    obtain ⟨oa, oC, rfl⟩ := hG.form
    by_cases hlt : k < m
    · obtain ⟨b, o', rfl, hbl, hc⟩ := h4 (by omega)
      have q1 : wr.cell? ⟨b, o' + k, none⟩ = some (V k) := (hG.bel.cell (p := ⟨b, o' + k, none⟩) hbl.1).trans (hc k hlt)
      have hr1 := (hV k hlt).rb.below hG.bel
      obtain ⟨x1, y1, e1⟩ : ∃ x y, V k = .slice x (n k) y := by obtain ⟨_, _, x, y, e, _⟩ := hr1; exact ⟨x, y, e⟩
      rw [e1] at q1 hr1
      have c1 := copied9_any _ _ _ wr hr1 (by have := hn k hlt; omega)
      have HA : Hid (∀ w3, Rw w3 wr.heap.size (n k) (S k) → Below wr.heap.size wr w3 → ∃ v5 w5, (Builtin.append_ #[23, 23] 23 #[.slice oa k oC, .slice (some ⟨w3.heap.size, 0, none⟩) 1 1]).run Try.prog (w3.alloc (.cells #[.slice (some ⟨wr.heap.size, 0, none⟩) (n k) (n k)] 22)) = .ok v5 w5 ∧ Cg w w5 v5 (k + 1) (upn n k (n k)) (upn n k (n k)) (upn B k wr.heap.size) (upn S k (S k))) :=
        fun w3 r3 b3 => cg_run hG b3 (Nat.le_refl _) (Nat.le_refl _) r3 (by omega)
      have ib : ((k : Nat) : Int) < (m : Int) := by omega
      have W1 := wrap_succ8 (j := k) (by unfold big; omega)
      clear hr1 hG hc h4 hV hn hm hmb e1
      go_wp2_with (first | (go_at_call 8; (with_reducible refine c1.mono ?_); rintro e w3 ⟨rfl, r3, b3, -⟩; obtain ⟨v5, w5, hrun, hG5⟩ := HA.out w3 r3 b3; clear c1) | (at_builtin; refine Lib.wpList_append_run _ rfl _ _ _ _ rfl _ _ rfl rfl _ _ hrun ?_))
      go_roundw
      case rel =>
        refine ⟨k + 1, upn B k wr.heap.size, hlt, by first | rfl | (rw [W1]; rfl), hG5.congr (fun r hr => ?_)⟩
        by_cases e : r = k
        · subst e; exact ⟨upn_same _ _ _, upn_same _ _ _, rfl, upn_same _ _ _⟩
        · exact ⟨upn_other _ _ e, upn_other _ _ e, rfl, upn_other _ _ e⟩
      case measure => first | exact meas_lt8 hlt | (rw [W1]; exact meas_lt8 hlt)
    · have hkN : k = m := by omega
      subst hkN
      clear h4
      go_wp2
      go_ret
      exact ⟨_, B, rfl, hG⟩
/-- the lengths of all lists and one more. -/
def n9u (m : Nat) (n : Nat → Nat) (k r : Nat) : Nat := if r < m then n r else k
def f9u (m : Nat) (T : Nat → Nat → Nat) (F : Nat → Nat) (r : Nat) : Nat → Nat := if r < m then T r else F
theorem lists9 {w w3 : World} {v : Value} {m : Nat} {n B : Nat → Nat} {T : Nat → Nat → Nat} (h : Cg w w3 v m n n B T) {g k : Nat} {F : Nat → Nat} (hr : Rw w3 g k F) (hg : g < w.heap.size) (hm : 24 * m ≤ 140737488351232) {L0 : Nat} (hL : L0 ≤ g) (hL' : L0 ≤ w.heap.size) :
    ∃ u w5, (Builtin.append_ #[23, 23] 23 #[v, .slice (some ⟨w3.heap.size, 0, none⟩) 1 1]).run Try.prog (w3.alloc (.cells #[.slice (some ⟨g, 0, none⟩) k k] 22)) = .ok u w5 ∧
      Below w.heap.size w w5 ∧ Ll (fun b => b < L0) w5 u (m + 1) (n9u m n k) (f9u m T F) := by
  have hbs := h.bel.size
  obtain ⟨g', cp, w5, hrun, hG, lies, hblk, hb5, hg5, hs5⟩ := gl_run (k := 1) h.own hbs (Below.refl w3.heap.size w3) (fun _ => .slice (some ⟨g, 0, none⟩) k k) (fun j hj => rfl) (by decide) (by omega)
  obtain ⟨a, c, e, c1, c2, hf⟩ := hG.form
  cases e
  obtain ⟨g2, e2, g3, g4, g5, g6⟩ := hf (by omega)
  cases e2
  refine ⟨_, w5, hrun, h.bel.trans hb5, ⟨_, ⟨by unfold big; unfold maxLen at c2; omega, _, _, rfl, c1, by unfold big; unfold maxLen at c2; omega, fun _ => ⟨g', 0, rfl, ⟨g4, fun e => by omega⟩, fun i hi => by rw [Nat.zero_add]; exact g6 i hi⟩⟩, fun i hi => ?_⟩⟩
  unfold n9u f9u
  by_cases e : i < m
  · rw [if_pos e, if_pos e, if_pos e]
    obtain ⟨r1, r2, r3, r4, r5⟩ := h.row i e
    have q : Rw w5 (B i) (n i) (T i) := r5.of_block (hblk _ r2 r3)
    exact q.re (Nat.le_refl _) (Nat.le_refl _) q.1 (fun e => by omega)
  · rw [if_neg e, if_neg e, if_neg e]
    have q : Rw w5 g k F := hr.of_block (hblk _ hr.lt (fun e => by have := (World.ownsRow.lt h.own g e).1; omega))
    exact q.re (Nat.le_refl _) (Nat.le_refl _) q.1 (fun e => by omega)
section
variable {y0 x : World} {mD : Nat} {nD : Nat → Nat} {nd gd : Nat} {F : Nat → Nat} {v1 v2 : Value} {l1 h1 l2 h2 : Nat} {B1 B2 : Nat → Nat} {T1 T2 : Nat → Nat → Nat} {gn : Nat} {A : Array Value}
/-- copies, then the append. -/
theorem al_lists (h : Ax9 y0 x nd gd F mD nD v1 l1 h1 B1 T1 v2 l2 h2 B2 T2 gn A) (hm : 24 * mD ≤ 140737488351232) (hn : ∀ i, i < mD → nD i ≤ 140737488351232) :
    Calls Try.prog 9 #[v1] x fun e x1 => ∃ u1, e = .returned u1 ∧ ∃ u x5, (Builtin.append_ #[23, 23] 23 #[u1, .slice (some ⟨x1.heap.size, 0, none⟩) 1 1]).run Try.prog (x1.alloc (.cells #[.slice (some ⟨gd, 0, none⟩) nd nd] 22)) = .ok u x5 ∧
      Ax9 y0 x5 nd gd F mD nD v1 l1 h1 B1 T1 v2 l2 h2 B2 T2 gn A ∧ Ll (fun b => b < y0.heap.size) x5 u (mD + 1) (n9u mD nD nd) (f9u mD T1 F) := by
  refine (copies9_cg v1 mD nD T1 x h.ds.lb hm hn).mono fun e x1 ⟨u1, B', he, hC⟩ => ⟨u1, he, ?_⟩
  obtain ⟨u, w5, hrun, hb, hL⟩ := lists9 hC (rw_below h.dst hC.bel) h.dst.lt hm h.dlo h.bel.size
  exact ⟨u, w5, hrun, h.up hb, hL⟩
end
/-- five numbers written over five. -/
theorem five9 {x : World} {ge : Nat} {a0 a1 a2 a3 a4 : Value} (h : Box9 x ge #[a0, a1, a2, a3, a4] 32) (z0 z1 z2 z3 z4 : Value) :
    Box9 (((((x.setCell ⟨ge, 0, none⟩ z0).setCell ⟨ge, 1, none⟩ z1).setCell ⟨ge, 2, none⟩ z2).setCell ⟨ge, 3, none⟩ z3).setCell ⟨ge, 4, none⟩ z4).drew ge #[z0, z1, z2, z3, z4] 32 ∧
    Kp ge x (((((x.setCell ⟨ge, 0, none⟩ z0).setCell ⟨ge, 1, none⟩ z1).setCell ⟨ge, 2, none⟩ z2).setCell ⟨ge, 3, none⟩ z3).setCell ⟨ge, 4, none⟩ z4).drew := by
  have key : ∀ (X : World) (B : Array Value), X.heap[ge]? = some (.cells B 32 (0, 0)) → X.drew.heap[ge]? = some (.cells B 32 (0, 0)) := fun X B h => h
  have e : (((((#[a0, a1, a2, a3, a4] : Array Value).setIfInBounds 0 z0).setIfInBounds 1 z1).setIfInBounds 2 z2).setIfInBounds 3 z3).setIfInBounds 4 z4 = #[z0, z1, z2, z3, z4] := rfl
  have b1 := heap_setCell_same x ge 0 _ _ z0 h.blk
  have k1 := (Kp.refl ge x).setCell 0 z0
  generalize x.setCell ⟨ge, 0, none⟩ z0 = x1 at b1 k1 ⊢
  have b2 := heap_setCell_same _ ge 1 _ _ z1 b1
  have k2 := k1.setCell 1 z1
  generalize x1.setCell ⟨ge, 1, none⟩ z1 = x2 at b2 k2 ⊢
  have b3 := heap_setCell_same _ ge 2 _ _ z2 b2
  have k3 := k2.setCell 2 z2
  generalize x2.setCell ⟨ge, 2, none⟩ z2 = x3 at b3 k3 ⊢
  have b4 := heap_setCell_same _ ge 3 _ _ z3 b3
  have k4 := k3.setCell 3 z3
  generalize x3.setCell ⟨ge, 3, none⟩ z3 = x4 at b4 k4 ⊢
  have b5 := heap_setCell_same _ ge 4 _ _ z4 b4
  have k5 := k4.setCell 4 z4
  generalize x4.setCell ⟨ge, 4, none⟩ z4 = x5 at b5 k5 ⊢
  rw [e] at b5
  exact ⟨⟨key _ _ b5⟩, k5.drew⟩
end Go.Proofs.Ytdeophhcbkahgaa
namespace Go.Proofs.Ytdeophhcbkahgaa
open Go.RowKit Gf2
set_option linter.unusedVariables false

/-- five numbers compared with themselves. -/
theorem eq5_9 (a b c d e : Int) (w : World) : (Op.equalIn 10000 32 (.agg #[.int .i64 a, .int .i64 b, .int .i64 c, .int .i64 d, .int .i64 e]) (.agg #[.int .i64 a, .int .i64 b, .int .i64 c, .int .i64 d, .int .i64 e])).run Try.prog w = .ok true w := by
  have u3 := Try.underlying31
  have a3 := Try.isAgg31
  have z3 := Try.sizeOf31
  rw [show (10000 : Nat) = 9999 + 1 from rfl, Op.equalIn]
  simp only [Sem.run_bind, run_underlying Try.underlying32, Result.andThen_ok]
  simp only [Std.Legacy.Range.forIn_eq_forIn_range', Std.Legacy.Range.size, Nat.sub_zero, Nat.add_sub_cancel, Nat.div_one, List.range'_succ, List.range'_zero, List.forIn_cons, List.forIn_nil]
  go_simp
end Go.Proofs.Ytdeophhcbkahgaa
