import Derived.Test.YtnbpbdhncnagdabDrow
import Derived.Deep.RegionLaw
namespace Go.Proofs.Ytnbpbdhncnagdab
open Go.RowKit Gf2

/-- bytes that came in. -/
def IsBytesG (w : World) (a : Option Addr) (len cap : Nat) : Prop :=
  len ≤ maxLen ∧ (len = 0 ∨ ∃ b off, ∃ c : Nat → Nat, a = some ⟨b, off, none⟩ ∧ len ≤ cap ∧ cap ≤ maxLen ∧ b < w.heap.size ∧ ∀ i, i < len → c i < 256 ∧ w.cell? ⟨b, off + i, none⟩ = some (.int .u8 (c i : Nat)))

theorem trow_two (t : Nat) (w : World) (ht : Tab8 w t) :
    Calls Try.prog 15 #[.pointer (some ⟨t, 0, none⟩), .int .u8 2] w fun e w' => e = .returned (.slice (some ⟨w.heap.size, 0, none⟩) 256 256) ∧
      w'.rowIs w.heap.size 5 256 (fun x => .int .u8 (fm 285 2 x : Nat)) ∧ Below w.heap.size w w' ∧ w'.heap.size = w.heap.size + 1 := trow_nat t 2 w ht (by decide)
theorem refRow_two (w : World) :
    Calls Try.prog 18 #[.int .u8 2] w fun e w' => e = .returned (.slice (some ⟨w.heap.size, 0, none⟩) 256 256) ∧
      w'.rowIs w.heap.size 5 256 (fun x => .int .u8 (fm 285 2 x : Nat)) ∧ Below w.heap.size w w' ∧ w'.heap.size = w.heap.size + 1 := refRow_nat 2 w (by decide)

theorem tmul3 (t a : Nat) (w : World) (ht : Tab8 w t) (ha : a < 256) :
    Calls Try.prog 7 #[.pointer (some ⟨t, 0, none⟩), .int .u8 (a : Int), .int .u8 3] w fun e w' => e = .returned (.int .u8 (fm 285 a 3 : Nat)) ∧ ∃ m, w' = w.drewN m := tmul_nat t a 3 w ht ha (by decide)
theorem refMul3 (a : Nat) (w : World) (ha : a < 256) :
    Calls Try.prog 20 #[.int .u8 (a : Int), .int .u8 3] w fun e w' => e = .returned (.int .u8 (fm 285 a 3 : Nat)) ∧ w' = w := refMul_nat a 3 w ha (by decide)

theorem rows_pair {W w1 w2 : World} {T : TypeId} {f : Nat → Value} (hr1 : w1.rowIs W.heap.size T 256 f) (hs1 : w1.heap.size = W.heap.size + 1) (hr2 : w2.rowIs w1.heap.size T 256 f) (hb2 : Below w1.heap.size w1 w2)
    {x y : Nat} (hx : W.heap.size = x) (hy : w1.heap.size = y) : (∀ i, i < 256 → w2.cell? ⟨x, i, none⟩ = some (f i)) ∧ (∀ i, i < 256 → w2.cell? ⟨y, i, none⟩ = some (f i)) := by
  subst hx hy
  exact ⟨fun i hi => (hb2.cell (p := ⟨W.heap.size, i, none⟩) (by rw [hs1]; exact Nat.lt_succ_self _)).trans (hr1.cell hi), fun i hi => hr2.cell hi⟩

theorem pre_facts {w wa wb wc wd : World} (m : Nat) (hsa : wa.heap.size = w.heap.size + 1) (hba : Below w.heap.size w wa) (hsb : wb.heap.size = wa.heap.size + 1) (hbb : Below wa.heap.size wa wb)
    (ht2 : Tab8 wb w.heap.size) (hu2 : Tab8 wb wa.heap.size) (hbc : Below wb.heap.size wb wc) (hbd : Below wc.heap.size wc wd) :
    Tab8 (wd.drewN m) w.heap.size ∧ Tab8 (wd.drewN m) (w.heap.size + 1) ∧ Below w.heap.size w (wd.drewN m) ∧ w.heap.size + 2 ≤ (wd.drewN m).heap.size := by
  have h1 := hbc.size
  have h2 := hbd.size
  have ht3 := (ht2.of_heap (hbc.block _ (by omega))).of_heap (hbd.block _ (by omega))
  rw [hsa] at hu2
  have hu3 := (hu2.of_heap (hbc.block _ (by omega))).of_heap (hbd.block _ (by omega))
  refine ⟨ht3.drewN m, hu3.drewN m, below_drewN' ?_ m, ?_⟩
  · exact ((hba.trans (hbb.mono (by omega))).trans (hbc.mono (by omega))).trans (hbd.mono (by omega))
  · show _ ≤ wd.heap.size
    omega
theorem Below.of_drew {w w' : World} (h : Below w.drew.heap.size w.drew w') : Below w.heap.size w w' := ⟨h.os, h.tape, h.output, h.size, h.block⟩
theorem step_append_run {P : Program} {ops : Array Oper} {o : Oper} {a : Act} {w : World} {K : Act → World → Prop} {Q : Exit → Act → World → Prop} {E : Prop} (hgd : o.guard = none) (s x : Operand) (t : TypeId)
    (ho : o.op = .call { callee := .builtin .append, args := #[s, x], argTypes := #[t, t] }) {v1 v2 v' : Value} {w' : World} (hs : a.eval s = v1) (hx : a.eval x = v2)
    (hrun : (Builtin.append_ #[t, t] o.type #[v1, v2]).run P w = .ok v' w') (h : K (a.put o.dst v') w') : if Region.wanted o (yielded ops a.tmps) = true then Oper.wp P o a w K Q else E := by
  have hw : Region.wanted o (yielded ops a.tmps) = true := by simp [Region.wanted, hgd]
  rw [if_pos hw]
  unfold Oper.wp execOp
  simp only [ho, resolve, invoke, builtin, Sem.run_bind, Sem.run_pure, Result.andThen_ok, List.map_toArray, List.map_cons, List.map_nil, hs, hx, hrun]
  exact h
theorem ls_of_mk {w : World} {base g cp n : Nat} {B c : Nat → Nat} (h : Mk w base (.slice (some ⟨g, 0, none⟩) n cp) n B c) (hg : g < w.heap.size) : Ls w base g n B :=
  ⟨fun r hr => by rw [h.own.cellAt r (by omega), lst_get B hr], h.inj, fun r hr e => h.ne r hr (by rw [e]; rfl), h.lo, fun r hr => (h.rows r hr).lt, hg⟩
theorem mk_none (w : World) (base : Nat) (c : Nat → Nat) : Mk w base (.slice none 0 0) (3 * 0) (fun _ => 0) c :=
  ⟨⟨rfl, .inl ⟨rfl, rfl⟩⟩, fun r s hr => absurd hr (by omega), fun r hr => absurd hr (by omega), fun r hr => absurd hr (by omega), fun r hr => absurd hr (by omega)⟩

end Go.Proofs.Ytnbpbdhncnagdab
