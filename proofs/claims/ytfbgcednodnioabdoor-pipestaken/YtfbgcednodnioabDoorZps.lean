import Derived.Test.YtfbgcednodnioabDoorZpr
import Derived.Test.YtfbgcednodnioabDoorZpl
namespace Go.Proofs.YtfbgcednodnioabDoor
open Go.RowKit Gf2
set_option linter.unusedVariables false

-- layer 22: PipesTaken's states
/-- the sink has taken just what the list holds. -/
structure Pt22 (w0 wr : World) (b f : Nat) (fa code : Int) (L : Nat) (all : Value) : Prop where
  ex : ∃ (Fp : Nat → Prop) (T : Nat → Nat) (ga : Nat), Sk Fp wr b L T fa code f ∧ Tk wr all ga L T ∧ (all = .slice none 0 0 ∨ ¬ Fp ga ∧ w0.heap.size ≤ ga) ∧ (∀ x, Fp x → w0.heap.size ≤ x)
  bel : Below w0.heap.size w0 wr
  lb : L ≤ 140737488420864
theorem Pt22.form {w0 wr : World} {b f L : Nat} {fa code : Int} {all : Value} (h : Pt22 w0 wr b f fa code L all) : ∃ a c, all = .slice a L c := by
  obtain ⟨Fp, T, ga, -, h2, -⟩ := h.ex
  exact h2.form
theorem Tk.cut22 {w : World} {a : Option Addr} {c g L m : Nat} {T : Nat → Nat} (h : Tk w (.slice a L c) g L T) (hm : m ≤ L) : Tk w (.slice a m c) g m T := by
  rcases h with ⟨e, h⟩ | ⟨C, F, e, h2, h3, h4⟩
  · cases h
    exact .inl ⟨by omega, by rw [show m = 0 by omega]⟩
  · cases e
    exact .inr ⟨_, F, rfl, by omega, h3, fun i hi => h4 i (by omega)⟩
theorem pt_step22 {w0 wr : World} {b f L : Nat} {fa code : Int} {all : Value} (h : Pt22 w0 wr b f fa code L all) (hL : L ≤ 65536) (x : Option Addr) (n cx : Nat) (S : Nat → Nat) (hx : Rb w0 (.slice x n cx) n S) (hn : n ≤ 140737488351232) :
    ∃ w1 a1 c1, (Builtin.append_ #[28, 28] 28 #[all, .slice x n cx]).run Tryd.prog wr = .ok (.slice a1 (L + n) c1) w1 ∧
    ∃ w2 g C, (Builtin.append_ #[28, 28] 28 #[.slice (some ⟨w1.heap.size, 0, none⟩) 0 0, .slice x n cx]).run Tryd.prog (w1.alloc (.cells #[] 5)) = .ok (.slice (some ⟨g, 0, none⟩) n C) w2 ∧
    (Calls Tryd.prog 7 #[.iface 24 (.pointer (some ⟨b, 0, none⟩)), .slice (some ⟨g, 0, none⟩) n C] w2 fun e w3 => e = .returned (.tuple #[.int .i64 ((wr22 L n fa : Nat) : Int), we22 L n fa f]) ∧
      (Calls Tryd.prog 8 #[.pointer (some ⟨b, 0, none⟩)] w3 fun e w4 => e = .returned (fe22 fa f) ∧ w4 = w3) ∧ Pt22 w0 w3 b f fa code (L + wr22 L n fa) (.slice a1 (L + wr22 L n fa) c1)) ∧
    (0 ≤ fa → (L : Int) ≤ fa) ∧ L + n ≤ c1 := by
  obtain ⟨Fp, T, ga, hS, hT, hd, hf⟩ := h.ex
  obtain ⟨w1, v1, g1, r1, hT1, hg1, k1, a1, c1, rfl⟩ := hT.app (hx.below h.bel) (by omega)
  have b1 : Below w0.heap.size w0 w1 := h.bel.trans (k1.below (fun y hy => by
    rcases hd with e | ⟨-, e⟩
    · exact absurd e hy.1
    · omega) h.bel.size)
  have kf : ∀ y, Fp y → ¬ (all ≠ .slice none 0 0 ∧ y = ga) := fun y hy e => by
    rcases hd with e1 | ⟨e1, -⟩
    · exact e.1 e1
    · rw [e.2] at hy; exact e1 hy
  have hS1 := hS.keep k1 kf
  have hc1 : L + n ≤ c1 := by
    rcases hT1 with ⟨e, e2⟩ | ⟨C, F, e, h2, -⟩
    · omega
    · cases e; exact h2
  have hd1 : (.slice a1 (L + n) c1 : Value) = .slice none 0 0 ∨ ¬ Fp g1 ∧ w0.heap.size ≤ g1 := by
    rcases hg1 with e | ⟨e1, e2⟩ | ⟨e1, e2⟩
    · exact .inl e
    · rcases hd with e3 | e3
      · exact absurd e3 e1
      · rw [e2]; exact .inr e3
    · exact .inr ⟨fun e => by have := hS.fl g1 e; omega, by have := h.bel.size; omega⟩
  obtain ⟨w2, g, C, G, r2, j1, j2, j3, j4, j5, j6⟩ := copy_appw w1 (hx.below b1) (by omega)
  have b2 := b1.trans (j6.mono b1.size)
  have hS2 := hS1.below j6
  have hrb : Rb w2 (.slice (some ⟨g, 0, none⟩) n C) n S := (j4.rb (o := 0) (n := n) (cap := C) (by omega) j1 j4.1).congr (fun i hi => by rw [Nat.zero_add]; exact j5 i hi)
  refine ⟨w1, a1, c1, r1, w2, g, C, r2, (putk22 _ n C S w2 hS2 hrb (by omega)).mono fun e w3 ⟨he, hP⟩ => ⟨he, snkfail22 w3 hP.sk, ?_⟩, hS.lf, hc1⟩
  have hm := wr22_le L n fa
  refine ⟨⟨_, _, g1, hP.sk, ?_, ?_, fun y hy => ?_⟩, b2.trans (hP.ke.below hf b2.size), by omega⟩
  · exact ((hT1.ke' (ke_below j6 (fun _ => False)) (.inr (fun e => e))).ke' hP.ke (hd1.imp id (fun e => e.1))).cut22 (by omega)
  · rcases hd1 with e | ⟨e1, e2⟩
    · obtain ⟨q1, q2, q3⟩ := Value.slice.inj e
      exact .inl (by rw [q1, q3, show L + wr22 L n fa = 0 by omega])
    · by_cases hq : (.slice a1 (L + n) c1 : Value) = .slice none 0 0
      · obtain ⟨q1, q2, q3⟩ := Value.slice.inj hq
        exact .inl (by rw [q1, q3, show L + wr22 L n fa = 0 by omega])
      · refine .inr ⟨fun e => ?_, e2⟩
        rcases e with e | e
        · exact e1 e
        · have : g1 < w1.heap.size := by
            rcases hT1 with ⟨-, e3⟩ | ⟨_, _, _, _, e3, _⟩
            · exact absurd e3 hq
            · exact e3.lt
          have := j6.size
          omega
  · rcases hy with hy | hy
    · exact hf y hy
    · have := b2.size; omega
/-- the end: what the sink holds is the list. -/
theorem pt_end22 {w0 wr : World} {b f L : Nat} {fa code : Int} {all : Value} (h : Pt22 w0 wr b f fa code L all) :
    Calls Tryd.prog 10 #[.pointer (some ⟨b, 0, none⟩)] wr fun e w1 => ∃ a c, e = .returned (.slice a L c) ∧ Calls Tryd.prog 9 #[.slice a L c, all] w1 fun e w2 => e = .returned (.bool true) ∧ Below w0.heap.size w0 w2 := by
  obtain ⟨Fp, T, ga, hS, hT, hd, hf⟩ := h.ex
  refine (bytes22 wr hS (by have := h.lb; omega)).mono fun e w1 ⟨u, he, hN, hb⟩ => ?_
  obtain ⟨a, c, rfl⟩ : ∃ a c, u = .slice a L c := by obtain ⟨-, -, a, c, e, -⟩ := hN; exact ⟨a, c, e⟩
  refine ⟨a, c, he, (sb22_true _ _ L T T w1 hN.rb (hT.rb.below hb) (fun _ _ => rfl)).mono fun e w2 ⟨he, m, hw⟩ => ⟨he, ?_⟩⟩
  rw [hw]
  exact below_drewN (h.bel.trans (hb.mono h.bel.size)) m
end Go.Proofs.YtfbgcednodnioabDoor
