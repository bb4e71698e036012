import Derived.Test.YtfhgamaakkoplaaMvbf
import Derived.Deep.Cut
import Derived.Test.YtfhgamaakkoplaaMvaw
import Derived.Lib.SliceRun
namespace Go.Proofs.Ytfhgamaakkoplaa
open Go.RowKit Gf2
set_option linter.unusedVariables false

-- layer 19: turn
theorem Rg8.ke {E : Nat → Prop} {w w' : World} {r t : Nat} (h : Rg8 w r t) (k : Ke E w w') (h1 : ¬ E r) (h2 : ¬ E t) : Rg8 w' r t :=
  ⟨h.tab.of_heap (k.2 t h.tab.lt h2), Nat.lt_of_lt_of_le h.lt k.size, (k.cell h.lt h1).trans h.mul, (k.cell h.lt h1).trans h.inv⟩
end Go.Proofs.Ytfhgamaakkoplaa
namespace Go.Proofs.Ytfhgamaakkoplaa
open Go.RowKit Gf2
set_option linter.unusedVariables false

-- layer 19: a survey stays while turns are noted
theorem rb_keep19 {W W' : World} {b o n c : Nat} {F : Nat → Nat} (h : Rb W (.slice (some ⟨b, o, none⟩) n c) n F) (hk : b < W.heap.size → W'.heap[b]? = W.heap[b]?) (hs : W.heap.size ≤ W'.heap.size) : Rb W' (.slice (some ⟨b, o, none⟩) n c) n F := by
  obtain ⟨h1, h2, a, cap, h3, h5, h6, h4⟩ := h
  cases h3
  refine ⟨h1, h2, _, _, rfl, h5, h6, fun h0 => ?_⟩
  obtain ⟨b', o', e, hl, hc⟩ := h4 h0
  cases e
  exact ⟨b, o, rfl, Nat.lt_of_lt_of_le hl hs, fun i hi => by
    rw [← hc i hi]
    unfold World.cell?
    rw [hk hl]⟩
end Go.Proofs.Ytfhgamaakkoplaa
namespace Go.Proofs.Ytfhgamaakkoplaa
open Go.RowKit Gf2
set_option linter.unusedVariables false

-- layer 19: newSurvey
theorem cell_ne19 {W : World} {a b : Nat} {x y : Value} (hx : W.cell? ⟨a, 0, none⟩ = some x) (hy : W.cell? ⟨b, 0, none⟩ = some y) (h : x ≠ y) : a ≠ b := fun e => by
  subst e
  rw [hx] at hy
  exact h (Option.some.inj hy)
/-- a decoder's blocks are others than one that begins with no function and no number. -/
theorem De19.ne {W : World} {g k n r t gp gv b : Nat} {p : Nat → Nat} {v : Value} (h : De19 W g k n p r t gp gv) (hn : 1 ≤ n) (hb : W.cell? ⟨b, 0, none⟩ = some v) (h1 : ∀ f a c, v ≠ .func f a c) (h2 : ∀ z, v ≠ .int .u8 z) : r ≠ b ∧ t ≠ b ∧ gp ≠ b ∧ gv ≠ b := by
  refine ⟨cell_ne19 h.rg.mul hb (fun e => h1 _ _ _ e.symm), cell_ne19 (h.rg.tab.pow (n := 0) (by decide)) hb (fun e => h2 _ e.symm), ?_, ?_⟩
  · obtain ⟨-, -, a, c, e, -, -, h4⟩ := h.pts
    cases e
    obtain ⟨b', o, e, -, hc⟩ := h4 (by omega)
    cases e
    exact cell_ne19 (hc 0 (by omega)) hb (fun e => h2 _ e.symm)
  · obtain ⟨-, -, a, c, e, -, -, h4⟩ := h.van.rb
    cases e
    obtain ⟨b', o, e, -, hc⟩ := h4 (by omega)
    cases e
    exact cell_ne19 (hc 0 (by omega)) hb (fun e => h2 _ e.symm)
theorem De19.kp {W W' : World} {g k n r t gp gv b : Nat} {p : Nat → Nat} (h : De19 W g k n p r t gp gv) (hk : Kp b W W') (hg : g ≠ b) (hr : r ≠ b) (ht : t ≠ b) (hp : gp ≠ b) (hv : gv ≠ b) : De19 W' g k n p r t gp gv :=
  ⟨(hk.2 g (Array.getElem?_eq_some_iff.1 h.blk).1 hg).trans h.blk, h.rg.kp hk hr ht, rb_keep19 h.pts (fun hl => hk.2 _ hl hp) hk.size, ⟨rb_keep19 h.van.rb (fun hl => hk.2 _ hl hv) hk.size, h.van.dg, h.van.el, h.van.top⟩⟩
end Go.Proofs.Ytfhgamaakkoplaa
