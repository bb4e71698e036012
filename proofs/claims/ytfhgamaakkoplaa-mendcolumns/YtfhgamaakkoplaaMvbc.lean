import Derived.Test.YtfhgamaakkoplaaMvba
import Derived.Test.YtfhgamaakkoplaaMvbb
namespace Go.Proofs.Ytfhgamaakkoplaa
open Go.RowKit Gf2
set_option linter.unusedVariables false

-- layer 4: Partial, as mend asks it
theorem results_tmp4p {fn : Func} {t u v x : Tmp} (h : fn.results = #[.tmp t, .tmp u, .tmp v, .tmp x]) (tmps : Array Value) (P : Program) (w : World) :
    (results fn tmps).run P w = .ok (.tuple #[tmps.getD t undef, tmps.getD u undef, tmps.getD v undef, tmps.getD x undef]) w := by
  simp [results, h]
/-- Euclid's sequence under way: two links in boxes. -/
structure Pt8 (w W : World) (r t ba bb n d : Nat) (V R : Nat → Nat) (vma vua vva vmb vub vvb : Value) (nb : Nat) : Prop where
  ra : W.heap[ba]? = some (.cells #[vma, vua, vva] 96 (0, 0))
  rb : W.heap[bb]? = some (.cells #[vmb, vub, vvb] 96 (0, 0))
  ne : ba ≠ bb
  la : w.heap.size ≤ ba
  lb : w.heap.size ≤ bb
  rg : Rg8 W r t
  rw_ : Rg8 w r t
  bel : Below w.heap.size w W
  ex : ∃ na lua lva lub lvb a ua va b ub vb A, Pl8 W vma na a ∧ Pl8 W vua lua ua ∧ Pl8 W vva lva va ∧ Pl8 W vmb nb b ∧ Pl8 W vub lub ub ∧ Pl8 W vvb lvb vb ∧ Euc 285 8 n V R a ua va b ub vb A ∧ d ≤ A ∧ Dg ua (n - A + 1) ∧ Dg ub (n - A + 1)
theorem lit1_8 (W : World) : Pl8 (W.alloc (.cells #[.int .u8 1] 5)) (.slice (some ⟨W.heap.size, 0, none⟩) 1 1) 1 po := by
  have h : Rw (W.alloc (.cells #[.int .u8 1] 5)) W.heap.size 1 po := ⟨by decide, fun i hi => by unfold po; split <;> decide, _, heap_alloc_new _ _, rfl, fun i hi => by
    match i, hi with
    | 0, _ => rfl⟩
  exact ⟨h.rb0, po_tp.1, fld8.el_po, .inr (by decide)⟩
/-- the first two links. -/
theorem pt_a {w : World} {r t n d lu : Nat} {v u : Value} {V R : Nat → Nat} (hr : Rg8 w r t) (hV : Pl8 w v (n + 1) V) (tV : Tp V n) (hR : Pl8 w u lu R) (dR : Dg R n) (hn : n ≤ 256) (hd : d ≤ n) :
    Calls Try.prog 50 #[v] w fun e W1 => e = .returned v ∧
    Calls Try.prog 49 #[v] W1 fun e W2 => ∃ g1, e = .returned (.slice (some ⟨g1, 0, none⟩) (n + 1) (n + 1)) ∧
    Calls Try.prog 50 #[u] ((W2.alloc (.cells #[.int .u8 1] 5)).alloc (.cells #[.slice (some ⟨g1, 0, none⟩) (n + 1) (n + 1), .slice (some ⟨W2.heap.size, 0, none⟩) 1 1, .slice none 0 0] 96)) fun e W3 => e = .returned u ∧
    Calls Try.prog 49 #[u] W3 fun e W4 => ∃ g2, e = .returned (.slice (some ⟨g2, 0, none⟩) lu lu) ∧
    ((W4.alloc (.cells #[.int .u8 1] 5)).alloc (.cells #[.slice (some ⟨g2, 0, none⟩) lu lu, .slice none 0 0, .slice (some ⟨W4.heap.size, 0, none⟩) 1 1] 96)).cell? ⟨W2.heap.size + 1, 0, none⟩ = some (.slice (some ⟨g1, 0, none⟩) (n + 1) (n + 1)) ∧
    Calls Try.prog 48 #[.slice (some ⟨g1, 0, none⟩) (n + 1) (n + 1)] ((W4.alloc (.cells #[.int .u8 1] 5)).alloc (.cells #[.slice (some ⟨g2, 0, none⟩) lu lu, .slice none 0 0, .slice (some ⟨W4.heap.size, 0, none⟩) 1 1] 96)) fun e W5 => e = .returned (.int .i64 (n : Int)) ∧
    Pt8 w W5 r t (W2.heap.size + 1) (W4.heap.size + 1) n d V R (.slice (some ⟨g1, 0, none⟩) (n + 1) (n + 1)) (.slice (some ⟨W2.heap.size, 0, none⟩) 1 1) (.slice none 0 0) (.slice (some ⟨g2, 0, none⟩) lu lu) (.slice none 0 0) (.slice (some ⟨W4.heap.size, 0, none⟩) 1 1) lu := by
  have hlu : lu ≤ n := hR.len dR
  obtain ⟨va, vc, rfl, -⟩ := rb_slice8 hV.rb
  obtain ⟨ua, uc, rfl, -⟩ := rb_slice8 hR.rb
  refine (trim8 va (n + 1) vc V w hV (by omega)).mono ?_
  rintro e W1 ⟨rfl, q1, rfl⟩
  refine ⟨rfl, (copied8 _ (n + 1) V (w.drewN q1) (hV.drewN q1).rb (by omega)).mono ?_⟩
  rintro e W2 ⟨rfl, r2, b2⟩
  refine ⟨_, rfl, ?_⟩
  have b2w : Below w.heap.size w W2 := (below_drewN (Below.refl _ _) q1).trans b2
  have p2 : Pl8 W2 (.slice (some ⟨w.heap.size, 0, none⟩) (n + 1) (n + 1)) (n + 1) V := ⟨r2.rb0, hV.dg, hV.el, hV.top⟩
  obtain ⟨X1, x1⟩ : ∃ X1, X1 = W2.alloc (.cells #[.int .u8 1] 5) := ⟨_, rfl⟩
  have bx1 : Below W2.heap.size W2 X1 := by rw [x1]; exact (Below.refl _ _).alloc (Nat.le_refl _) _
  have sx1 : X1.heap.size = W2.heap.size + 1 := by rw [x1]; simp
  have l1 : Pl8 X1 (.slice (some ⟨W2.heap.size, 0, none⟩) 1 1) 1 po := by rw [x1]; exact lit1_8 W2
  obtain ⟨X2, x2⟩ : ∃ X2, X2 = X1.alloc (.cells #[.slice (some ⟨w.heap.size, 0, none⟩) (n + 1) (n + 1), .slice (some ⟨W2.heap.size, 0, none⟩) 1 1, .slice none 0 0] 96) := ⟨_, rfl⟩
  have bx2 : Below X1.heap.size X1 X2 := by rw [x2]; exact (Below.refl _ _).alloc (Nat.le_refl _) _
  have ra : X2.heap[W2.heap.size + 1]? = some (.cells #[.slice (some ⟨w.heap.size, 0, none⟩) (n + 1) (n + 1), .slice (some ⟨W2.heap.size, 0, none⟩) 1 1, .slice none 0 0] 96 (0, 0)) := by rw [← sx1, x2]; exact heap_alloc_new _ _
  have b2x : Below W2.heap.size W2 X2 := bx1.trans (bx2.mono bx1.size)
  have bwx : Below w.heap.size w X2 := b2w.trans (b2x.mono b2w.size)
  show Calls _ _ _ ((W2.alloc _).alloc (.cells #[.slice (some ⟨w.heap.size, 0, none⟩) (n + 1) (n + 1), _, _] _)) _
  rw [← x1, ← x2]
  refine (trim8 ua lu uc R X2 (hR.below bwx) (by omega)).mono ?_
  rintro e W3 ⟨rfl, q3, rfl⟩
  refine ⟨rfl, (copied8 _ lu R (X2.drewN q3) ((hR.below bwx).drewN q3).rb (by omega)).mono ?_⟩
  rintro e W4 ⟨rfl, r4, b4⟩
  refine ⟨_, rfl, ?_⟩
  have bx4 : Below X2.heap.size X2 W4 := (below_drewN (Below.refl _ _) q3).trans b4
  have p4 : Pl8 W4 (.slice (some ⟨X2.heap.size, 0, none⟩) lu lu) lu R := ⟨r4.rb0, hR.dg, hR.el, hR.top⟩
  obtain ⟨Y1, y1⟩ : ∃ Y1, Y1 = W4.alloc (.cells #[.int .u8 1] 5) := ⟨_, rfl⟩
  have by1 : Below W4.heap.size W4 Y1 := by rw [y1]; exact (Below.refl _ _).alloc (Nat.le_refl _) _
  have sy1 : Y1.heap.size = W4.heap.size + 1 := by rw [y1]; simp
  have l2 : Pl8 Y1 (.slice (some ⟨W4.heap.size, 0, none⟩) 1 1) 1 po := by rw [y1]; exact lit1_8 W4
  obtain ⟨Y2, y2⟩ : ∃ Y2, Y2 = Y1.alloc (.cells #[.slice (some ⟨X2.heap.size, 0, none⟩) lu lu, .slice none 0 0, .slice (some ⟨W4.heap.size, 0, none⟩) 1 1] 96) := ⟨_, rfl⟩
  have by2 : Below Y1.heap.size Y1 Y2 := by rw [y2]; exact (Below.refl _ _).alloc (Nat.le_refl _) _
  have rb : Y2.heap[W4.heap.size + 1]? = some (.cells #[.slice (some ⟨X2.heap.size, 0, none⟩) lu lu, .slice none 0 0, .slice (some ⟨W4.heap.size, 0, none⟩) 1 1] 96 (0, 0)) := by rw [← sy1, y2]; exact heap_alloc_new _ _
  have b4y : Below W4.heap.size W4 Y2 := by1.trans (by2.mono by1.size)
  have bxy : Below X2.heap.size X2 Y2 := bx4.trans (b4y.mono bx4.size)
  have sx2 : W2.heap.size + 1 < X2.heap.size := (Array.getElem?_eq_some_iff.1 ra).1
  have ra' : Y2.heap[W2.heap.size + 1]? = _ := (bxy.block _ sx2).trans ra
  have bwy : Below w.heap.size w Y2 := bwx.trans (bxy.mono bwx.size)
  have pV : Pl8 Y2 (.slice (some ⟨w.heap.size, 0, none⟩) (n + 1) (n + 1)) (n + 1) V := (p2.below b2x).below bxy
  show ((W4.alloc _).alloc (.cells #[.slice (some ⟨X2.heap.size, 0, none⟩) lu lu, _, _] _)).cell? _ = some (.slice (some ⟨w.heap.size, 0, none⟩) (n + 1) (n + 1)) ∧ Calls _ _ _ ((W4.alloc _).alloc (.cells #[.slice (some ⟨X2.heap.size, 0, none⟩) lu lu, _, _] _)) _
  rw [← y1, ← y2]
  refine ⟨by rw [cell_of_row _ _ 0 _ _ _ ra']; rfl, (degree8 _ (n + 1) V Y2 pV.rb (by omega)).mono ?_⟩
  rintro e W5 ⟨dd, he, hz, q5, rfl⟩
  have hdd : dd = n + 1 := hz.all hV.top
  refine ⟨by rw [he, hdd]; congr 2; omega, ⟨ra', rb, ?_, by have := b2w.size; omega, by have := bwx.size; have := bx4.size; omega, (hr.below bwy).drewN q5, hr, below_drewN bwy q5, n + 1, 1, 0, 0, 1, V, po, pz, R, pz, po, n, pV.drewN q5, (((l1.below bx2).below bxy).drewN q5), (pl8_nil _), ((p4.below b4y).drewN q5), (pl8_nil _), ((l2.below by2).drewN q5), fld8.euc_start ⟨hV.el, _, hV.dg⟩ tV hR.el dR, hd, by rw [Nat.sub_self]; exact po_tp.1, Dg.pz _⟩⟩
  have := bx4.size; omega
end Go.Proofs.Ytfhgamaakkoplaa
