import Derived.Test.YtgkpoidjiiinnaaGj2
import Derived.Test.YtgkpoidjiiinnaaMj7
import Derived.Test.YtgkpoidjiiinnaaMyc
import Derived.Test.YtgkpoidjiiinnaaMyd
namespace Go.Proofs.Ytgkpoidjiiinnaa
open Go.RowKit Gf2
set_option linter.unusedVariables false

/-- two rows of one. -/
def lit21 (W : World) (a b : Array Value) : World := ((W.alloc (.cells a 5)).alloc (.cells b 5)).alloc (.cells #[.slice (some ⟨W.heap.size, 0, none⟩) 1 1, .slice (some ⟨W.heap.size + 1, 0, none⟩) 1 1] 31)
theorem lit21_lb {W : World} {a b : Array Value} {F : Nat → Nat → Nat} (ha : a.size = 1) (hb : b.size = 1) (hF : ∀ i j, i < 2 → j < 1 → F i j < 256)
    (ea : ∀ j, j < 1 → a[j]? = some (.int .u8 (F 0 j : Nat))) (eb : ∀ j, j < 1 → b[j]? = some (.int .u8 (F 1 j : Nat))) :
    Lb (lit21 W a b) (.slice (some ⟨W.heap.size + 1 + 1, 0, none⟩) 2 2) 2 (fun _ => 1) F ∧ Below W.heap.size W (lit21 W a b) := by
  have r0 := new_rw (W := W) (F := F 0) ha (by decide) (fun j hj => hF 0 j (by decide) hj) ea
  have s0 : (W.alloc (.cells a 5)).heap.size = W.heap.size + 1 := by simp
  have b0 : Below W.heap.size W (W.alloc (.cells a 5)) := (Below.refl _ _).alloc (Nat.le_refl _) _
  have r1 := new_rw (W := W.alloc (.cells a 5)) (F := F 1) hb (by decide) (fun j hj => hF 1 j (by decide) hj) eb
  have r0 := rw_alloc r0 (.cells b 5)
  have b1 := b0.alloc (by omega) (.cells b 5)
  have s1 : ((W.alloc (.cells a 5)).alloc (.cells b 5)).heap.size = W.heap.size + 1 + 1 := by simp
  rw [s0] at r1
  have hl : (lit21 W a b).rowIs (W.heap.size + 1 + 1) 31 2 (fun i => .slice (some ⟨W.heap.size + i, 0, none⟩) 1 1) := by
    rw [← s1]
    refine ⟨_, heap_alloc_new _ _, rfl, fun i hi => ?_⟩
    match i, hi with
    | 0, _ => rfl
    | 1, _ => rfl
  have r0 := rw_alloc r0 (.cells #[.slice (some ⟨W.heap.size, 0, none⟩) 1 1, .slice (some ⟨W.heap.size + 1, 0, none⟩) 1 1] 31)
  have r1 := rw_alloc r1 (.cells #[.slice (some ⟨W.heap.size, 0, none⟩) 1 1, .slice (some ⟨W.heap.size + 1, 0, none⟩) 1 1] 31)
  have rows : ∀ i, i < 2 → Rw (lit21 W a b) (W.heap.size + i) 1 (F i) := fun i hi => by
    match i, hi with
    | 0, _ => exact r0
    | 1, _ => exact r1
  refine ⟨⟨fun i => .slice (some ⟨W.heap.size + i, 0, none⟩) 1 1, ⟨by decide, _, _, rfl, Nat.le_refl _, by decide, fun _ => ⟨_, _, rfl, ⟨hl.lt, fun h => h⟩, fun i hi => ?_⟩⟩, fun i hi => ?_⟩, b1.alloc (by omega) _⟩
  · rw [Nat.zero_add]; exact hl.cell hi
  · exact (rows i hi).re (Nat.le_refl _) (Nat.le_refl _) (rows i hi).1 (fun h => h)
theorem gen11_first : ∀ i, i < 2 → ∀ j, j < 1 → gen11 0 1 i j = 1 := by decide +kernel
/-- the first example. -/
theorem any_first (w0 w : World) (hw : Below w0.heap.size w0 w) : Calls Try.prog 8 #[.int .i64 0, .int .i64 1, .int .i64 1] w fun e W1 => ∃ v, e = .returned (.tuple #[v, .int .i64 0]) ∧
    Calls Try.prog 9 #[v, .slice (some ⟨W1.heap.size + 1 + 1, 0, none⟩) 2 2] (((W1.alloc (.cells #[.int .u8 1] 5)).alloc (.cells #[.int .u8 1] 5)).alloc (.cells #[.slice (some ⟨W1.heap.size, 0, none⟩) 1 1, .slice (some ⟨W1.heap.size + 1, 0, none⟩) 1 1] 31)) fun e W2 => e = .returned (.bool true) ∧ Below w0.heap.size w0 W2 := by
  refine (generator11_yes 0 1 1 w (.inl rfl) (by decide) (by decide) (by decide)).mono ?_
  rintro e W1 ⟨v, rfl, hG⟩
  refine ⟨v, rfl, ?_⟩
  obtain ⟨k1, k2⟩ := lit21_lb (W := W1) (a := #[.int .u8 1]) (b := #[.int .u8 1]) (F := fun _ _ => 1) rfl rfl (fun i j _ _ => (by decide : 1 < 256)) (fun i hi => by
      match i, hi with
      | 0, _ => rfl) (fun i hi => by
      match i, hi with
      | 0, _ => rfl)
  refine (same11_true v _ 2 1 (gen11 0 1) (fun _ _ => 1) _ (hG.lb.below k2) k1 (by decide) (by decide) (by decide) gen11_first).mono ?_
  rintro e W2 ⟨rfl, q, rfl⟩
  have h1 := hw.trans (hG.bel.mono hw.size)
  exact ⟨rfl, h1.trans ((below_drewN k2 q).mono h1.size)⟩
/-- what there is behind the first comparison. -/
structure Fb (w W : World) (g rv a : Value) (k n : Nat) (T : Nat → Nat → Nat) (R : Nat → Nat) : Prop where
  bel : Below w.heap.size w W
  g : Lb W g n (fun _ => k) T
  r : Qi W rv k (fun i => (R i : Int))
  up : Up11 n k R
  a : Lb W a k (fun _ => k) (fun i j => T (R i) j)
  lt : ∀ i j, T i j < 256
  full : (elm k (fun i j => T (R i) j) k).t = k
theorem Fb.step {w W W' : World} {g rv a : Value} {k n : Nat} {T : Nat → Nat → Nat} {R : Nat → Nat} (h : Fb w W g rv a k n T R) (hb : Below W.heap.size W W') : Fb w W' g rv a k n T R := ⟨h.bel.trans (hb.mono h.bel.size), h.g.below hb, h.r.below hb, h.up, h.a.below hb, h.lt, h.full⟩
theorem any_a {w W : World} {f : Int} {k m np : Nat} {pv : Value} {F : Nat → Int} (hb : Below w.heap.size w W) (h : Qi w pv np F) (hf : f = 0 ∨ f = 1) (h1 : 1 ≤ k) (h2 : 1 ≤ m) (h3 : k + m ≤ 256) :
    Calls Try.prog 8 #[.int .i64 f, .int .i64 (k : Int), .int .i64 (m : Int)] W fun e W1 => ∃ gb go gc, e = .returned (.tuple #[.slice (some ⟨gb, go, none⟩) (k + m) gc, .int .i64 0]) ∧
    Calls Try.prog 11 #[.int .i64 ((k + m : Nat) : Int), .int .i64 (k : Int), pv] W1 fun e W2 => ∃ rv, e = .returned rv ∧
    Calls Try.prog 12 #[.slice (some ⟨gb, go, none⟩) (k + m) gc, rv] W2 fun e W3 => ∃ a, e = .returned (.tuple #[a, .int .i64 0]) ∧
    Calls Try.prog 13 #[a] W3 fun e W4 => ∃ b, e = .returned (.tuple #[b, .int .i64 0]) ∧
    Calls Try.prog 14 #[.int .i64 (k : Int)] W4 fun e W5 => ∃ i, e = .returned (.tuple #[i, .int .i64 0]) ∧
    Calls Try.prog 15 #[b, a] W5 fun e W6 => ∃ p, e = .returned (.tuple #[p, .int .i64 0]) ∧
    Calls Try.prog 9 #[p, i] W6 fun e W7 => e = .returned (.bool true) ∧ ∃ R, Fb w W7 (.slice (some ⟨gb, go, none⟩) (k + m) gc) rv a k (k + m) (bdd (k + m) k (gen11 f k)) R := by
  refine (generator11_yes f k m W hf h1 h2 h3).mono ?_
  rintro e W1 ⟨g, rfl, hG⟩
  obtain ⟨gb, go, gc, rfl⟩ := hG.lb.head (by omega)
  obtain ⟨hg, hlt⟩ := hG.lb.bdd
  have b1 := hb.trans (hG.bel.mono hb.size)
  refine ⟨_, _, _, rfl, (chosen11 (k + m) k np pv F W1 (h.below b1) h1 (by omega) h3).mono ?_⟩
  rintro e W2 ⟨rv, R, rfl, hR⟩
  have b2 := b1.trans (hR.bel.mono b1.size)
  have full := any_rows (f := f) (k := k) (n := k + m) (R := R) (T := bdd (k + m) k (gen11 f k)) (fun i hi j hj => (bdd_in hi hj).symm) hf (by omega) (by omega) hR.up.1 (fun i j hj hi => Nat.ne_of_gt (hR.up.2 j i hj hi)) (fun i j => hlt _ _)
  refine ⟨rv, rfl, (pick10_yes _ rv (k + m) k k _ R W2 (hg.below hR.bel) hR.qi (by omega) (by omega) h1 (by omega) h1 (by omega) (fun i hi => hR.up.1 i hi)).mono ?_⟩
  rintro e W3 ⟨a, rfl, hA⟩
  refine ⟨a, rfl, (invert10_yes a k _ W3 hA.lb h1 (by omega) (fun i j => hlt _ _) full).mono ?_⟩
  rintro e W4 ⟨b, rfl, hB⟩
  refine ⟨b, rfl, (ident11 k W4 h1 (by omega)).mono ?_⟩
  rintro e W5 ⟨rfl, hI⟩
  refine ⟨_, rfl, (mul10_yes b a k k k _ _ W5 (hB.lb.below hI.2) ((hA.lb.below hB.2).below hI.2) h1 (by omega) h1 (by omega) h1 (by omega)).mono ?_⟩
  rintro e W6 ⟨p, rfl, hP⟩
  refine ⟨p, rfl, (same11_true p _ k k _ idm W6 hP.lb (hI.lb.below hP.2) h1 (by omega) h1 (fun i hi j hj => (sol_inverse (fun i j => hlt _ _) full).1 i j hi hj)).mono ?_⟩
  rintro e W7 ⟨rfl, q, rfl⟩
  refine ⟨rfl, R, ?_⟩
  have b7 : Below W6.heap.size W6 (W6.drewN q) := below_drewN (Below.refl _ _) q
  have c3 := hA.2
  have f3 : Fb w W3 _ rv a k (k + m) (bdd (k + m) k (gen11 f k)) R := ⟨b2.trans (hA.2.mono b2.size), (hg.below hR.bel).below hA.2, hR.qi.below hA.2, hR.up, hA.lb, hlt, full⟩
  exact (((f3.step hB.2).step hI.2).step hP.2).step b7
theorem any_b {w W8 : World} {f : Int} {k m gb go gc : Nat} {rv av a : Value} {R : Nat → Nat} (h : Fb w W8 (.slice (some ⟨gb, go, none⟩) (k + m) gc) rv a k (k + m) (bdd (k + m) k (gen11 f k)) R) (hv : Qi W8 av (k + m) (fun i => (i : Int))) (hf : f = 0 ∨ f = 1) (h1 : 1 ≤ k) (h2 : 1 ≤ m) (h3 : k + m ≤ 256) :
    Calls Try.prog 16 #[.int .i64 f, .int .i64 (k : Int), .int .i64 (m : Int), rv, av] W8 fun e W9 => ∃ d, e = .returned (.tuple #[d, .int .i64 0]) ∧
    Calls Try.prog 15 #[d, a] W9 fun e W10 => ∃ p, e = .returned (.tuple #[p, .int .i64 0]) ∧
    Calls Try.prog 9 #[p, .slice (some ⟨gb, go, none⟩) (k + m) gc] W10 fun e W11 => e = .returned (.bool true) ∧ Below w.heap.size w W11 := by
  refine (decoder11_yes f k m k (k + m) R (fun i => i) (bdd (k + m) k (gen11 f k)) (fun i hi j hj => (bdd_in hi hj).symm) rv av W8 hf h1 h2 h3 h.r hv (Nat.le_refl _) (by omega) (by omega) h3 h.up.1 h.up.2 (fun i hi => hi) (fun i j hij _ => hij) h.lt h.full).mono ?_
  rintro e W9 ⟨d, rfl, hD⟩
  have f9 := h.step hD.bel
  refine ⟨d, rfl, (mul10_yes d a (k + m) k k _ _ W9 hD.lb f9.a (by omega) h3 h1 (by omega) h1 (by omega)).mono ?_⟩
  rintro e W10 ⟨p, rfl, hP⟩
  have f10 := f9.step hP.2
  refine ⟨p, rfl, (same11_true p _ (k + m) k _ _ W10 hP.lb f10.g (by omega) (by omega) h1 (fun i hi j hj => ?_)).mono ?_⟩
  · show mm k (mm k (fun i j => bdd (k + m) k (gen11 f k) i j) (sol k (fun i j => bdd (k + m) k (gen11 f k) (R i) j) idm)) (fun i j => bdd (k + m) k (gen11 f k) (R i) j) i j = bdd (k + m) k (gen11 f k) i j
    rw [← mm_assoc, mm_congr (A' := fun i j => bdd (k + m) k (gen11 f k) i j) (B' := idm) (fun t _ => rfl) (fun t ht => (sol_inverse (fun i j => h.lt _ _) h.full).1 t j ht hj), mm_idm hj (h.lt _ _)]
  · rintro e W11 ⟨rfl, q, rfl⟩
    exact ⟨rfl, below_drewN f10.bel q⟩
end Go.Proofs.Ytgkpoidjiiinnaa
