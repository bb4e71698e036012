import Derived.Test.YtdnjddnjaekgeabEbl
namespace Go.Proofs.Ytdnjddnjaekgeab
open Go.RowKit Gf2
set_option linter.unusedVariables false

theorem ker_alloc {W : World} {p : Addr} {lo hi : Nat} (h : Ker W p lo hi) (o : Obj) : Ker (W.alloc o) p lo hi :=
  h.keep (by have := h.hi; simp; omega) (fun b _ hb => Below.heap_alloc W o b (by have := h.hi; omega))
theorem ker_only {W W' : World} {p : Addr} {lo hi g : Nat} (h : Ker W p lo hi) (ho : Only g W W') (hg : g < lo ∨ hi ≤ g) : Ker W' p lo hi :=
  h.keep (by rw [ho.2.1]; exact h.hi) (fun b h1 h2 => ho.2.2 b (by omega))
theorem ker_below {W W' : World} {p : Addr} {lo hi : Nat} (h : Ker W p lo hi) (hb : Below W.heap.size W W') : Ker W' p lo hi :=
  h.keep (Nat.le_trans h.hi hb.size) (fun b h1 h2 => hb.block b (by have := h.hi; omega))
/-- what holds while a kernel and a list are at work: the kernel p of the world w, the list d in row g. -/
def Wk (w : World) (p : Addr) (hi : Nat) (g N : Nat) (F : Nat → Nat) (W : World) : Prop := Ker W p w.heap.size hi ∧ hi ≤ g ∧ Rw W g N F ∧ Below w.heap.size w W

theorem awk_mul (w w1 : World) (p : Addr) (m : Nat) (hk : Ker w1 p w.heap.size w1.heap.size) (hb : Below w.heap.size w w1) :
    Calls Try.prog 10 #[.pointer (some p), .int .u8 2, .slice (some ⟨w1.heap.size, 0, none⟩) 3 3, .slice (some ⟨w1.heap.size + 1, 0, none⟩) 3 3]
      (((w1.drewN m).alloc (.cells #[.int .u8 9, .int .u8 9, .int .u8 9] 5)).alloc (.cells #[.int .u8 1, .int .u8 2, .int .u8 128] 5)) fun e w' =>
      e = .returned (.int .i64 0) ∧ Wk w p w1.heap.size w1.heap.size 3 (fun i => [2, 4, 29].getD i 0) w' := by
  have r1 := lit_rw [9, 9, 9] (w1.drewN m) (by decide) (by decide)
  have r2 := lit_rw [1, 2, 128] ((w1.drewN m).alloc (.cells #[.int .u8 9, .int .u8 9, .int .u8 9] 5)) (by decide) (by decide)
  have r1' := rw_alloc r1 (.cells #[.int .u8 1, .int .u8 2, .int .u8 128] 5)
  have s1 : ((w1.drewN m).alloc (.cells #[.int .u8 9, .int .u8 9, .int .u8 9] 5)).heap.size = w1.heap.size + 1 := by simp
  rw [s1] at r2
  have k1 := ker_alloc (ker_alloc (hk.drewN m) (.cells #[.int .u8 9, .int .u8 9, .int .u8 9] 5)) (.cells #[.int .u8 1, .int .u8 2, .int .u8 128] 5)
  have b1 := ((below_drewN hb m).alloc hb.size (.cells #[.int .u8 9, .int .u8 9, .int .u8 9] 5)).alloc (by have := hb.size; simp; omega) (.cells #[.int .u8 1, .int .u8 2, .int .u8 128] 5)
  refine (kmul_far p _ _ 2 3 w1.heap.size 0 3 _ _ _ _ 3 3 _ k1 (by decide) (by decide) (.inr (Nat.le_refl _)) r1' (fun _ => ⟨rfl, Nat.le_refl _⟩) (r2.far0 (by omega))).mono fun e w' ⟨h1, h2, h3⟩ => ?_
  refine ⟨h1, ker_only k1 h2 (.inr (Nat.le_refl _)), Nat.le_refl _, h3.congr (fun i hi => ?_), b1.trans (h2.below hb.size)⟩
  match i, hi with
  | 0, _ => decide +kernel
  | 1, _ => decide +kernel
  | 2, _ => decide +kernel
  | i + 3, h => exact absurd h (by show ¬ i + 3 < 3; omega)

theorem Wk.alloc {w W : World} {p : Addr} {hi g N : Nat} {F : Nat → Nat} (h : Wk w p hi g N F W) (o : Obj) : Wk w p hi g N F (W.alloc o) :=
  ⟨ker_alloc h.1 o, h.2.1, rw_alloc h.2.2.1 o, h.2.2.2.alloc h.2.2.2.size o⟩
theorem Wk.drewN {w W : World} {p : Addr} {hi g N : Nat} {F : Nat → Nat} (h : Wk w p hi g N F W) (m : Nat) : Wk w p hi g N F (W.drewN m) :=
  ⟨h.1.drewN m, h.2.1, h.2.2.1.drewN m, below_drewN h.2.2.2 m⟩
theorem awk_add (w W : World) (p : Addr) (hi g : Nat) (h : Wk w p hi g 3 (fun i => [2, 4, 29].getD i 0) W) :
    Calls Try.prog 13 #[.pointer (some p), .int .u8 2, .slice (some ⟨g, 0, none⟩) 3 3, .slice (some ⟨W.heap.size, 0, none⟩) 3 3] (W.alloc (.cells #[.int .u8 1, .int .u8 2, .int .u8 1] 5)) fun e w' =>
      e = .returned (.int .i64 0) ∧ Wk w p hi g 3 (fun i => [0, 0, 31].getD i 0) w' := by
  have r2 := lit_rw [1, 2, 1] W (by decide) (by decide)
  have h' := h.alloc (.cells #[.int .u8 1, .int .u8 2, .int .u8 1] 5)
  have hl := h.2.2.1.lt
  have hg := h.2.1
  have hw := h.1.lo
  refine (kadd_far p _ _ 2 3 g 0 3 _ _ _ _ 3 3 _ h'.1 (by decide) (by decide) (.inr h.2.1) h'.2.2.1 (fun _ => ⟨rfl, Nat.le_refl _⟩) (r2.far0 (by omega))).mono fun e w' ⟨h1, h2, h3⟩ => ?_
  refine ⟨h1, ker_only h'.1 h2 (.inr h.2.1), h.2.1, h3.congr (fun i hi => ?_), h'.2.2.2.trans (h2.below (by omega))⟩
  match i, hi with
  | 0, _ => decide +kernel
  | 1, _ => decide +kernel
  | 2, _ => decide +kernel
  | i + 3, h => exact absurd h (by show ¬ i + 3 < 3; omega)

end Go.Proofs.Ytdnjddnjaekgeab
