import Derived.Test.YtefhlnplegagfabEbl
namespace Go.Proofs.Ytefhlnplegagfab
open Go.RowKit Gf2
set_option linter.unusedVariables false

theorem Rb.cut {w : World} {x : Option Addr} {n m cx : Nat} {S : Nat → Nat} (h : Rb w (.slice x m cx) m S) (hn : n ≤ m) (hc : n ≤ cx) : Rb w (.slice x n cx) n S := by
  obtain ⟨b1, b2, a, c', b3, b5, b6, b4⟩ := h
  cases b3
  refine ⟨by omega, fun i hi => b2 i (by omega), x, cx, rfl, hc, b6, fun h0 => ?_⟩
  obtain ⟨b, o, e, hl, hcl⟩ := b4 (by omega)
  exact ⟨b, o, e, hl, fun i hi => hcl i (by omega)⟩
theorem Rb.drop {w : World} {b o' n o cx : Nat} {S : Nat → Nat} (h : Rb w (.slice (some ⟨b, o', none⟩) n cx) n S) (ho : o ≤ n) : Rb w (.slice (some ⟨b, o' + o, none⟩) (n - o) (cx - o)) (n - o) (fun i => S (o + i)) := by
  obtain ⟨b1, b2, a, c', b3, b5, b6, b4⟩ := h
  cases b3
  refine ⟨by omega, fun i hi => b2 _ (by omega), _, _, rfl, by omega, by omega, fun h0 => ?_⟩
  obtain ⟨b', p', e, hl, hcl⟩ := b4 (by omega)
  cases e
  exact ⟨b, o' + o, rfl, hl, fun i hi => by rw [Nat.add_assoc]; exact hcl (o + i) (by omega)⟩
/-- a row that is written out. -/
theorem lit_rw (l : List Nat) (W : World) (hl : ∀ x ∈ l, x < 256) (hn : l.length ≤ 1000) : Rw (W.alloc (.cells (l.map (fun n : Nat => Value.int .u8 (n : Int))).toArray 5)) W.heap.size l.length (fun i => l.getD i 0) := by
  refine ⟨by unfold big; omega, fun i hi => ?_, _, heap_alloc_new _ _, by simp, fun i hi => ?_⟩
  · simp only [List.getD_eq_getElem?_getD, List.getElem?_eq_getElem hi, Option.getD_some]
    exact hl _ (List.getElem_mem _)
  · simp [List.getD_eq_getElem?_getD, hi]
theorem rw_alloc {W : World} {g N : Nat} {F : Nat → Nat} (h : Rw W g N F) (o : Obj) : Rw (W.alloc o) g N F := h.of_block (Below.heap_alloc W o g h.lt)
theorem ker_alloc {W : World} {p : Addr} {lo hi : Nat} (h : Ker W p lo hi) (o : Obj) : Ker (W.alloc o) p lo hi :=
  h.keep (by have := h.hi; simp; omega) (fun b _ hb => Below.heap_alloc W o b (by have := h.hi; omega))
theorem ker_only {W W' : World} {p : Addr} {lo hi g : Nat} (h : Ker W p lo hi) (ho : Only g W W') (hg : g < lo ∨ hi ≤ g) : Ker W' p lo hi :=
  h.keep (by rw [ho.2.1]; exact h.hi) (fun b h1 h2 => ho.2.2 b (by omega))
theorem ker_below {W W' : World} {p : Addr} {lo hi : Nat} (h : Ker W p lo hi) (hb : Below W.heap.size W W') : Ker W' p lo hi :=
  h.keep (Nat.le_trans h.hi hb.size) (fun b h1 h2 => hb.block b (by have := h.hi; omega))
theorem rw_below {W W' : World} {g N : Nat} {F : Nat → Nat} (h : Rw W g N F) (hb : Below W.heap.size W W') : Rw W' g N F := h.of_block (hb.block g h.lt)
theorem below_drewN {B : Nat} {W W' : World} (h : Below B W W') (m : Nat) : Below B W (W'.drewN m) := ⟨h.os, h.tape, h.output, h.size, h.block⟩

/-- what holds while a kernel and a list are at work: the kernel p of the world w, the list d in row g. -/
def Wk (w : World) (p : Addr) (hi : Nat) (g N : Nat) (F : Nat → Nat) (W : World) : Prop := Ker W p w.heap.size hi ∧ hi ≤ g ∧ Rw W g N F ∧ Below w.heap.size w W

theorem awk_mul (w w1 : World) (p : Addr) (m : Nat) (hk : Ker w1 p w.heap.size w1.heap.size) (hb : Below w.heap.size w w1) :
    Calls Try.prog 13 #[.pointer (some p), .int .u8 2, .slice (some ⟨w1.heap.size, 0, none⟩) 3 3, .slice (some ⟨w1.heap.size + 1, 0, none⟩) 3 3]
      (((w1.drewN m).alloc (.cells #[.int .u8 9, .int .u8 9, .int .u8 9] 5)).alloc (.cells #[.int .u8 1, .int .u8 2, .int .u8 128] 5)) fun e w' =>
      e = .returned (.int .i64 0) ∧ Wk w p w1.heap.size w1.heap.size 3 (fun i => [2, 4, 29].getD i 0) w' := by
  have r1 := lit_rw [9, 9, 9] (w1.drewN m) (by decide) (by decide)
  have r2 := lit_rw [1, 2, 128] ((w1.drewN m).alloc (.cells #[.int .u8 9, .int .u8 9, .int .u8 9] 5)) (by decide) (by decide)
  have r1' := rw_alloc r1 (.cells #[.int .u8 1, .int .u8 2, .int .u8 128] 5)
  have s1 : ((w1.drewN m).alloc (.cells #[.int .u8 9, .int .u8 9, .int .u8 9] 5)).heap.size = w1.heap.size + 1 := by simp
  rw [s1] at r2
  have k1 := ker_alloc (ker_alloc (hk.drewN m) (.cells #[.int .u8 9, .int .u8 9, .int .u8 9] 5)) (.cells #[.int .u8 1, .int .u8 2, .int .u8 128] 5)
  have b1 := ((below_drewN hb m).alloc hb.size (.cells #[.int .u8 9, .int .u8 9, .int .u8 9] 5)).alloc (by have := hb.size; simp; omega) (.cells #[.int .u8 1, .int .u8 2, .int .u8 128] 5)
  refine (kmul_far p _ _ 2 3 w1.heap.size 0 3 _ _ _ _ 3 3 _ k1 (by decide) (by decide) (.inr (Nat.le_refl _)) r1' (fun _ => ⟨rfl, Nat.le_refl _⟩) (r2.far0 (by omega))).mono fun e w' ⟨h1, h2, h3⟩ => ?_
  refine ⟨h1, ker_only k1 h2 (.inr (Nat.le_refl _)), Nat.le_refl _, h3.congr (fun i hi => ?_), b1.trans (h2.below hb.size)⟩
  match i, hi with
  | 0, _ => decide +kernel
  | 1, _ => decide +kernel
  | 2, _ => decide +kernel
  | i + 3, h => exact absurd h (by show ¬ i + 3 < 3; omega)

theorem Wk.alloc {w W : World} {p : Addr} {hi g N : Nat} {F : Nat → Nat} (h : Wk w p hi g N F W) (o : Obj) : Wk w p hi g N F (W.alloc o) :=
  ⟨ker_alloc h.1 o, h.2.1, rw_alloc h.2.2.1 o, h.2.2.2.alloc h.2.2.2.size o⟩
theorem Wk.drewN {w W : World} {p : Addr} {hi g N : Nat} {F : Nat → Nat} (h : Wk w p hi g N F W) (m : Nat) : Wk w p hi g N F (W.drewN m) :=
  ⟨h.1.drewN m, h.2.1, h.2.2.1.drewN m, below_drewN h.2.2.2 m⟩
theorem awk_eq1 (w W : World) (p : Addr) (hi g : Nat) (h : Wk w p hi g 3 (fun i => [2, 4, 29].getD i 0) W) :
    Calls Try.prog 7 #[.slice (some ⟨g, 0, none⟩) 3 3, .slice (some ⟨W.heap.size, 0, none⟩) 3 3] (W.alloc (.cells #[.int .u8 2, .int .u8 4, .int .u8 29] 5)) fun e w' => e = .returned (.bool true) ∧ Wk w p hi g 3 (fun i => [2, 4, 29].getD i 0) w' :=
  (equal5_true _ _ 3 _ _ (h.alloc _).2.2.1.rb0 (lit_rw [2, 4, 29] W (by decide) (by decide)).rb0).mono fun e w' ⟨h1, m, h2⟩ => ⟨h1, by rw [h2]; exact (h.alloc _).drewN m⟩
theorem awk_eq2 (w W : World) (p : Addr) (hi g : Nat) (h : Wk w p hi g 3 (fun i => [0, 0, 31].getD i 0) W) :
    Calls Try.prog 7 #[.slice (some ⟨g, 0, none⟩) 3 3, .slice (some ⟨W.heap.size, 0, none⟩) 3 3] (W.alloc (.cells #[.int .u8 0, .int .u8 0, .int .u8 31] 5)) fun e w' => e = .returned (.bool true) ∧ Wk w p hi g 3 (fun i => [0, 0, 31].getD i 0) w' :=
  (equal5_true _ _ 3 _ _ (h.alloc _).2.2.1.rb0 (lit_rw [0, 0, 31] W (by decide) (by decide)).rb0).mono fun e w' ⟨h1, m, h2⟩ => ⟨h1, by rw [h2]; exact (h.alloc _).drewN m⟩
theorem awk_add (w W : World) (p : Addr) (hi g : Nat) (h : Wk w p hi g 3 (fun i => [2, 4, 29].getD i 0) W) :
    Calls Try.prog 14 #[.pointer (some p), .int .u8 2, .slice (some ⟨g, 0, none⟩) 3 3, .slice (some ⟨W.heap.size, 0, none⟩) 3 3] (W.alloc (.cells #[.int .u8 1, .int .u8 2, .int .u8 1] 5)) fun e w' =>
      e = .returned (.int .i64 0) ∧ Wk w p hi g 3 (fun i => [0, 0, 31].getD i 0) w' := by
  have r2 := lit_rw [1, 2, 1] W (by decide) (by decide)
  have h' := h.alloc (.cells #[.int .u8 1, .int .u8 2, .int .u8 1] 5)
  have hl := h.2.2.1.lt
  have hg := h.2.1
  have hw := h.1.lo
  refine (kadd_far p _ _ 2 3 g 0 3 _ _ _ _ 3 3 _ h'.1 (by decide) (by decide) (.inr h.2.1) h'.2.2.1 (fun _ => ⟨rfl, Nat.le_refl _⟩) (r2.far0 (by omega))).mono fun e w' ⟨h1, h2, h3⟩ => ?_
  refine ⟨h1, ker_only h'.1 h2 (.inr h.2.1), h.2.1, h3.congr (fun i hi => ?_), h'.2.2.2.trans (h2.below (by omega))⟩
  match i, hi with
  | 0, _ => decide +kernel
  | 1, _ => decide +kernel
  | 2, _ => decide +kernel
  | i + 3, h => exact absurd h (by show ¬ i + 3 < 3; omega)

set_option maxHeartbeats 2000000 in
set_option maxRecDepth 100000 in
theorem awake5_any (w : World) :
    Calls Try.prog 4 #[] w fun e w' => ∃ p hi, e = .returned (.pointer (some p)) ∧ Ker w' p w.heap.size hi ∧ Below w.heap.size w w' := by
  have c1 := tknew_any w
  have c2 := fun p hi W (h : Ker W p w.heap.size hi) => kprod_any p w.heap.size hi 2 128 W h (by decide) (by decide)
  have e1 : fm 285 2 128 = 29 := by decide +kernel
  rw [e1] at c2
  have c2 : ∀ p hi W, Ker W p w.heap.size hi → Calls Try.prog 11 #[.pointer (some p), .int .u8 2, .int .u8 128] W fun e w' => e = .returned (.int .u8 29) ∧ ∃ m, w' = W.drewN m := c2
  clear e1
  go_enter Try.func4, Try.ntmps4
  go_wp2_with (first | (go_at_call 5; ((with_reducible refine (c1).mono ?_); (rintro e w1 ⟨p, rfl, hk1, hb1⟩))) | (go_at_call 11; ((with_reducible refine (c2 _ _ _ hk1).mono ?_); (rintro e w2 ⟨rfl, m, rfl⟩))) | (go_at_call 13; ((with_reducible refine (awk_mul w w1 p m hk1 hb1).mono ?_); (rintro e w3 ⟨rfl, hW3⟩))) | (go_at_call 7; first | ((with_reducible refine (awk_eq1 w w3 p _ _ hW3).mono ?_); (rintro e w4 ⟨rfl, hW4⟩)) | ((with_reducible refine (awk_eq2 w w5 p _ _ hW5).mono ?_); (rintro e w6 ⟨rfl, hW6⟩))) | (go_at_call 14; ((with_reducible refine (awk_add w _ p _ _ hW4).mono ?_); (rintro e w5 ⟨rfl, hW5⟩))))
  go_ret
  exact ⟨_, _, rfl, hW6.1, hW6.2.2.2⟩
end Go.Proofs.Ytefhlnplegagfab
