import Derived.Test.YtoofoamondepoaaDoorLmo
namespace Go.Proofs.YtoofoamondepoaaDoor
open Go.RowKit Gf2
set_option linter.unusedVariables false

/-- six of a kind. -/
def u6 {α : Type} (a b c d e f : α) (r : Nat) : α := if r = 0 then a else if r = 1 then b else if r = 2 then c else if r = 3 then d else if r = 4 then e else f
theorem lt6 {r : Nat} (h : r < 6) : r = 0 ∨ r = 1 ∨ r = 2 ∨ r = 3 ∨ r = 4 ∨ r = 5 := by omega
theorem all6 {α : Type} {P : Nat → Prop} (h0 : P 0) (h1 : P 1) (h2 : P 2) (h3 : P 3) (h4 : P 4) (h5 : P 5) : ∀ r, r < 6 → P r := fun r hr => by
  rcases lt6 hr with rfl | rfl | rfl | rfl | rfl | rfl
  · exact h0
  · exact h1
  · exact h2
  · exact h3
  · exact h4
  · exact h5
theorem dif6 {a b c d e f : Value} (ab : Dif a b) (ac : Dif a c) (ad : Dif a d) (ae : Dif a e) (af : Dif a f) (bc : Dif b c) (bd : Dif b d) (be : Dif b e) (bf : Dif b f) (cd : Dif c d) (ce : Dif c e) (cf : Dif c f) (de : Dif d e) (df : Dif d f) (ef : Dif e f) :
    ∀ r s, r < 6 → s < 6 → r ≠ s → Dif (u6 a b c d e f r) (u6 a b c d e f s) := by
  intro r s hr hs
  rcases lt6 hr with rfl | rfl | rfl | rfl | rfl | rfl <;> rcases lt6 hs with rfl | rfl | rfl | rfl | rfl | rfl <;> intro hrs <;> first | exact absurd rfl hrs | exact ab | exact ac | exact ad | exact ae | exact af | exact bc | exact bd | exact be | exact bf | exact cd | exact ce | exact cf | exact de | exact df | exact ef | exact ab.symm | exact ac.symm | exact ad.symm | exact ae.symm | exact af.symm | exact bc.symm | exact bd.symm | exact be.symm | exact bf.symm | exact cd.symm | exact ce.symm | exact cf.symm | exact de.symm | exact df.symm | exact ef.symm
theorem row6 (W : World) (a b c d e f : Value) : (W.alloc (.cells #[a, b, c, d, e, f] 22)).rowIs W.heap.size 22 6 (u6 a b c d e f) := by
  refine ⟨_, heap_alloc_new _ _, rfl, fun i hi => ?_⟩
  rcases lt6 hi with rfl | rfl | rfl | rfl | rfl | rfl <;> rfl
theorem Lst.below {w X Y : World} {g m : Nat} {v : Value} {T : Nat → Nat} (h : Lst w X g v m T) (hw : Below w.heap.size w X) (hb : Below X.heap.size X Y) : Lst w Y g v m T := h.kp (kp_below hb g) (bthen13 hw hb)
theorem mem_C (n m m1 gW C x k : Nat) (F G T T1 : Nat → Nat) (a1 a2 a3 a4 : Option Addr) (c1 c2 c3 c4 gC : Nat) (w X : World) (hn : n ≤ 300) (hx : x < 65536) (hk : k ≤ 16) (hC : Cant w) (hm : m ≤ 300) (hm1 : m1 ≤ 300)
    (h : MB w X gW C n G F (.slice a1 m c1) (.slice a2 m c2) (.slice (some ⟨gC, 0, none⟩) m m) (.slice a3 m1 c3) (.slice a4 m1 c4) m T m1 T1) :
    Calls Tryd.prog 20 #[.slice (some ⟨gW, 0, none⟩) (n + 8) C] X fun e w1 => ∃ gT, e = .returned (.slice (some ⟨gT, 0, none⟩) (n + 8) (n + 8)) ∧
    Calls Tryd.prog 11 #[.slice (some ⟨gW, 0, none⟩) n C, .int .u16 (x : Int)] w1 fun e w2 => ∃ V er2 : Nat, e = .returned (.tuple #[.int .u16 (V : Int), .int .i64 (er2 : Int)]) ∧
    Calls Tryd.prog 20 #[.slice (some ⟨gW, 0, none⟩) n C] w2 fun e w3 => ∃ gM, e = .returned (.slice (some ⟨gM, 0, none⟩) n n) ∧
    Calls Tryd.prog 11 #[.slice (some ⟨gM, 0, none⟩) n n, .int .u16 (x : Int)] w3 fun e w4 => e = .returned (.tuple #[.int .u16 (V : Int), .int .i64 (er2 : Int)]) ∧
    Calls Tryd.prog 22 #[.slice (some ⟨gW, 0, none⟩) (n + 8) C, .slice (some ⟨gT, 0, none⟩) (n + 8) (n + 8)] w4 fun e w5 => e = .returned (.bool true) ∧
    Calls Tryd.prog 16 #[.int .i64 (k : Int)] w5 fun e w6 => ∃ g5, e = .returned (.tuple #[.slice (some ⟨g5, 0, none⟩) (k + 1) (k + 1), .int .i64 0]) ∧
    Calls Tryd.prog 16 #[.int .i64 (k : Int)] w6 fun e w7 => ∃ g6, e = .returned (.tuple #[.slice (some ⟨g6, 0, none⟩) (k + 1) (k + 1), .int .i64 0]) ∧
    Calls Tryd.prog 22 #[.slice (some ⟨g5, 0, none⟩) (k + 1) (k + 1), .slice (some ⟨g6, 0, none⟩) (k + 1) (k + 1)] w7 fun e w8 => e = .returned (.bool true) ∧
    Calls Tryd.prog 23 #[.slice (some ⟨w8.heap.size, 0, none⟩) 6 6] (w8.alloc (.cells #[.slice a1 m c1, .slice a2 m c2, .slice a3 m1 c3, .slice a4 m1 c4, .slice (some ⟨g5, 0, none⟩) (k + 1) (k + 1), .slice (some ⟨g6, 0, none⟩) (k + 1) (k + 1)] 22)) fun e w9 => e = .returned (.bool true) ∧
    Calls Tryd.prog 22 #[.slice (some ⟨gW, 0, none⟩) (n + 8) C, .slice (some ⟨gT, 0, none⟩) (n + 8) (n + 8)] w9 fun e w10 => e = .returned (.bool true) ∧ Hid (Below w.heap.size w w10) := by
  refine (twin13_any _ (n + 8) G X h.ma.whl.q8 (by omega)).mono fun e w1 ⟨he, h1, b1⟩ => ⟨_, he, ?_⟩
  have k1 := h.below b1
  refine (eval13_any _ n x G w1 k1.ma.whl.q hx (hC.below k1.ma.whl.bel)).mono fun e w2 ⟨he, b2⟩ => ⟨_, _, he, ?_⟩
  have k2 := k1.below b2
  refine (twin13_any _ n G w2 k2.ma.whl.q (by omega)).mono fun e w3 ⟨he, h3, b3⟩ => ⟨_, he, ?_⟩
  have k3 := k2.below b3
  refine (eval13_any _ n x G w3 h3.all hx (hC.below k3.ma.whl.bel)).mono fun e w4 ⟨he, b4⟩ => ⟨he, ?_⟩
  have k4 := k3.below b4
  have b14 := bthen13 (bthen13 b2 b3) b4
  refine (same13_true _ _ (n + 8) G w4 k4.ma.whl.q8 (h1.below b14).all).mono fun e w5 ⟨he, hw5⟩ => ⟨he, ?_⟩
  have k5 := k4.below (below_same hw5)
  have b15 := bthen13 b14 (below_same hw5)
  refine (linear13_yes k hk w5).mono fun e w6 ⟨he, h6, b6⟩ => ⟨_, he, ?_⟩
  have k6 := k5.below b6
  obtain ⟨lM, loM, -, -⟩ := lst_new k5.ma.whl.bel k5.ma.whl.lt (gv_row b6 (Nat.le_refl _) h6)
  refine (linear13_yes k hk w6).mono fun e w7 ⟨he, h7, b7⟩ => ⟨_, he, ?_⟩
  have k7 := k6.below b7
  obtain ⟨lO, loO, -, -⟩ := lst_new k6.ma.whl.bel k6.ma.whl.lt (gv_row b7 (Nat.le_refl _) h7)
  have lM7 := lM.below k6.ma.whl.bel b7
  refine (same13_true _ _ (k + 1) (fun t => oc t k) w7 lM7.q6 lO.q6).mono fun e w8 ⟨he, hw8⟩ => ⟨he, ?_⟩
  have b8 := below_same hw8
  have k8 := k7.below b8
  have lM8 := lM7.below k7.ma.whl.bel b8
  have lO8 := lO.below k7.ma.whl.bel b8
  have b18 := bthen13 (bthen13 (bthen13 b15 b6) b7) b8
  obtain ⟨o9, ho9⟩ : ∃ o9, o9 = Obj.cells #[.slice a1 m c1, .slice a2 m c2, .slice a3 m1 c3, .slice a4 m1 c4, .slice (some ⟨w5.heap.size, 0, none⟩) (k + 1) (k + 1), .slice (some ⟨w6.heap.size, 0, none⟩) (k + 1) (k + 1)] 22 := ⟨_, rfl⟩
  have b9 := below_alloc w8 o9
  have k9 := k8.below b9
  have lM9 := lM8.below k8.ma.whl.bel b9
  have lO9 := lO8.below k8.ma.whl.bel b9
  have hrow := row6 w8 (.slice a1 m c1) (.slice a2 m c2) (.slice a3 m1 c3) (.slice a4 m1 c4) (.slice (some ⟨w5.heap.size, 0, none⟩) (k + 1) (k + 1)) (.slice (some ⟨w6.heap.size, 0, none⟩) (k + 1) (k + 1))
  rw [← ho9] at hrow ⊢
  have hT1 := h1.below (bthen13 b18 b9)
  have hgT : ∀ r, r < 6 → ¬ In13 (u6 (.slice a1 m c1) (.slice a2 m c2) (.slice a3 m1 c3) (.slice a4 m1 c4) (.slice (some ⟨w5.heap.size, 0, none⟩) (k + 1) (k + 1)) (.slice (some ⟨w6.heap.size, 0, none⟩) (k + 1) (k + 1)) r) X.heap.size :=
    all6 (α := Nat) (fun hi => Nat.lt_irrefl _ (h.ma.a.1.lt13 hi)) (fun hi => Nat.lt_irrefl _ (h.ma.b.1.lt13 hi)) (fun hi => Nat.lt_irrefl _ (h.d.1.lt13 hi)) (fun hi => Nat.lt_irrefl _ (h.e.1.lt13 hi))
      (fun hi => by have := loM _ hi; have := b15.size; have := h1.lt; omega) (fun hi => by have := loO _ hi; have := b15.size; have := b6.size; have := h1.lt; omega)
  have hgW : ∀ r, r < 6 → ¬ In13 (u6 (.slice a1 m c1) (.slice a2 m c2) (.slice a3 m1 c3) (.slice a4 m1 c4) (.slice (some ⟨w5.heap.size, 0, none⟩) (k + 1) (k + 1)) (.slice (some ⟨w6.heap.size, 0, none⟩) (k + 1) (k + 1)) r) gW :=
    all6 (α := Nat) h.ma.a.2 h.ma.b.2 h.d.2 h.e.2 lM.2 lO.2
  refine (apart13 w (w8.alloc o9) w8.heap.size 6 _ (u6 m m m1 m1 (k + 1) (k + 1)) (u6 T T T1 T1 (fun t => oc t k) (fun t => oc t k)) (by decide) k9.ma.whl.bel hrow
    (all6 (α := Nat) k9.ma.a.1 k9.ma.b.1 k9.d.1 k9.e.1 lM9.1 lO9.1)
    (dif6 h.ma.ab h.ad h.ae (dif_ages k5.ma.a loM) (dif_ages k6.ma.a loO) h.bd h.be (dif_ages k5.ma.b loM) (dif_ages k6.ma.b loO) h.de (dif_ages k5.d loM) (dif_ages k6.d loO) (dif_ages k5.e loM) (dif_ages k6.e loO) (dif_ages lM loO))
    (all6 (α := Nat) (show m ≤ 400 by omega) (show m ≤ 400 by omega) (show m1 ≤ 400 by omega) (show m1 ≤ 400 by omega) (show k + 1 ≤ 400 by omega) (show k + 1 ≤ 400 by omega))).mono fun e w9 ⟨he, bel9, sz9, old9⟩ => ⟨he, ?_⟩
  have rW : R6 w9 gW C G := ⟨k9.ma.whl.row.1, k9.ma.whl.row.2.1, k9.ma.whl.row.2.2.of_block (old9 gW k9.ma.whl.lt hgW)⟩
  have rT : R6 w9 X.heap.size (n + 8) G := ⟨hT1.1, hT1.2.1, hT1.2.2.of_block (old9 X.heap.size hT1.lt hgT)⟩
  refine (same13_true _ _ (n + 8) G w9 (rW.q6 h.ma.whl.le h.ma.whl.le rW.1 (fun _ _ => rfl)) rT.all).mono fun e w10 ⟨he, m9, hw10⟩ => ⟨he, ?_⟩
  rw [hw10]
  exact below_drewN bel9 m9
end Go.Proofs.YtoofoamondepoaaDoor
