import Derived.Test.YtoofoamondepoaaDoorLmn
namespace Go.Proofs.YtoofoamondepoaaDoor
open Go.RowKit Gf2
set_option linter.unusedVariables false

/-- what stands behind the second calls. -/
structure MB (w X : World) (g C n : Nat) (G F : Nat → Nat) (A B wt D E : Value) (m : Nat) (T : Nat → Nat) (m1 : Nat) (T1 : Nat → Nat) : Prop where
  ma : MA w X g C n G F A B wt m T
  d : Lst w X g D m1 T1
  e : Lst w X g E m1 T1
  ad : Dif A D
  ae : Dif A E
  bd : Dif B D
  be : Dif B E
  de : Dif D E
theorem MB.below {w X Y : World} {g C n : Nat} {G F : Nat → Nat} {A B wt D E : Value} {m : Nat} {T : Nat → Nat} {m1 : Nat} {T1 : Nat → Nat} (h : MB w X g C n G F A B wt D E m T m1 T1) (hb : Below X.heap.size X Y) : MB w Y g C n G F A B wt D E m T m1 T1 :=
  have h1 := h.ma.below hb
  ⟨h1, h.d.kp (kp_below hb _) h1.whl.bel, h.e.kp (kp_below hb _) h1.whl.bel, h.ad, h.ae, h.bd, h.be, h.de⟩
theorem mem_B (kind : Int) (n m m1 gW C x : Nat) (F G T T1 : Nat → Nat) (er : Int) (a1 a2 : Option Addr) (c1 c2 gC : Nat) (w X : World) (hn : n ≤ 300) (hx : x < 65536) (hC : Cant w) (hT : Tzt w) (hm1 : m1 ≤ 300)
    (h : MA w X gW C n G F (.slice a1 m c1) (.slice a2 m c2) (.slice (some ⟨gC, 0, none⟩) m m) m T)
    (hask : ∀ (W : World) (v : Value), Q6 W v n F → Tzt W → Calls Tryd.prog 21 #[.int .i64 kind, v] W fun e w' => ∃ A, e = .returned (.tuple #[A, .int .i64 er]) ∧ Gv W w' A m1 T1) :
    Calls Tryd.prog 20 #[.slice (some ⟨gW, 0, none⟩) (n + 8) C] X fun e w1 => ∃ gT, e = .returned (.slice (some ⟨gT, 0, none⟩) (n + 8) (n + 8)) ∧
    Calls Tryd.prog 21 #[.int .i64 kind, .slice (some ⟨gW, 0, none⟩) n C] w1 fun e w2 => ∃ a3 c3, e = .returned (.tuple #[.slice a3 m1 c3, .int .i64 er]) ∧
    Calls Tryd.prog 20 #[.slice (some ⟨gW, 0, none⟩) n C] w2 fun e w3 => ∃ gL, e = .returned (.slice (some ⟨gL, 0, none⟩) n n) ∧
    Calls Tryd.prog 21 #[.int .i64 kind, .slice (some ⟨gL, 0, none⟩) n n] w3 fun e w4 => ∃ a4 c4, e = .returned (.tuple #[.slice a4 m1 c4, .int .i64 er]) ∧
    Calls Tryd.prog 22 #[.slice a3 m1 c3, .slice a4 m1 c4] w4 fun e w5 => e = .returned (.bool true) ∧
    Calls Tryd.prog 22 #[.slice a1 m c1, .slice (some ⟨gC, 0, none⟩) m m] w5 fun e w6 => e = .returned (.bool true) ∧
    Calls Tryd.prog 22 #[.slice a2 m c2, .slice (some ⟨gC, 0, none⟩) m m] w6 fun e w7 => e = .returned (.bool true) ∧
    Calls Tryd.prog 22 #[.slice (some ⟨gW, 0, none⟩) (n + 8) C, .slice (some ⟨gT, 0, none⟩) (n + 8) (n + 8)] w7 fun e w8 => e = .returned (.bool true) ∧
    Calls Tryd.prog 11 #[.slice (some ⟨gW, 0, none⟩) n C, .int .u16 (x : Int)] w8 fun e w9 => ∃ V er2 : Nat, e = .returned (.tuple #[.int .u16 (V : Int), .int .i64 (er2 : Int)]) ∧
    Calls Tryd.prog 20 #[.slice (some ⟨gW, 0, none⟩) n C] w9 fun e w10 => ∃ gM, e = .returned (.slice (some ⟨gM, 0, none⟩) n n) ∧
    Calls Tryd.prog 11 #[.slice (some ⟨gM, 0, none⟩) n n, .int .u16 (x : Int)] w10 fun e w11 => e = .returned (.tuple #[.int .u16 (V : Int), .int .i64 (er2 : Int)]) ∧
    Calls Tryd.prog 22 #[.slice (some ⟨gW, 0, none⟩) (n + 8) C, .slice (some ⟨gT, 0, none⟩) (n + 8) (n + 8)] w11 fun e w12 => e = .returned (.bool true) ∧
      Hid (MB w w12 gW C n G F (.slice a1 m c1) (.slice a2 m c2) (.slice (some ⟨gC, 0, none⟩) m m) (.slice a3 m1 c3) (.slice a4 m1 c4) m T m1 T1) := by
  refine (twin13_any _ (n + 8) G X h.whl.q8 (by omega)).mono fun e w1 ⟨he, h1, b1⟩ => ⟨_, he, ?_⟩
  have k1 := h.below b1
  refine (hask w1 _ (k1.whl.q.congr k1.eq) (hT.below k1.whl.bel)).mono fun e w2 ⟨D, he, h2⟩ => ?_
  obtain ⟨a3, c3, rfl⟩ := h2.form
  refine ⟨a3, c3, he, ?_⟩
  have k2 := k1.below h2.1
  obtain ⟨lD, loD, -, -⟩ := lst_new k1.whl.bel k1.whl.lt h2
  refine (twin13_any _ n G w2 k2.whl.q (by omega)).mono fun e w3 ⟨he, h3, b3⟩ => ⟨_, he, ?_⟩
  have k3 := k2.below b3
  have lD3 := lD.kp (kp_below b3 gW) k3.whl.bel
  refine (hask w3 _ (h3.all.congr k3.eq) (hT.below k3.whl.bel)).mono fun e w4 ⟨E, he, h4⟩ => ?_
  obtain ⟨a4, c4, rfl⟩ := h4.form
  refine ⟨a4, c4, he, ?_⟩
  have k4 := k3.below h4.1
  obtain ⟨lE, loE, -, -⟩ := lst_new k3.whl.bel k3.whl.lt h4
  have m4 : MB w w4 gW C n G F (.slice a1 m c1) (.slice a2 m c2) (.slice (some ⟨gC, 0, none⟩) m m) (.slice a3 m1 c3) (.slice a4 m1 c4) m T m1 T1 :=
    ⟨k4, lD3.kp (kp_below h4.1 gW) k4.whl.bel, lE, dif_ages k1.a loD, dif_ages k3.a loE, dif_ages k1.b loD, dif_ages k3.b loE, dif_ages lD3 loE⟩
  refine (same13_true _ _ m1 T1 w4 m4.d.q6 m4.e.q6).mono fun e w5 ⟨he, hw5⟩ => ⟨he, ?_⟩
  have m5 := m4.below (below_same hw5)
  refine (same13_true _ _ m T w5 m5.ma.a.q6 m5.ma.wt.q6).mono fun e w6 ⟨he, hw6⟩ => ⟨he, ?_⟩
  have m6 := m5.below (below_same hw6)
  refine (same13_true _ _ m T w6 m6.ma.b.q6 m6.ma.wt.q6).mono fun e w7 ⟨he, hw7⟩ => ⟨he, ?_⟩
  have m7 := m6.below (below_same hw7)
  have b17 : Below w1.heap.size w1 w7 := bthen13 (bthen13 (bthen13 (bthen13 (bthen13 h2.1 b3) h4.1) (below_same hw5)) (below_same hw6)) (below_same hw7)
  refine (same13_true _ _ (n + 8) G w7 m7.ma.whl.q8 (h1.below b17).all).mono fun e w8 ⟨he, hw8⟩ => ⟨he, ?_⟩
  have m8 := m7.below (below_same hw8)
  have b18 := bthen13 b17 (below_same hw8)
  refine (eval13_any _ n x G w8 m8.ma.whl.q hx (hC.below m8.ma.whl.bel)).mono fun e w9 ⟨he, b9⟩ => ⟨_, _, he, ?_⟩
  have m9 := m8.below b9
  refine (twin13_any _ n G w9 m9.ma.whl.q (by omega)).mono fun e w10 ⟨he, h10, b10⟩ => ⟨_, he, ?_⟩
  have m10 := m9.below b10
  refine (eval13_any _ n x G w10 h10.all hx (hC.below m10.ma.whl.bel)).mono fun e w11 ⟨he, b11⟩ => ⟨he, ?_⟩
  have m11 := m10.below b11
  refine (same13_true _ _ (n + 8) G w11 m11.ma.whl.q8 (h1.below (bthen13 (bthen13 (bthen13 b18 b9) b10) b11)).all).mono fun e w12 ⟨he, hw12⟩ => ⟨he, m11.below (below_same hw12)⟩
/-- a word of the whole list is written. -/
theorem MA.set {w X : World} {g C n : Nat} {G F H : Nat → Nat} {A B wt : Value} {m : Nat} {T : Nat → Nat} (h : MA w X g C n G F A B wt m T) {i y : Nat} (hi : i < n) (hy : y < 65536) (e : ∀ x, x < n → H x = if x = i then y else F x) :
    MA w (X.setCell ⟨g, i, none⟩ (.int .u16 ((y : Nat) : Int))) g C n (fun x => if x = i then y else G x) H A B wt m T := by
  have hb : Below w.heap.size w (X.setCell ⟨g, i, none⟩ (.int .u16 ((y : Nat) : Int))) := h.whl.bel.setCell h.whl.lo _
  have hk : Kp g X (X.setCell ⟨g, i, none⟩ (.int .u16 ((y : Nat) : Int))) := (Kp.refl g X).setCell i _
  refine ⟨⟨hb, h.whl.lo, h.whl.row.set i y hy, h.whl.le⟩, fun x hx => ?_, h.a.kp hk hb, h.b.kp hk hb, h.wt.kp hk hb, h.ab⟩
  rw [e x hx]
  by_cases e2 : x = i
  · rw [if_pos e2, if_pos e2]
  · rw [if_neg e2, if_neg e2, h.eq x hx]
theorem MB.set {w X : World} {g C n : Nat} {G F H : Nat → Nat} {A B wt D E : Value} {m : Nat} {T : Nat → Nat} {m1 : Nat} {T1 : Nat → Nat} (h : MB w X g C n G F A B wt D E m T m1 T1) {i y : Nat} (hi : i < n) (hy : y < 65536) (e : ∀ x, x < n → H x = if x = i then y else F x) :
    MB w (X.setCell ⟨g, i, none⟩ (.int .u16 ((y : Nat) : Int))) g C n (fun x => if x = i then y else G x) H A B wt D E m T m1 T1 := by
  have hb : Below w.heap.size w (X.setCell ⟨g, i, none⟩ (.int .u16 ((y : Nat) : Int))) := h.ma.whl.bel.setCell h.ma.whl.lo _
  have hk : Kp g X (X.setCell ⟨g, i, none⟩ (.int .u16 ((y : Nat) : Int))) := (Kp.refl g X).setCell i _
  exact ⟨h.ma.set hi hy e, h.d.kp hk hb, h.e.kp hk hb, h.ad, h.ae, h.bd, h.be, h.de⟩
end Go.Proofs.YtoofoamondepoaaDoor
