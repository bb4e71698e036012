import Derived.Test.YtfbgcednodnioabDoorPcao
import Derived.Test.YtfbgcednodnioabDoorPcaq
import Derived.Laws.BitsLemmas
import Derived.Deep.Cut
namespace Go.Proofs.YtfbgcednodnioabDoor
open Go.RowKit Gf2
set_option linter.unusedVariables false

-- layer 22: a source beside the document's
def zn22 (z : Int) : Nat := (z % 1024).toNat
theorem zn22_lt (z : Int) : zn22 z < 1024 := by unfold zn22; omega
theorem and1023_22 (n : Int) : bits .and .i64 n 1023 = ((zn22 n : Nat) : Int) := by
  have h127 : (BitVec.ofInt 64 1023).toNat = 2 ^ 10 - 1 := by decide
  have key : (BitVec.ofInt 64 n &&& BitVec.ofInt 64 1023).toNat = (n % ((2 ^ 64 : Nat) : Int)).toNat % 2 ^ 10 := by
    rw [BitVec.toNat_and, BitVec.toNat_ofInt, h127, Nat.and_two_pow_sub_one_eq_mod]
  show IntKind.i64.wrap ((BitVec.ofInt 64 n &&& BitVec.ofInt 64 1023).toNat : Nat) = _
  rw [key, IntKind.wrap_i64]
  unfold zn22
  omega
/-- the document's read, whatever the break is. -/
theorem refread22 {B mb n k p t : Nat} {D : Nat → Nat} {C : Nat → Int} {fa : Int} (l : Nat) (hl : 0 < l) (hlb : l ≤ 140737488355328) (w : World) (h : Mo B w mb n D k C fa p t) (hp : ¬ (0 ≤ fa ∧ (p : Int) = fa)) (hn : p < n) (htb : t < 2305843009213693952) :
    Calls Tryd.prog 14 #[.pointer (some ⟨mb, 0, none⟩), .int .i64 (l : Int)] w fun e w' => ∃ v, e = .returned (.tuple #[v, .int .i64 0]) ∧ Nb w.heap.size w' v (rd22 l n p fa k C t) (fun i => D (p + i)) ∧ Mo B w' mb n D k C fa (p + rd22 l n p fa k C t) (t + 1) ∧ Ke (fun x => x = mb) w w' := by
  rcases Int.lt_or_le fa 0 with hf | hf
  · exact refread22_turnN l hl hlb w h hp hn htb hf
  · exact refread22_turnP l hl hlb w h hp hn htb hf
/-- End lies where it lies. -/
def En22 (w : World) (x : Addr) : Prop := w.cell? ⟨0, 0, none⟩ = some (.iface 69 (.pointer (some x)))
/-- a source and the document's one, alike. -/
structure Pc22 (w wr : World) (x : Addr) (lo hi b n : Nat) (D : Nat → Nat) (k : Nat) (C : Nat → Int) (fa code : Int) (f mb p t : Nat) : Prop where
  so : So lo hi wr b n D k C fa code f p t
  mo : Mo w.heap.size wr mb n D k C fa p t
  bel : Below w.heap.size w wr
  hmb : hi ≤ mb
  hlo : w.heap.size ≤ lo
  en : En22 w x
  ci : ∀ i, i < k → I6x (C i)
section
variable {w wr w' : World} {x : Addr} {lo hi b n k f mb p t : Nat} {D : Nat → Nat} {C : Nat → Int} {fa code : Int}
theorem Pc22.ke {E : Nat → Prop} (h : Pc22 w wr x lo hi b n D k C fa code f mb p t) (hk : Ke E wr w') (hE : ∀ y, E y → w.heap.size ≤ y ∧ (y < lo ∨ hi ≤ y) ∧ y ≠ mb) : Pc22 w w' x lo hi b n D k C fa code f mb p t :=
  ⟨h.so.keep hk (fun y h1 h2 e => by have := (hE y e).2.1; omega), h.mo.keep hk (fun y hy e => by have := (hE y e).1; omega) (fun e => (hE _ e).2.2 rfl), h.bel.trans (hk.below (fun y e => (hE y e).1) h.bel.size), h.hmb, h.hlo, h.en, h.ci⟩
theorem Pc22.below (h : Pc22 w wr x lo hi b n D k C fa code f mb p t) (hb : Below wr.heap.size wr w') : Pc22 w w' x lo hi b n D k C fa code f mb p t := h.ke (ke_below hb (fun _ => False)) (fun _ e => e.elim)
theorem Pc22.drewN (h : Pc22 w wr x lo hi b n D k C fa code f mb p t) (m : Nat) : Pc22 w (wr.drewN m) x lo hi b n D k C fa code f mb p t := h.ke ((Ke.refl (fun _ => False) wr).drewN m) (fun _ e => e.elim)
theorem Pc22.end_ (h : Pc22 w wr x lo hi b n D k C fa code f mb p t) : wr.cell? ⟨0, 0, none⟩ = some (.iface 69 (.pointer (some x))) := (h.bel.cell (cell_lt22 h.en)).trans h.en
/-- one read of both. -/
theorem pc_round22 (l gp : Nat) (F : Nat → Nat) (h : Pc22 w wr x lo hi b n D k C fa code f mb p t) (hl : l < 1024) (hr : Rw wr gp l F) (hgp : w.heap.size ≤ gp ∧ (gp < lo ∨ hi ≤ gp) ∧ gp ≠ mb) (ht : t < 2305843009213693952) :
    Calls Tryd.prog 13 #[.pointer (some ⟨b, 0, none⟩), .slice (some ⟨gp, 0, none⟩) l l] wr fun e w2 => ∃ (m : Nat) (ev : Value), e = .returned (.tuple #[.int .i64 (m : Int), ev]) ∧ m ≤ l ∧
    Calls Tryd.prog 14 #[.pointer (some ⟨mb, 0, none⟩), .int .i64 (l : Int)] w2 fun e w3 => ∃ (v : Option Addr) (c : Nat) (er : Int), e = .returned (.tuple #[.slice v m c, .int .i64 er]) ∧
    (Calls Tryd.prog 16 #[.pointer (some ⟨b, 0, none⟩)] w3 fun e w' => e = .returned (fe22 fa f) ∧ w' = w3) ∧
    (Calls Tryd.prog 15 #[ev, .int .i64 er, fe22 fa f] w3 fun e w' => e = .returned (.bool true) ∧ w' = w3) ∧
    Calls Tryd.prog 9 #[.slice (some ⟨gp, 0, none⟩) m l, .slice v m c] w3 fun e w4 => e = .returned (.bool true) ∧ (∃ F', Rw w4 gp l F') ∧ ∃ t', t' ≤ t + 1 ∧ Pc22 w w4 x lo hi b n D k C fa code f mb (p + m) t' := by
  have stop : ∀ (ev : Value) (er : Int), (∀ W, Pc22 w W x lo hi b n D k C fa code f mb p t → Calls Tryd.prog 13 #[.pointer (some ⟨b, 0, none⟩), .slice (some ⟨gp, 0, none⟩) l l] W fun e w' => e = .returned (.tuple #[.int .i64 0, ev]) ∧ ∃ m, w' = W.drewN m) →
      (∀ W, Pc22 w W x lo hi b n D k C fa code f mb p t → Calls Tryd.prog 14 #[.pointer (some ⟨mb, 0, none⟩), .int .i64 (l : Int)] W fun e w' => e = .returned (.tuple #[.slice none 0 0, .int .i64 er]) ∧ ∃ m, w' = W.drewN m) →
      (∀ W, Pc22 w W x lo hi b n D k C fa code f mb p t → Calls Tryd.prog 15 #[ev, .int .i64 er, fe22 fa f] W fun e w' => e = .returned (.bool true) ∧ w' = W) →
      Calls Tryd.prog 13 #[.pointer (some ⟨b, 0, none⟩), .slice (some ⟨gp, 0, none⟩) l l] wr fun e w2 => ∃ (m : Nat) (ev : Value), e = .returned (.tuple #[.int .i64 (m : Int), ev]) ∧ m ≤ l ∧
    Calls Tryd.prog 14 #[.pointer (some ⟨mb, 0, none⟩), .int .i64 (l : Int)] w2 fun e w3 => ∃ (v : Option Addr) (c : Nat) (er : Int), e = .returned (.tuple #[.slice v m c, .int .i64 er]) ∧
    (Calls Tryd.prog 16 #[.pointer (some ⟨b, 0, none⟩)] w3 fun e w' => e = .returned (fe22 fa f) ∧ w' = w3) ∧
    (Calls Tryd.prog 15 #[ev, .int .i64 er, fe22 fa f] w3 fun e w' => e = .returned (.bool true) ∧ w' = w3) ∧
    Calls Tryd.prog 9 #[.slice (some ⟨gp, 0, none⟩) m l, .slice v m c] w3 fun e w4 => e = .returned (.bool true) ∧ (∃ F', Rw w4 gp l F') ∧ ∃ t', t' ≤ t + 1 ∧ Pc22 w w4 x lo hi b n D k C fa code f mb (p + m) t' := by
    intro ev er c1 c2 c3
    refine (c1 wr h).mono fun e w2 ⟨he, m2, hw2⟩ => ⟨0, ev, he, Nat.zero_le _, ?_⟩
    have h2 : Pc22 w w2 x lo hi b n D k C fa code f mb p t := by rw [hw2]; exact h.drewN m2
    refine (c2 w2 h2).mono fun e w3 ⟨he, m3, hw3⟩ => ⟨none, 0, er, he, ?_⟩
    have h3 : Pc22 w w3 x lo hi b n D k C fa code f mb p t := by rw [hw3]; exact h2.drewN m3
    have r3 : Rw w3 gp l F := by rw [hw3, hw2]; exact (hr.drewN m2).drewN m3
    refine ⟨srcfail22 w3 h3.so, c3 w3 h3, (sb22_true _ _ 0 F F w3 ?_ ?_ (fun _ _ => rfl)).mono fun e w4 ⟨he, m4, hw4⟩ => ⟨he, ⟨F, by rw [hw4]; exact r3.drewN m4⟩, t, by omega, by rw [hw4, Nat.add_zero]; exact h3.drewN m4⟩⟩
    · exact ⟨Nat.zero_le _, fun i hi => absurd hi (Nat.not_lt_zero _), _, l, rfl, Nat.zero_le _, by unfold big; omega, fun h0 => absurd h0 (Nat.lt_irrefl _)⟩
    · exact ⟨Nat.zero_le _, fun i hi => absurd hi (Nat.not_lt_zero _), none, 0, rfl, Nat.le_refl _, Nat.zero_le _, fun h0 => absurd h0 (Nat.lt_irrefl _)⟩
  rcases Nat.eq_zero_or_pos l with h0 | h0
  · subst h0
    refine stop .nilIface 0 (fun W _ => (read22_zero b _ 0 W).mono fun e w' ⟨he, hw⟩ => ⟨he, 0, hw⟩) (fun W _ => (refread22_zero mb 0 (by decide) W).mono fun e w' ⟨he, hw⟩ => ⟨he, 0, hw⟩) (fun W _ => is0_22 _ W)
  · by_cases hfa : 0 ≤ fa ∧ (p : Int) = fa
    · have e9 : fe22 fa f = .iface 51 (.pointer (some ⟨f, 0, none⟩)) := if_neg (by omega)
      refine stop _ 2 (fun W hW => read22_fail l _ l W hW.so h0 hfa.1 hfa.2) (fun W hW => refread22_fail l h0 W hW.mo hfa.1 hfa.2) (fun W _ => by rw [e9]; exact is2_22 f W)
    · by_cases hpn : p = n
      · refine stop _ 1 (fun W hW => read22_end l _ l _ _ W hW.so h0 hfa hpn hW.end_) (fun W hW => refread22_end l h0 W hW.mo hfa hpn) (fun W hW => is1_22 x _ W hW.end_)
      · have hplt : p < n := by have := h.so.pn; omega
        have hm : rd22 l n p fa k C t ≤ l := Nat.le_trans (mo22_le _ n p fa).1 (tw22_le l k C t)
        refine (read22_turn gp 0 l l l F wr h.so h.ci h0 hfa hplt hr (by omega) (by omega) hgp.2.1).mono fun e w2 ⟨he, s2, r2, k2⟩ => ⟨rd22 l n p fa k C t, .nilIface, he, hm, ?_⟩
        have hbl := h.so.bl
        have m2 : Mo w.heap.size w2 mb n D k C fa p t := h.mo.keep k2 (fun y hy e => by
          have := h.hlo
          rcases e with e | e <;> omega) (fun e => by
          have := h.hmb
          have := hgp.2.2
          rcases e with e | e <;> omega)
        have B2 : Below w.heap.size w w2 := h.bel.trans (k2.below (fun y e => by
          have := h.hlo
          rcases e with e | e <;> omega) h.bel.size)
        refine (refread22 l h0 (by omega) w2 m2 hfa hplt ht).mono fun e w3 ⟨v, he, hN, m3, k3⟩ => ?_
        obtain ⟨va, vc, rfl⟩ : ∃ a c, v = .slice a (rd22 l n p fa k C t) c := by obtain ⟨-, -, a, c, e, -⟩ := hN; exact ⟨a, c, e⟩
        have s3 := s2.keep k3 (fun y h1 h2 e => by have := h.hmb; omega)
        have r3 := k3.rw_ r2 (fun e => hgp.2.2 e)
        have h3 : Pc22 w w3 x lo hi b n D k C fa code f mb (p + rd22 l n p fa k C t) (t + 1) := ⟨s3, m3, B2.trans (k3.below (fun y e => by have := h.mo.mbB; omega) B2.size), h.hmb, h.hlo, h.en, h.ci⟩
        refine ⟨va, vc, 0, he, srcfail22 w3 s3, is0_22 _ w3, (sb22_true _ _ _ _ _ w3 (r3.rb (o := 0) (n := rd22 l n p fa k C t) (cap := l) (by omega) hm (by unfold big; omega)) hN.rb (fun i hi => ?_)).mono fun e w4 ⟨he, m4, hw4⟩ => ⟨he, ⟨pl F 0 (rd22 l n p fa k C t) (fun i => D (p + i)), by rw [hw4]; exact r3.drewN m4⟩, t + 1, Nat.le_refl _, by rw [hw4]; exact h3.drewN m4⟩⟩
        rw [show (0 : Nat) + i = 0 + i from rfl]
        exact pl_in hi
end
end Go.Proofs.YtfbgcednodnioabDoor
namespace Go.Proofs.YtfbgcednodnioabDoor
open Go.RowKit Gf2
set_option linter.unusedVariables false

/-- the box of a plan, and what lies in it. -/
structure Bx22 (w wr : World) (dv cv : Value) (fa code : Int) : Prop where
  bel : Below w.heap.size w wr
  blk : wr.heap[w.heap.size]? = some (.cells #[dv, cv, .int .i64 fa, .int .i64 code] 39 (0, 0))
theorem Bx22.below {w wr w' : World} {dv cv : Value} {fa code : Int} (h : Bx22 w wr dv cv fa code) (hb : Below wr.heap.size wr w') : Bx22 w w' dv cv fa code :=
  ⟨h.bel.trans (hb.mono h.bel.size), (hb.block _ (Array.getElem?_eq_some_iff.1 h.blk).1).trans h.blk⟩
theorem Bx22.cells {w wr : World} {dv cv : Value} {fa code : Int} (h : Bx22 w wr dv cv fa code) : wr.cell? ⟨w.heap.size, 0, none⟩ = some dv ∧ wr.cell? ⟨w.heap.size, 1, none⟩ = some cv ∧ wr.cell? ⟨w.heap.size, 2, none⟩ = some (.int .i64 fa) ∧ wr.cell? ⟨w.heap.size, 3, none⟩ = some (.int .i64 code) :=
  ⟨by rw [cell_of_row _ _ 0 _ _ _ h.blk]; rfl, by rw [cell_of_row _ _ 1 _ _ _ h.blk]; rfl, by rw [cell_of_row _ _ 2 _ _ _ h.blk]; rfl, by rw [cell_of_row _ _ 3 _ _ _ h.blk]; rfl⟩
/-- PipesCopies' beginning: the copies, the source, the document's one. -/
theorem copies_a22 (dv : Option Addr) (n dc : Nat) (cv : Option Addr) (k cc : Nat) (D : Nat → Nat) (C : Nat → Int) (fa code : Int) (x : Addr) (w w1 : World) (hd : Bi (fun y => y < w.heap.size) w (.slice dv n dc) n D) (hc : Ii (fun y => y < w.heap.size) w (.slice cv k cc) k C) (hn : n ≤ 140737488355328) (hk : k * 8 ≤ 140737488355328) (hf : I6x fa) (hci : ∀ i, i < k → I6x (C i)) (hE : En22 w x)
    (hb : Bx22 w w1 (.slice dv n dc) (.slice cv k cc) fa code) :
    ∃ w2 g G Fg, (Builtin.append_ #[28, 28] 28 #[.slice (some ⟨w1.heap.size, 0, none⟩) 0 0, .slice dv n dc]).run Tryd.prog (w1.alloc (.cells #[] 5)) = .ok (.slice (some ⟨g, 0, none⟩) n G) w2 ∧ Rw w2 g G Fg ∧ n ≤ G ∧
    ∃ w3 h H Fh, (Builtin.append_ #[37, 37] 37 #[.slice (some ⟨w2.heap.size, 0, none⟩) 0 0, .slice cv k cc]).run Tryd.prog (w2.alloc (.cells #[] 3)) = .ok (.slice (some ⟨h, 0, none⟩) k H) w3 ∧ k ≤ H ∧
    Bx22 w w2 (.slice dv n dc) (.slice cv k cc) fa code ∧ Bx22 w w3 (.slice dv n dc) (.slice cv k cc) fa code ∧
    Calls Tryd.prog 11 #[.slice (some ⟨g, 0, none⟩) n G, .agg #[.slice (some ⟨h, 0, none⟩) k H, .int .i64 fa, .int .i64 code]] w3 fun e w4 => ∃ b, e = .returned (.pointer (some ⟨b, 0, none⟩)) ∧ Bx22 w w4 (.slice dv n dc) (.slice cv k cc) fa code ∧
    Calls Tryd.prog 12 #[.agg #[.slice dv n dc, .slice cv k cc, .int .i64 fa, .int .i64 code]] w4 fun e w5 => ∃ mb, e = .returned (.pointer (some ⟨mb, 0, none⟩)) ∧ ∃ lo hi f, Pc22 w w5 x lo hi b n D k C fa code f mb 0 0 ∧ Rw w5 g G Fg ∧ Ri w5 h H Fh ∧ g ≠ h ∧ w.heap.size ≤ g ∧ g < lo ∧ w.heap.size ≤ h ∧ h < lo := by
  obtain ⟨w2, g, G, Fg, r1, a1, a2, a3, a4, a5, a6⟩ := copy_appw w1 (hd.rb.below hb.bel) (by omega)
  have b2 := hb.below a6
  obtain ⟨w3, h, H, Fh, r2, c1, c2, c3, c4, c5, c6⟩ := copy_appi w2 (hc.qi.below b2.bel) (by omega)
  have b3 := b2.below c6
  have g3 := rw_below a4 c6
  refine ⟨w2, g, G, Fg, r1, a4, a1, w3, h, H, Fh, r2, c1, b2, b3, ?_⟩
  have rd : Rb w3 (.slice (some ⟨g, 0, none⟩) n G) n D := (g3.rb (o := 0) (n := n) (cap := G) (by omega) a1 g3.1).congr (fun i hi => by rw [Nat.zero_add]; exact a5 i hi)
  have rc : Qi w3 (.slice (some ⟨h, 0, none⟩) k H) k C := c4.qi c1 c1 c4.1 c5
  refine (newsource22 _ _ n k D C fa code w3 rd rc hn hk hf).mono fun e w4 ⟨b, f, he, hS, b4⟩ => ⟨b, he, b3.below b4, ?_⟩
  have bb4 := (b3.below b4).bel
  refine (model22 dv n dc cv k cc D C fa code w.heap.size w4 bb4.size (hd.ke (ke_below bb4 (fun _ => False)) (fun _ _ e => e)) (hc.ke (ke_below bb4 (fun _ => False)) (fun _ _ e => e)) hn (by omega) hf).mono fun e w5 ⟨mb, he, hM, b5, hmb⟩ => ⟨mb, he, w3.heap.size, w4.heap.size, f, ⟨hS.below b5, hM, bb4.trans (b5.mono bb4.size), hmb, b3.bel.size, hE, hci⟩, rw_below (rw_below g3 b4) b5, (c4.below b4).below b5, ?_, ?_, ?_, ?_, ?_⟩
  · have := a4.lt; omega
  · have := hb.bel.size; omega
  · exact g3.lt
  · have := b2.bel.size; omega
  · exact c4.lt
set_option maxHeartbeats 4000000 in
set_option maxRecDepth 100000 in
theorem pipesCopies_any (dv : Option Addr) (n dc : Nat) (cv : Option Addr) (k cc : Nat) (D : Nat → Nat) (C : Nat → Int) (fa code : Int) (x : Addr) (sv : Option Addr) (ns sc : Nat) (Z : Nat → Int) (w : World) (hd : Bi (fun y => y < w.heap.size) w (.slice dv n dc) n D) (hc : Ii (fun y => y < w.heap.size) w (.slice cv k cc) k C) (hn : n ≤ 140737488355328) (hk : k * 8 ≤ 140737488355328) (hf : I6x fa) (hci : ∀ i, i < k → I6x (C i)) (hE : En22 w x)
    (hs : Qi w (.slice sv ns sc) ns Z) (hns : ns ≤ 140737488355328) :
    Calls Tryd.prog 4 #[.agg #[.slice dv n dc, .slice cv k cc, .int .i64 fa, .int .i64 code], .slice sv ns sc] w fun e w' => e = .returned (.bool true) ∧ Below w.heap.size w w' := by
  have b0 : Bx22 w (w.alloc (.cells #[.slice dv n dc, .slice cv k cc, .int .i64 fa, .int .i64 code] 39)) (.slice dv n dc) (.slice cv k cc) fa code := ⟨(Below.refl _ _).alloc (Nat.le_refl _) _, heap_alloc_new _ _⟩
  have c1 := awake22 (w.alloc (.cells #[.slice dv n dc, .slice cv k cc, .int .i64 fa, .int .i64 code] 39))
  have HA : Hid (∀ w1, Bx22 w w1 (.slice dv n dc) (.slice cv k cc) fa code → _) := fun w1 hb => copies_a22 dv n dc cv k cc D C fa code x w w1 hd hc hn hk hf hci hE hb
  have HB0 : Hid (∀ w1, Below (w.alloc (.cells #[.slice dv n dc, .slice cv k cc, .int .i64 fa, .int .i64 code] 39)).heap.size (w.alloc (.cells #[.slice dv n dc, .slice cv k cc, .int .i64 fa, .int .i64 code] 39)) w1 → Bx22 w w1 (.slice dv n dc) (.slice cv k cc) fa code) := fun w1 hb => b0.below hb
  have HS : Hid (Qi w (.slice sv ns sc) ns Z ∧ ns ≤ 140737488355328 ∧ n ≤ 140737488355328 ∧ k * 8 ≤ 140737488355328) := ⟨hs, hns, hn, hk⟩
  clear hd hc hn hk hf hci hE hs hns b0
  go_enter Tryd.func4, Tryd.ntmps4
  go_upto_region 3 with (go_at_call 5; (with_reducible refine c1.mono ?_); rintro e w1 ⟨rfl, hb⟩; have hbx := HB0.out w1 hb; have HBX : Hid _ := hbx; clear c1 hb hbx HB0)
  obtain ⟨w2, g, G, Fg, r1, hR2, hnG, w3, h, H, Fh, r2, hkH, b2, b3, c2⟩ := HA.out w1 HBX.out
  have z0 := (HBX.out.below ((Below.refl w1.heap.size w1).alloc (Nat.le_refl _) (.cells #[] 5))).cells.1
  have HR2 : Hid ((Builtin.append_ #[37, 37] 37 #[.slice (some ⟨w2.heap.size, 0, none⟩) 0 0, .slice cv k cc]).run Tryd.prog (w2.alloc (.cells #[] 3)) = .ok (.slice (some ⟨h, 0, none⟩) k H) w3) := r2
  have Hz1 : Hid ((w2.alloc (.cells #[] 3)).cell? ⟨w.heap.size, 1, none⟩ = some (.slice cv k cc)) := (b2.below ((Below.refl w2.heap.size w2).alloc (Nat.le_refl _) (.cells #[] 3))).cells.2.1
  have Hz3 : Hid (w3.cell? ⟨w.heap.size, 2, none⟩ = some (.int .i64 fa) ∧ w3.cell? ⟨w.heap.size, 3, none⟩ = some (.int .i64 code)) := b3.cells.2.2
  clear HA HBX hR2 b2 b3 r2
  go_upto_region 8 with (first
    | (at_builtin; refine Lib.wpList_append_run _ rfl _ _ _ _ rfl _ _ rfl rfl _ _ r1 ?_; clear r1 z0; have z1 := Hz1.out; have r2 := HR2.out; clear HR2 Hz1)
    | (at_builtin; refine Lib.wpList_append_run _ rfl _ _ _ _ rfl _ _ rfl rfl _ _ r2 ?_; clear r2 z1; obtain ⟨z2, z3⟩ := Hz3.out; clear Hz3)
    | (go_at_call 11; (with_reducible refine c2.mono ?_); rintro e w4 ⟨b, rfl, b4, c3⟩; clear c2 z2 z3; obtain ⟨q0, q1, q2, q3⟩ := b4.cells; clear b4)
    | (go_at_call 12; (with_reducible refine c3.mono ?_); rintro e w5 ⟨mb, rfl, hG⟩; have HG : Hid _ := hG; clear c3 hG q0 q1 q2 q3))
  obtain ⟨lo, hi, f, hP, hRg, hRh, hgh, hg1, hg2, hh1, hh2⟩ := HG.out
  have HK : Hid (g ≠ h ∧ w.heap.size ≤ g ∧ g < lo ∧ w.heap.size ≤ h ∧ h < lo ∧ n ≤ G ∧ k ≤ H) := ⟨hgh, hg1, hg2, hh1, hh2, hnG, hkH⟩
  have HP0 : Hid (Pc22 w w5 x lo hi b n D k C fa code f mb 0 0 ∧ Rw w5 g G Fg ∧ Ri w5 h H Fh) := ⟨hP, hRg, hRh⟩
  clear HG hP hRg hRh hgh hg1 hg2 hh1 hh2 hnG hkH
  go_loopw [9] (fun s9 wr => ∃ (i : Nat) (F : Nat → Nat), i ≤ n ∧ s9 = .int .i64 (i : Int) ∧ Pc22 w wr x lo hi b n D k C fa code f mb 0 0 ∧ Rw wr g G F ∧ Ri wr h H Fh) (fun s9 _ => n - (intOf s9).toNat)
  case atStart => exact ⟨0, Fg, Nat.zero_le _, rfl, HP0.out⟩
  case round =>
    obtain ⟨i, F, hi', rfl, hP, hRg, hRh⟩ := hrel
    clear HP0
    by_cases hlt : i < n
    · have hiG : i < G := by have := HK.out; omega
      have q1 := hRg.2.2.cell hiG
      have q2 := hRg.2.2.frozen i
      have hF : F i < 256 := hRg.2.1 i hiG
      have ib : ((i : Nat) : Int) < (n : Int) := Int.ofNat_lt.2 hlt
      have U1 : IntKind.u8.wrap (255 - ((F i : Nat) : Int)) = ((255 - F i : Nat) : Int) := by rw [IntKind.wrap_u8]; omega
      have k1 : Kp g wr (wr.setCell ⟨g, i, none⟩ (.int .u8 ((255 - F i : Nat) : Int))) := (Kp.refl g wr).setCell i _
      have HX : Hid (i < n ∧ wrap64 ((i : Int) + 1) = (i : Int) + 1 ∧ Pc22 w (wr.setCell ⟨g, i, none⟩ (.int .u8 ((255 - F i : Nat) : Int))) x lo hi b n D k C fa code f mb 0 0 ∧ Rw (wr.setCell ⟨g, i, none⟩ (.int .u8 ((255 - F i : Nat) : Int))) g G (fun j => if j = i then 255 - F i else F j) ∧ Ri (wr.setCell ⟨g, i, none⟩ (.int .u8 ((255 - F i : Nat) : Int))) h H Fh) :=
        ⟨hlt, by have := HS.out.2.2.1; unfold wrap64; omega, hP.ke k1.ke (fun y e => by have := HK.out; have := hP.hmb; have := hP.so.bl; omega), hRg.set i (255 - F i) (by omega), hRh.kp k1 (fun e => HK.out.1 e.symm)⟩
      generalize 255 - F i = v at *
      generalize F i = u at *
      clear hP hRg hRh hi' hlt hiG hF k1
      go_wp2
      go_roundw
      case rel => exact ⟨i + 1, _, HX.out.1, by first | rfl | (rw [HX.out.2.1]; rfl), HX.out.2.2⟩
      case measure => first | exact meas_lt8 HX.out.1 | (rw [HX.out.2.1]; exact meas_lt8 HX.out.1)
    · have ib : ¬ ((i : Nat) : Int) < (n : Int) := by omega
      have HP1 : Hid (Pc22 w wr x lo hi b n D k C fa code f mb 0 0 ∧ Ri wr h H Fh) := ⟨hP, hRh⟩
      clear hP hRg hRh hi' hlt
      go_upto_region 12 with (fail)
      clear ib
      go_loopw [10] (fun s9 wr => ∃ (i : Nat) (F : Nat → Int), i ≤ k ∧ s9 = .int .i64 (i : Int) ∧ Pc22 w wr x lo hi b n D k C fa code f mb 0 0 ∧ Ri wr h H F) (fun s9 _ => k - (intOf s9).toNat)
      case atStart => exact ⟨0, Fh, Nat.zero_le _, rfl, HP1.out⟩
      case round =>
        obtain ⟨i, F, hi', rfl, hP, hRh⟩ := hrel
        clear HP1
        by_cases hlt : i < k
        · have hiG : i < H := by have := HK.out; omega
          have q1 := hRh.2.2.cell hiG
          have q2 := hRh.2.2.frozen i
          have ib : ((i : Nat) : Int) < (k : Int) := Int.ofNat_lt.2 hlt
          have k1 : Kp h wr (wr.setCell ⟨h, i, none⟩ (.int .i64 (-5))) := (Kp.refl h wr).setCell i _
          have HX : Hid (i < k ∧ wrap64 ((i : Int) + 1) = (i : Int) + 1 ∧ Pc22 w (wr.setCell ⟨h, i, none⟩ (.int .i64 (-5))) x lo hi b n D k C fa code f mb 0 0 ∧ Ri (wr.setCell ⟨h, i, none⟩ (.int .i64 (-5))) h H (fun j => if j = i then -5 else F j)) :=
            ⟨hlt, by have := HS.out.2.2.2; unfold wrap64; omega, hP.ke k1.ke (fun y e => by have := HK.out; have := hP.hmb; have := hP.so.bl; omega), hRh.set i (-5)⟩
          clear hP hRh hi' hlt hiG k1
          go_wp2
          go_roundw
          case rel => exact ⟨i + 1, _, HX.out.1, by first | rfl | (rw [HX.out.2.1]; rfl), HX.out.2.2⟩
          case measure => first | exact meas_lt8 HX.out.1 | (rw [HX.out.2.1]; exact meas_lt8 HX.out.1)
        · have ib : ¬ ((i : Nat) : Int) < (k : Int) := by omega
          have HP2 : Hid (Pc22 w wr x lo hi b n D k C fa code f mb 0 0) := hP
          clear hP hRh hi' hlt
          go_upto_region 16 with (fail)
          clear ib
          go_loopw [65] (fun s9 wr => ∃ (i p t : Nat), i ≤ ns ∧ s9 = .int .i64 (i : Int) ∧ t ≤ i ∧ Pc22 w wr x lo hi b n D k C fa code f mb p t) (fun s9 _ => ns - (intOf s9).toNat)
          case atStart => exact ⟨0, 0, 0, Nat.zero_le _, rfl, Nat.le_refl _, HP2.out⟩
          case round =>
            obtain ⟨i, p, t, hi', rfl, hti, hP⟩ := hrel
            clear HP2
            by_cases hlt : i < ns
            · obtain ⟨-, -, sa, scc, es, -, -, hq⟩ := HS.out.1
              cases es
              obtain ⟨sb, so, rfl, hsl, hsc⟩ := hq (by omega)
              have q1 : wr.cell? ⟨sb, so + i, none⟩ = some (.int .i64 (Z i)) := (hP.bel.cell (p := ⟨sb, so + i, none⟩) hsl).trans (hsc i hlt)
              have ib : ((i : Nat) : Int) < (ns : Int) := Int.ofNat_lt.2 hlt
              have hz := zn22_lt (Z i)
              have A1 := and1023_22 (Z i)
              obtain ⟨l, hl⟩ : ∃ l, l = zn22 (Z i) := ⟨_, rfl⟩
              rw [← hl] at A1 hz
              have hmk := make_u8 l (by omega)
              have r0 := made_rw l (by omega) wr
              have bd : Below wr.heap.size wr (wr.alloc (.cells (madeCells #[.int .u8 0] l) 5)) := (Below.refl _ _).alloc (Nat.le_refl _) _
              have hgp : w.heap.size ≤ wr.heap.size ∧ (wr.heap.size < lo ∨ hi ≤ wr.heap.size) ∧ wr.heap.size ≠ mb := ⟨hP.bel.size, .inr hP.so.hh, fun e => by have := hP.mo.lt; omega⟩
              have c5 := pc_round22 l wr.heap.size _ (hP.below bd) hz r0 hgp (by have := HS.out.2.1; omega)
              have Hi : Hid (i < ns ∧ wrap64 ((i : Int) + 1) = (i : Int) + 1 ∧ t ≤ i ∧ l < 1024) := ⟨hlt, by have := HS.out.2.1; unfold wrap64; omega, hti, hz⟩
              have Hgp : Hid (w.heap.size ≤ wr.heap.size ∧ (wr.heap.size < lo ∨ hi ≤ wr.heap.size) ∧ wr.heap.size ≠ mb) := hgp
              obtain ⟨gp, hgpe⟩ : ∃ gp, Hid (wr.heap.size = gp) := ⟨_, rfl⟩
              rw [hgpe.out] at Hgp
              clear hP r0 bd hgp hi' hlt hti hsl hsc hq hl hz
              go_upto_region 25 with (first
                | (go_at_call 13; (with_reducible refine c5.mono ?_); rintro e w6 ⟨m, ev, rfl, hm, c6⟩; clear c5 q1 hmk; have hcut := run_head22 (some ⟨wr.heap.size, 0, none⟩) l l m hm; clear hm)
                | (go_at_call 14; (with_reducible refine c6.mono ?_); rintro e w7 ⟨v, cq, er, rfl, c7, c8, c9⟩; clear c6)
                | (go_at_call 16; (with_reducible refine c7.mono ?_); rintro e w9 ⟨rfl, hw9⟩; have hw9 := hw9.symm; subst hw9; clear c7)
                | (go_at_call 15; (with_reducible refine c8.mono ?_); rintro e w9 ⟨rfl, hw9⟩; have hw9 := hw9.symm; subst hw9; clear c8)
                | (go_at_call 9; (with_reducible refine c9.mono ?_); rintro e w10 ⟨rfl, ⟨F', hR⟩, t', ht', hP⟩; have HR : Hid _ := hR; have HP : Hid _ := hP; have Ht : Hid _ := ht'; clear c9 hR hP ht' hcut))
              rw [hgpe.out] at HR
              rw [hgpe.out]
              clear ib A1
              go_loopw [19] (fun s9 wr => ∃ (j : Nat) (F : Nat → Nat), j ≤ l ∧ s9 = .int .i64 (j : Int) ∧ Rw wr gp l F ∧ Pc22 w wr x lo hi b n D k C fa code f mb (p + m) t') (fun s9 _ => l - (intOf s9).toNat)
              case atStart => exact ⟨0, F', Nat.zero_le _, rfl, HR.out, HP.out⟩
              case round =>
                obtain ⟨j, F, hj, rfl, hR, hP⟩ := hrel
                clear HR HP
                by_cases hjl : j < l
                · have q1 := hR.2.2.cell hjl
                  have q2 := hR.2.2.frozen j
                  have ib : ((j : Nat) : Int) < (l : Int) := Int.ofNat_lt.2 hjl
                  have k1 : Kp gp wr (wr.setCell ⟨gp, j, none⟩ (.int .u8 77)) := (Kp.refl gp wr).setCell j _
                  have HX : Hid (j < l ∧ wrap64 ((j : Int) + 1) = (j : Int) + 1 ∧ Rw (wr.setCell ⟨gp, j, none⟩ (.int .u8 77)) gp l (fun i => if i = j then 77 else F i) ∧ Pc22 w (wr.setCell ⟨gp, j, none⟩ (.int .u8 77)) x lo hi b n D k C fa code f mb (p + m) t') :=
                    ⟨hjl, by have := Hi.out.2.2.2; unfold wrap64; omega, hR.set j 77 (by decide), hP.ke k1.ke (fun y e => by rw [e]; exact Hgp.out)⟩
                  clear hR hP hj hjl k1
                  go_wp2
                  go_roundw
                  case rel => exact ⟨j + 1, _, HX.out.1, by first | rfl | (rw [HX.out.2.1]; rfl), HX.out.2.2⟩
                  case measure => first | exact meas_lt8 HX.out.1 | (rw [HX.out.2.1]; exact meas_lt8 HX.out.1)
                · have ib : ¬ ((j : Nat) : Int) < (l : Int) := by omega
                  have HP : Hid _ := hP
                  clear hP hR hj hjl
                  go_wp2
                  have Wi := Hi.out.2.1
                  first
                    | (go_roundw
                       case rel => exact ⟨i + 1, p + m, t', Hi.out.1, by first | rfl | (rw [Wi]; rfl), by have := Ht.out; have := Hi.out.2.2.1; omega, HP.out⟩
                       case measure => first | exact meas_lt8 Hi.out.1 | (rw [Wi]; exact meas_lt8 Hi.out.1))
                    | (rw [Wi]; exact ⟨⟨i + 1, p + m, t', Hi.out.1, rfl, by have := Ht.out; have := Hi.out.2.2.1; omega, HP.out⟩, meas_lt8 Hi.out.1⟩)
            · have ib : ¬ ((i : Nat) : Int) < (ns : Int) := by omega
              have HP : Hid _ := hP.bel
              clear hP hi' hlt
              go_wp2
              go_ret
              exact ⟨rfl, HP.out⟩
end Go.Proofs.YtfbgcednodnioabDoor
