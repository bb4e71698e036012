import Derived.Test.YtfbgcednodnioabDoorPcan
import Derived.Deep.Cut
import Derived.Deep.DeepCutAuto
namespace Go.Proofs.YtfbgcednodnioabDoor
open Go.RowKit Gf2
set_option linter.unusedVariables false

-- layer 22: the document's source
/-- the document's source in block mb; its lists lie below block B. -/
structure Mo (B : Nat) (w : World) (mb n : Nat) (D : Nat → Nat) (k : Nat) (C : Nat → Int) (fa : Int) (p t : Nat) : Prop where
  mbB : B ≤ mb
  dat : ∃ a c a' c', w.heap[mb]? = some (.cells #[.slice a n c, .slice a' k c', .int .i64 fa, .int .i64 (p : Int), .int .i64 (t : Int)] 64 (0, 0)) ∧ Bi (fun x => x < B) w (.slice a n c) n D ∧ Ii (fun x => x < B) w (.slice a' k c') k C
  pn : p ≤ n
  pf : 0 ≤ fa → (p : Int) ≤ fa
  nb : n ≤ 140737488355328
  kb : k ≤ 140737488355328
  tb : t ≤ 2305843009213693952
  ff : I6x fa
section
variable {B mb n k p t : Nat} {w w' : World} {D : Nat → Nat} {C : Nat → Int} {fa : Int}
theorem Mo.keep {E : Nat → Prop} (h : Mo B w mb n D k C fa p t) (hk : Ke E w w') (hE : ∀ x, x < B → ¬ E x) (hm : ¬ E mb) : Mo B w' mb n D k C fa p t := by
  obtain ⟨a, c, a', c', h1, h2, h3⟩ := h.dat
  exact ⟨h.mbB, ⟨a, c, a', c', (hk.2 mb (Array.getElem?_eq_some_iff.1 h1).1 hm).trans h1, h2.ke hk hE, h3.ke hk hE⟩, h.pn, h.pf, h.nb, h.kb, h.tb, h.ff⟩
theorem Mo.drewN (h : Mo B w mb n D k C fa p t) (m : Nat) : Mo B (w.drewN m) mb n D k C fa p t := h.keep ((Ke.refl (fun _ => False) w).drewN m) (fun _ _ e => e) (fun e => e)
theorem Mo.below (h : Mo B w mb n D k C fa p t) (hb : Below w.heap.size w w') : Mo B w' mb n D k C fa p t := h.keep (ke_below hb (fun _ => False)) (fun _ _ e => e) (fun e => e)
theorem Mo.lt (h : Mo B w mb n D k C fa p t) : mb < w.heap.size := by
  obtain ⟨a, c, a', c', h1, -⟩ := h.dat
  exact (Array.getElem?_eq_some_iff.1 h1).1
end
set_option maxHeartbeats 2000000 in
set_option maxRecDepth 100000 in
theorem refread22_zero (mb : Nat) (l : Int) (hl : l ≤ 0) (w : World) :
    Calls Tryd.prog 14 #[.pointer (some ⟨mb, 0, none⟩), .int .i64 l] w fun e w' => e = .returned (.tuple #[.slice none 0 0, .int .i64 0]) ∧ w' = w := by
  go_enter Tryd.func14, Tryd.ntmps14
  go_wp2
  go_ret2
  exact ⟨rfl, rfl⟩
set_option maxHeartbeats 2000000 in
set_option maxRecDepth 100000 in
theorem refread22_fail {B mb n k p t : Nat} {D : Nat → Nat} {C : Nat → Int} {fa : Int} (l : Nat) (hl : 0 < l) (w : World) (h : Mo B w mb n D k C fa p t) (hf : 0 ≤ fa) (hp : (p : Int) = fa) :
    Calls Tryd.prog 14 #[.pointer (some ⟨mb, 0, none⟩), .int .i64 (l : Int)] w fun e w' => e = .returned (.tuple #[.slice none 0 0, .int .i64 2]) ∧ ∃ m, w' = w.drewN m := by
  obtain ⟨a, c, a', c', h1, h2, h3⟩ := h.dat
  have z2 : w.cell? ⟨mb, 2, none⟩ = some (.int .i64 fa) := by rw [cell_of_row _ _ 2 _ _ _ h1]; rfl
  have z3 : w.cell? ⟨mb, 3, none⟩ = some (.int .i64 (p : Int)) := by rw [cell_of_row _ _ 3 _ _ _ h1]; rfl
  subst hp
  have D1 : ¬ l = 0 := by omega
  have D2 : decide (0 ≤ (p : Int)) = true := decide_eq_true hf
  clear h h1 h2 h3 hl hf
  go_enter Tryd.func14, Tryd.ntmps14
  go_wp2
  go_quiet (fail)
  go_wp2
  go_ret2
  exact ⟨rfl, _, rfl⟩
set_option maxHeartbeats 2000000 in
set_option maxRecDepth 100000 in
theorem refread22_end {B mb n k p t : Nat} {D : Nat → Nat} {C : Nat → Int} {fa : Int} (l : Nat) (hl : 0 < l) (w : World) (h : Mo B w mb n D k C fa p t) (hp : ¬ (0 ≤ fa ∧ (p : Int) = fa)) (hn : p = n) :
    Calls Tryd.prog 14 #[.pointer (some ⟨mb, 0, none⟩), .int .i64 (l : Int)] w fun e w' => e = .returned (.tuple #[.slice none 0 0, .int .i64 1]) ∧ ∃ m, w' = w.drewN m := by
  obtain ⟨a, c, a', c', h1, h2, h3⟩ := h.dat
  have z0 : w.cell? ⟨mb, 0, none⟩ = some (.slice a n c) := by rw [cell_of_row _ _ 0 _ _ _ h1]; rfl
  have z2 : w.cell? ⟨mb, 2, none⟩ = some (.int .i64 fa) := by rw [cell_of_row _ _ 2 _ _ _ h1]; rfl
  have z3 : w.cell? ⟨mb, 3, none⟩ = some (.int .i64 (p : Int)) := by rw [cell_of_row _ _ 3 _ _ _ h1]; rfl
  subst hn
  have D1 : ¬ l = 0 := by omega
  rcases Int.lt_or_le fa 0 with hf | hf
  · have D2 : decide (0 ≤ fa) = false := decide_eq_false (by omega)
    clear h h1 h2 h3 hl hf hp
    go_enter Tryd.func14, Tryd.ntmps14
    go_wp2
    go_quiet (fail)
    go_wp2
    go_quiet (fail)
    go_wp2
    go_ret2
    exact ⟨rfl, _, World.drewN_drewN _ _ _⟩
  · have D2 : decide (0 ≤ fa) = true := decide_eq_true hf
    have D3 : ((p : Int) == fa) = false := beq_eq_false_iff_ne.2 (fun e => hp ⟨hf, e⟩)
    clear h h1 h2 h3 hl hf hp
    go_enter Tryd.func14, Tryd.ntmps14
    go_wp2
    go_quiet (fail)
    go_wp2
    go_quiet (fail)
    go_wp2
    go_ret2
    exact ⟨rfl, _, World.drewN_drewN _ _ _⟩
end Go.Proofs.YtfbgcednodnioabDoor
namespace Go.Proofs.YtfbgcednodnioabDoor
open Go.RowKit Gf2
set_option linter.unusedVariables false

-- layer 22: the document's read that has its turn
/-- the document's number, an integer. -/
def mi22 (l n p : Nat) (fa : Int) (k : Nat) (C : Nat → Int) (t : Nat) : Int :=
  let y : Int := if 0 ≤ fa then min (min (l : Int) ((n : Int) - p)) (fa - p) else min (l : Int) ((n : Int) - p)
  if k = 0 then y else min y (C (t % k))
theorem mi22_rd {l n p : Nat} {fa : Int} {k : Nat} {C : Nat → Int} {t : Nat} (hp : p ≤ n) (hf : 0 ≤ fa → (p : Int) ≤ fa) : (mi22 l n p fa k C t).toNat = rd22 l n p fa k C t := by
  unfold mi22 rd22 mo22 tw22
  dsimp only
  by_cases h1 : 0 ≤ fa
  · have := hf h1
    rw [if_pos h1, if_pos h1]
    by_cases h2 : k = 0
    · rw [if_pos h2, if_pos h2]; omega
    · rw [if_neg h2, if_neg h2]; generalize C (t % k) = c; omega
  · rw [if_neg h1, if_neg h1]
    by_cases h2 : k = 0
    · rw [if_pos h2, if_pos h2]; omega
    · rw [if_neg h2, if_neg h2]; generalize C (t % k) = c; omega
theorem mo_mem22 {B mb n k p t : Nat} {D : Nat → Nat} {C : Nat → Int} {fa : Int} {w : World} {a a' : Option Addr} {c c' : Nat} (h : Mo B w mb n D k C fa p t) (htb : t < 2305843009213693952)
    (h1 : w.heap[mb]? = some (.cells #[.slice a n c, .slice a' k c', .int .i64 fa, .int .i64 (p : Int), .int .i64 (t : Int)] 64 (0, 0))) (h2 : Bi (fun x => x < B) w (.slice a n c) n D) (h3 : Ii (fun x => x < B) w (.slice a' k c') k C) (j : Nat) :
    ((w.drewN j).frozen? ⟨mb, 4, none⟩ = false) ∧ (((w.drewN j).setCell ⟨mb, 4, none⟩ (.int .i64 ((t + 1 : Nat) : Int))).cell? ⟨mb, 0, none⟩ = some (.slice a n c)) ∧ (((w.drewN j).setCell ⟨mb, 4, none⟩ (.int .i64 ((t + 1 : Nat) : Int))).cell? ⟨mb, 3, none⟩ = some (.int .i64 (p : Int))) ∧
      ((Nb w.heap.size ((w.drewN j).setCell ⟨mb, 4, none⟩ (.int .i64 ((t + 1 : Nat) : Int))) (.slice none 0 0) 0 (fun i => D (p + i)) ∧ Mo B ((w.drewN j).setCell ⟨mb, 4, none⟩ (.int .i64 ((t + 1 : Nat) : Int))) mb n D k C fa (p + 0) (t + 1) ∧ Ke (fun x => x = mb) w ((w.drewN j).setCell ⟨mb, 4, none⟩ (.int .i64 ((t + 1 : Nat) : Int)))) ∧
      ∀ m, p + m ≤ n → (0 ≤ fa → ((p + m : Nat) : Int) ≤ fa) → ∃ a2 w2 g Cg, (∀ W : World, (Instr.slice 28 (.slice a n c) (some (.int .i64 (p : Int))) (some (.int .i64 ((p + m : Nat) : Int))) none).run Tryd.prog W = .ok (.slice a2 m (c - p)) W) ∧
        (Builtin.append_ #[28, 28] 28 #[.slice (some ⟨w.heap.size, 0, none⟩) 0 0, .slice a2 m (c - p)]).run Tryd.prog ((((w.drewN j).setCell ⟨mb, 4, none⟩ (.int .i64 ((t + 1 : Nat) : Int))).drew).alloc (.cells #[] 5)) = .ok (.slice (some ⟨g, 0, none⟩) m Cg) w2 ∧
        w2.cell? ⟨mb, 0, none⟩ = some (.slice a n c) ∧ w2.cell? ⟨mb, 3, none⟩ = some (.int .i64 (p : Int)) ∧ w2.frozen? ⟨mb, 3, none⟩ = false ∧
        Nb w.heap.size (w2.setCell ⟨mb, 3, none⟩ (.int .i64 ((p + m : Nat) : Int))) (.slice (some ⟨g, 0, none⟩) m Cg) m (fun i => D (p + i)) ∧ Mo B (w2.setCell ⟨mb, 3, none⟩ (.int .i64 ((p + m : Nat) : Int))) mb n D k C fa (p + m) (t + 1) ∧ Ke (fun x => x = mb) w (w2.setCell ⟨mb, 3, none⟩ (.int .i64 ((p + m : Nat) : Int)))) := by
  have hml : mb < w.heap.size := (Array.getElem?_eq_some_iff.1 h1).1
  have hmB : ∀ x, x < B → ¬ (x = mb) := fun x hx e => by have := h.mbB; omega
  have B1 : (w.drewN j).heap[mb]? = some (.cells #[.slice a n c, .slice a' k c', .int .i64 fa, .int .i64 (p : Int), .int .i64 (t : Int)] 64 (0, 0)) := h1
  have B2 := heap_setCell_same (w.drewN j) mb 4 _ _ (.int .i64 ((t + 1 : Nat) : Int)) B1
  have k1 : Kp mb w ((w.drewN j).setCell ⟨mb, 4, none⟩ (.int .i64 ((t + 1 : Nat) : Int))) := ((Kp.refl mb w).drewN j).setCell 4 _
  have sz : ((w.drewN j).setCell ⟨mb, 4, none⟩ (.int .i64 ((t + 1 : Nat) : Int))).heap.size = w.heap.size := by
    have : ((w.drewN j).setCell ⟨mb, 4, none⟩ (.int .i64 ((t + 1 : Nat) : Int))).heap.size = (w.drewN j).heap.size := ((Only.refl mb (w.drewN j)).setCell 4 _).2.1
    rw [this]; rfl
  obtain ⟨W, hW⟩ : ∃ W, W = (w.drewN j).setCell ⟨mb, 4, none⟩ (.int .i64 ((t + 1 : Nat) : Int)) := ⟨_, rfl⟩
  rw [← hW] at B2 k1 sz
  rw [← hW]
  have B2' : W.heap[mb]? = some (.cells #[.slice a n c, .slice a' k c', .int .i64 fa, .int .i64 (p : Int), .int .i64 ((t + 1 : Nat) : Int)] 64 (0, 0)) := B2
  have M1 : Mo B W mb n D k C fa p (t + 1) := ⟨h.mbB, ⟨a, c, a', c', B2', h2.ke k1.ke (fun x hx => hmB x hx), h3.ke k1.ke (fun x hx => hmB x hx)⟩, h.pn, h.pf, h.nb, h.kb, by omega, h.ff⟩
  refine ⟨frozen_of_row _ _ 4 _ _ B1, by rw [cell_of_row _ _ 0 _ _ _ B2']; rfl, by rw [cell_of_row _ _ 3 _ _ _ B2']; rfl, ⟨⟨Nat.zero_le _, fun i hi => absurd hi (Nat.not_lt_zero _), none, 0, rfl, Nat.le_refl _, Nat.zero_le _, fun h => absurd h (Nat.lt_irrefl _)⟩, M1, k1.ke⟩, fun m hm hf => ?_⟩
  have h2W : Bi (fun x => x < B) W.drew (.slice a n c) n D := (h2.ke k1.ke (fun x hx => hmB x hx)).ke ((Ke.refl (fun _ => False) W).drewN 1) (fun _ _ e => e)
  obtain ⟨a2, hB3, hcut⟩ := h2W.cut (f := p) (t := p + m) (by omega) hm
  rw [Nat.add_sub_cancel_left] at hB3 hcut
  obtain ⟨w2, g, Cg, F, hrun, j1, j2, j3, j4, j5, j6⟩ := copy_appw W.drew hB3.rb (by have := h.nb; omega)
  have szd : W.drew.heap.size = w.heap.size := sz
  rw [szd] at hrun j2
  have B3 : w2.heap[mb]? = some (.cells #[.slice a n c, .slice a' k c', .int .i64 fa, .int .i64 (p : Int), .int .i64 ((t + 1 : Nat) : Int)] 64 (0, 0)) := (j6.block mb (by omega)).trans B2'
  have B4 := heap_setCell_same w2 mb 3 _ _ (.int .i64 ((p + m : Nat) : Int)) B3
  have k3 : Kp mb w2 (w2.setCell ⟨mb, 3, none⟩ (.int .i64 ((p + m : Nat) : Int))) := (Kp.refl mb w2).setCell 3 _
  have KK : Ke (fun x => x = mb) w (w2.setCell ⟨mb, 3, none⟩ (.int .i64 ((p + m : Nat) : Int))) := k1.ke.trans (((Ke.refl _ W).drewN 1).trans ((ke_below j6 _).trans k3.ke))
  refine ⟨a2, w2, g, Cg, hcut, hrun, by rw [cell_of_row _ _ 0 _ _ _ B3]; rfl, by rw [cell_of_row _ _ 3 _ _ _ B3]; rfl, frozen_of_row _ _ 3 _ _ B3, ?_, ⟨h.mbB, ⟨a, c, a', c', B4, h2.ke KK (fun x hx => hmB x hx), h3.ke KK (fun x hx => hmB x hx)⟩, hm, hf, h.nb, h.kb, by omega, h.ff⟩, KK⟩
  have r4 := k3.rw_ j4 (by omega)
  exact ⟨by have := r4.1; omega, fun i hi => by show D (p + i) < 256; rw [← j5 i hi]; exact r4.2.1 i (by omega), _, Cg, rfl, j1, r4.1, fun _ => ⟨g, 0, rfl, j2, r4.lt, fun i hi => by show _ = some (Value.int .u8 ((D (p + i) : Nat) : Int)); rw [Nat.zero_add, ← j5 i hi]; exact r4.2.2.cell (by omega)⟩⟩
set_option maxHeartbeats 4000000 in
set_option maxRecDepth 100000 in
theorem refread22_turnN {B mb n k p t : Nat} {D : Nat → Nat} {C : Nat → Int} {fa : Int} (l : Nat) (hl : 0 < l) (hlb : l ≤ 140737488355328) (w : World) (h : Mo B w mb n D k C fa p t) (hp : ¬ (0 ≤ fa ∧ (p : Int) = fa)) (hn : p < n) (htb : t < 2305843009213693952) (hf : fa < 0) :
    Calls Tryd.prog 14 #[.pointer (some ⟨mb, 0, none⟩), .int .i64 (l : Int)] w fun e w' => ∃ v, e = .returned (.tuple #[v, .int .i64 0]) ∧ Nb w.heap.size w' v (rd22 l n p fa k C t) (fun i => D (p + i)) ∧ Mo B w' mb n D k C fa (p + rd22 l n p fa k C t) (t + 1) ∧ Ke (fun x => x = mb) w w' := by
  obtain ⟨a, c, a', c', h1, h2, h3⟩ := h.dat
  have z0 : w.cell? ⟨mb, 0, none⟩ = some (.slice a n c) := by rw [cell_of_row _ _ 0 _ _ _ h1]; rfl
  have z1 : w.cell? ⟨mb, 1, none⟩ = some (.slice a' k c') := by rw [cell_of_row _ _ 1 _ _ _ h1]; rfl
  have z2 : w.cell? ⟨mb, 2, none⟩ = some (.int .i64 fa) := by rw [cell_of_row _ _ 2 _ _ _ h1]; rfl
  have z3 : w.cell? ⟨mb, 3, none⟩ = some (.int .i64 (p : Int)) := by rw [cell_of_row _ _ 3 _ _ _ h1]; rfl
  have z4 : w.cell? ⟨mb, 4, none⟩ = some (.int .i64 (t : Int)) := by rw [cell_of_row _ _ 4 _ _ _ h1]; rfl
  have D1 : ¬ l = 0 := by omega
  have D3 : ((p : Int) == (n : Int)) = false := beq_eq_false_iff_ne.2 (by omega)
  have D3N : ¬ p = n := by omega
  have W1 : IntKind.i64.wrap ((n : Int) - (p : Int)) = ((n - p : Nat) : Int) := by have := h.nb; rw [IntKind.wrap_i64]; omega
  have HM : Hid (∀ j : Nat, ((w.drewN j).frozen? ⟨mb, 4, none⟩ = false) ∧ (((w.drewN j).setCell ⟨mb, 4, none⟩ (.int .i64 ((t + 1 : Nat) : Int))).cell? ⟨mb, 0, none⟩ = some (.slice a n c)) ∧ (((w.drewN j).setCell ⟨mb, 4, none⟩ (.int .i64 ((t + 1 : Nat) : Int))).cell? ⟨mb, 3, none⟩ = some (.int .i64 (p : Int))) ∧
      ((Nb w.heap.size ((w.drewN j).setCell ⟨mb, 4, none⟩ (.int .i64 ((t + 1 : Nat) : Int))) (.slice none 0 0) 0 (fun i => D (p + i)) ∧ Mo B ((w.drewN j).setCell ⟨mb, 4, none⟩ (.int .i64 ((t + 1 : Nat) : Int))) mb n D k C fa (p + 0) (t + 1) ∧ Ke (fun x => x = mb) w ((w.drewN j).setCell ⟨mb, 4, none⟩ (.int .i64 ((t + 1 : Nat) : Int)))) ∧
      ∀ m, p + m ≤ n → (0 ≤ fa → ((p + m : Nat) : Int) ≤ fa) → ∃ a2 w2 g Cg, (∀ W : World, (Instr.slice 28 (.slice a n c) (some (.int .i64 (p : Int))) (some (.int .i64 ((p + m : Nat) : Int))) none).run Tryd.prog W = .ok (.slice a2 m (c - p)) W) ∧
        (Builtin.append_ #[28, 28] 28 #[.slice (some ⟨w.heap.size, 0, none⟩) 0 0, .slice a2 m (c - p)]).run Tryd.prog ((((w.drewN j).setCell ⟨mb, 4, none⟩ (.int .i64 ((t + 1 : Nat) : Int))).drew).alloc (.cells #[] 5)) = .ok (.slice (some ⟨g, 0, none⟩) m Cg) w2 ∧
        w2.cell? ⟨mb, 0, none⟩ = some (.slice a n c) ∧ w2.cell? ⟨mb, 3, none⟩ = some (.int .i64 (p : Int)) ∧ w2.frozen? ⟨mb, 3, none⟩ = false ∧
        Nb w.heap.size (w2.setCell ⟨mb, 3, none⟩ (.int .i64 ((p + m : Nat) : Int))) (.slice (some ⟨g, 0, none⟩) m Cg) m (fun i => D (p + i)) ∧ Mo B (w2.setCell ⟨mb, 3, none⟩ (.int .i64 ((p + m : Nat) : Int))) mb n D k C fa (p + m) (t + 1) ∧ Ke (fun x => x = mb) w (w2.setCell ⟨mb, 3, none⟩ (.int .i64 ((p + m : Nat) : Int))))) :=
    fun j => mo_mem22 h htb h1 h2 h3 j
  have HI : Hid (0 < k → ∃ x o, a' = some ⟨x, o, none⟩ ∧ ∀ i, i < k → w.cell? ⟨x, o + i, none⟩ = some (.int .i64 (C i))) := fun h0 => by
    obtain ⟨-, q1, q2, e, -, -, q3⟩ := h3
    cases e
    obtain ⟨x, o, e, -, -, hc⟩ := q3 h0
    exact ⟨x, o, e, hc⟩
  have HP : Hid ((mi22 l n p fa k C t).toNat = rd22 l n p fa k C t) := mi22_rd h.pn h.pf
  have HB : Hid (∀ m : Nat, m ≤ rd22 l n p fa k C t → p + m ≤ n ∧ (0 ≤ fa → ((p + m : Nat) : Int) ≤ fa)) := fun m hm => by
    have q := mo22_le (tw22 l k C t) n p fa
    have e : rd22 l n p fa k C t = mo22 (tw22 l k C t) n p fa := rfl
    have h6 := h.pn
    refine ⟨by omega, fun h0 => ?_⟩
    have := q.2.2 h0
    have := h.pf h0
    omega
  have HNB : Hid (n ≤ 140737488355328) := h.nb
  have HW6 : Hid (wrap64 ((t : Int) + 1) = ((t + 1 : Nat) : Int)) := by show wrap64 _ = _; unfold wrap64; omega
  have HW2 : Hid (0 ≤ fa → IntKind.i64.wrap (fa - (p : Int)) = fa - (p : Int)) := fun h0 => by
    have h5 := h.ff
    have h8 := h.pf h0
    unfold I6x at h5
    rw [IntKind.wrap_i64]
    omega
  have HN : Hid (p < n ∧ 0 < l) := ⟨hn, hl⟩
  clear h1 h2 h3 hl hlb hn
  have D2 : decide (0 ≤ fa) = false := decide_eq_false (by omega)
  have D2N : ¬ 0 ≤ fa := by omega
  clear hf hp HW2 h htb
  go_enter Tryd.func14, Tryd.ntmps14
  go_wp2
  go_quiet (fail)
  go_wp2
  go_quiet (fail)
  go_upto_region 8 with (fail)
  go_quiet (fail)
  go_upto_if 49 with (fail)
  rw [World.drewN_drewN, World.drewN_drewN]
  go_cut [6] (fun s6 wc => ∃ y : Nat, s6 = .int .i64 (y : Int) ∧ Hid (y = min l (n - p)) ∧ ∃ j, wc = w.drewN j)
  case first =>
    by_cases hq : n - p < l
    · have Dq : decide (((n - p : Nat) : Int) < (l : Int)) = true := decide_eq_true (by omega)
      go_wp2
      go_quiet (fail)
      go_wp2
      go_meet
      exact ⟨n - p, by first | rfl | rw [W1], by show _ = _; omega, _, World.drewN_drewN _ _ _⟩
    · have Dq : decide (((n - p : Nat) : Int) < (l : Int)) = false := decide_eq_false (by omega)
      go_wp2
      go_meet
      exact ⟨l, rfl, by show _ = _; omega, _, rfl⟩
  case rest =>
  obtain ⟨y1, rfl, HY1, j1, hwc⟩ := hcut
  clear W1
  have HY2 : Hid ((y1 : Int) = if 0 ≤ fa then min (min (l : Int) ((n : Int) - p)) (fa - p) else min (l : Int) ((n : Int) - p)) := by
    show _ = _
    have := HY1.out
    have := HN.out
    rw [if_neg (by omega)]
    omega
  obtain ⟨y2, hy2⟩ : ∃ y2 : Int, Hid ((y1 : Int) = y2) := ⟨_, rfl⟩
  rw [hy2.out] at HY2
  rw [hy2.out, hwc]
  clear hwc HY1 hy2
  go_wp2
  go_quiet (fail)
  obtain ⟨j2, hj2⟩ : ∃ j2, Hid ((w.drewN j1).drewN nq = w.drewN j2) := ⟨_, World.drewN_drewN _ _ _⟩
  rw [hj2.out]
  go_upto_if 92 with (fail)
  go_cut [6] (fun s6 wc => ∃ y : Int, s6 = .int .i64 y ∧ Hid (y = mi22 l n p fa k C t) ∧ ∃ j, wc = w.drewN j)
  case first =>
    have HR : Hid (∀ y : Int, y = (if k = 0 then y2 else min y2 (C (t % k))) → y = mi22 l n p fa k C t) := fun y hy => by
      rw [hy]
      unfold mi22
      rw [← HY2.out]
    clear HY2
    by_cases hk : k = 0
    · have Dk : decide ((0 : Int) < (k : Int)) = false := decide_eq_false (by omega)
      have DkN : ¬ 0 < k := by omega
      have HR2 : Hid (y2 = mi22 l n p fa k C t) := HR.out _ (by rw [if_pos hk])
      clear hk HR
      go_wp2
      go_meet
      exact ⟨y2, rfl, HR2.out, _, rfl⟩
    · have Dk : decide ((0 : Int) < (k : Int)) = true := decide_eq_true (by omega)
      have DkN : 0 < k := by omega
      obtain ⟨x, o, rfl, hcl⟩ := HI.out DkN
      have hq : t % k < k := Nat.mod_lt _ DkN
      have q1 := hcl (t % k) hq
      have W5 : ((t : Nat) : Int).tmod (k : Int) = ((t % k : Nat) : Int) := by rw [Int.tmod_eq_emod_of_nonneg (by omega)]; rfl
      have qb : ((t % k : Nat) : Int) < (k : Int) := by omega
      have Dk0 : ((k : Int) == 0) = false := beq_eq_false_iff_ne.2 (by omega)
      by_cases hc : C (t % k) < y2
      · have HR2 : Hid (C (t % k) = mi22 l n p fa k C t) := HR.out _ (by rw [if_neg hk]; omega)
        have Dc : decide (C (t % k) < y2) = true := decide_eq_true hc
        generalize C (t % k) = cq at *
        generalize t % k = q at *
        clear HR hcl hq
        go_wp2
        go_quiet (fail)
        go_wp2
        go_meet
        exact ⟨cq, rfl, HR2.out, _, by first | rfl | exact World.drewN_drewN _ _ _⟩
      · have HR2 : Hid (y2 = mi22 l n p fa k C t) := HR.out _ (by rw [if_neg hk]; omega)
        have Dc : decide (C (t % k) < y2) = false := decide_eq_false hc
        generalize C (t % k) = cq at *
        generalize t % k = q at *
        clear HR hcl hq
        go_wp2
        go_quiet (fail)
        go_wp2
        go_meet
        exact ⟨y2, rfl, HR2.out, _, by first | rfl | exact World.drewN_drewN _ _ _⟩
  case rest =>
  obtain ⟨y, rfl, HY, j, hwc⟩ := hcut
  rw [hwc]
  have HMj := HM.out j
  obtain ⟨f4, u0, u3, HMr⟩ := HMj
  have Hr : Hid (rd22 l n p fa k C t = y.toNat) := by rw [HY.out]; exact HP.out.symm
  have W6 := HW6.out
  obtain ⟨t1, ht1⟩ : ∃ t1, Hid (t + 1 = t1) := ⟨_, rfl⟩
  rw [ht1.out] at W6 HMr u0 u3
  by_cases hy0 : y ≤ 0
  · have Dy : decide (y ≤ 0) = true := decide_eq_true hy0
    have HG : Hid _ := HMr.1
    have Hy : Hid (y.toNat = 0) := by show y.toNat = 0; omega
    clear HY2 hwc HMr hy0 z0 z1 z2 z3 HI HY HM
    go_wp2
    go_ret2
    rw [Hr.out, Hy.out, ht1.out]
    exact ⟨_, rfl, HG.out.1, HG.out.2⟩
  · have Dy : decide (y ≤ 0) = false := decide_eq_false hy0
    obtain ⟨m, hm⟩ : ∃ m : Nat, y = (m : Int) := ⟨y.toNat, by omega⟩
    subst hm
    have DyN : ¬ m = 0 := by omega
    have HL : Hid (p + m ≤ n ∧ (0 ≤ fa → ((p + m : Nat) : Int) ≤ fa)) := HB.out m (by have := Hr.out; omega)
    obtain ⟨a2, w2, g, Cg, hcut, hrun, v0, v3, vf, HG'⟩ := HMr.2 m HL.out.1 HL.out.2
    have HG : Hid _ := HG'
    have HW7 : Hid (IntKind.i64.wrap ((p : Int) + (m : Int)) = ((p + m : Nat) : Int) ∧ wrap64 ((p : Int) + (m : Int)) = ((p + m : Nat) : Int)) := by
      have := HL.out.1
      have := HNB.out
      refine ⟨?_, ?_⟩
      · rw [IntKind.wrap_i64]; omega
      · unfold wrap64; omega
    obtain ⟨u, hu⟩ : ∃ u, Hid (p + m = u) := ⟨_, rfl⟩
    rw [hu.out] at HW7 hcut HG
    clear HY2 hwc HMr hy0 z0 z1 z2 z3 HI HY HM HG' HL
    go_upto_region 19 with (fail)
    clear W6
    have W7 := HW7.out.1
    have U0 : ((w.drewN j).setCell ⟨mb, 4, none⟩ (.int .i64 (t1 : Int))).drew.cell? ⟨mb, 0, none⟩ = some (.slice a n c) := u0
    have U3 : ((w.drewN j).setCell ⟨mb, 4, none⟩ (.int .i64 (t1 : Int))).drew.cell? ⟨mb, 3, none⟩ = some (.int .i64 (p : Int)) := u3
    refine region_planI (fun w' => w'.cell? ⟨mb, 0, none⟩ = some (.slice a n c) ∧ w'.cell? ⟨mb, 3, none⟩ = some (.int .i64 (p : Int))) [1, 2, 3, 4, 5, 6, 7, 8, 9, 10, 11, 12, 13, 14, 15, 0, 16, 17] [15, 0, 1] 149 ⟨U0, U3⟩ (by kernel_rfl) (by kernel_rfl) (fun _ a d v _ h => by cases d <;> exact h) ?_
    simp only [atI, List.getElem?_cons_zero, List.getElem?_cons_succ]
    refine planH_step ?AZ0 rfl (fun w' hS => ?sZ0) rfl (fun K hK => ?nZ0)
    case sZ0 =>
      obtain ⟨y0, y1⟩ := hS
      simp only [List.take_succ_cons, List.take_zero]
      repeat still_step
      exact rfl
    case nZ0 =>
    go_simp
    refine hK _ _ ⟨cell_new22 U0, cell_new22 U3⟩ ?_
    clear hK K
    refine planH_step ?AZ1 rfl (fun w' hS => ?sZ1) rfl (fun K hK => ?nZ1)
    case sZ1 =>
      obtain ⟨y0, y1⟩ := hS
      simp only [List.take_zero]
      exact rfl
    case nZ1 =>
    clear hcut
    refine step_app6 rfl _ _ _ rfl rfl rfl hrun ?_
    refine hK _ _ ⟨v0, v3⟩ ?_
    clear hK K
    refine planH_last ?AZ2 rfl (fun w' hS => ?sZ2) rfl ?nZ2
    case sZ2 =>
      obtain ⟨y0, y1⟩ := hS
      simp only [List.take_succ_cons, List.take_zero]
      repeat still_step
      exact rfl
    case nZ2 =>
    clear W7 u0 u3 U0 U3
    have W8 := HW7.out.2
    go_wp2
    go_ret2
    have Hy : Hid (((m : Nat) : Int).toNat = m) := by show _ = _; omega
    rw [Hr.out, Hy.out, ht1.out, hu.out]
    exact ⟨_, rfl, HG.out⟩
set_option maxHeartbeats 4000000 in
set_option maxRecDepth 100000 in
theorem refread22_turnP {B mb n k p t : Nat} {D : Nat → Nat} {C : Nat → Int} {fa : Int} (l : Nat) (hl : 0 < l) (hlb : l ≤ 140737488355328) (w : World) (h : Mo B w mb n D k C fa p t) (hp : ¬ (0 ≤ fa ∧ (p : Int) = fa)) (hn : p < n) (htb : t < 2305843009213693952) (hf : 0 ≤ fa) :
    Calls Tryd.prog 14 #[.pointer (some ⟨mb, 0, none⟩), .int .i64 (l : Int)] w fun e w' => ∃ v, e = .returned (.tuple #[v, .int .i64 0]) ∧ Nb w.heap.size w' v (rd22 l n p fa k C t) (fun i => D (p + i)) ∧ Mo B w' mb n D k C fa (p + rd22 l n p fa k C t) (t + 1) ∧ Ke (fun x => x = mb) w w' := by
  obtain ⟨a, c, a', c', h1, h2, h3⟩ := h.dat
  have z0 : w.cell? ⟨mb, 0, none⟩ = some (.slice a n c) := by rw [cell_of_row _ _ 0 _ _ _ h1]; rfl
  have z1 : w.cell? ⟨mb, 1, none⟩ = some (.slice a' k c') := by rw [cell_of_row _ _ 1 _ _ _ h1]; rfl
  have z2 : w.cell? ⟨mb, 2, none⟩ = some (.int .i64 fa) := by rw [cell_of_row _ _ 2 _ _ _ h1]; rfl
  have z3 : w.cell? ⟨mb, 3, none⟩ = some (.int .i64 (p : Int)) := by rw [cell_of_row _ _ 3 _ _ _ h1]; rfl
  have z4 : w.cell? ⟨mb, 4, none⟩ = some (.int .i64 (t : Int)) := by rw [cell_of_row _ _ 4 _ _ _ h1]; rfl
  have D1 : ¬ l = 0 := by omega
  have D3 : ((p : Int) == (n : Int)) = false := beq_eq_false_iff_ne.2 (by omega)
  have D3N : ¬ p = n := by omega
  have W1 : IntKind.i64.wrap ((n : Int) - (p : Int)) = ((n - p : Nat) : Int) := by have := h.nb; rw [IntKind.wrap_i64]; omega
  have HM : Hid (∀ j : Nat, ((w.drewN j).frozen? ⟨mb, 4, none⟩ = false) ∧ (((w.drewN j).setCell ⟨mb, 4, none⟩ (.int .i64 ((t + 1 : Nat) : Int))).cell? ⟨mb, 0, none⟩ = some (.slice a n c)) ∧ (((w.drewN j).setCell ⟨mb, 4, none⟩ (.int .i64 ((t + 1 : Nat) : Int))).cell? ⟨mb, 3, none⟩ = some (.int .i64 (p : Int))) ∧
      ((Nb w.heap.size ((w.drewN j).setCell ⟨mb, 4, none⟩ (.int .i64 ((t + 1 : Nat) : Int))) (.slice none 0 0) 0 (fun i => D (p + i)) ∧ Mo B ((w.drewN j).setCell ⟨mb, 4, none⟩ (.int .i64 ((t + 1 : Nat) : Int))) mb n D k C fa (p + 0) (t + 1) ∧ Ke (fun x => x = mb) w ((w.drewN j).setCell ⟨mb, 4, none⟩ (.int .i64 ((t + 1 : Nat) : Int)))) ∧
      ∀ m, p + m ≤ n → (0 ≤ fa → ((p + m : Nat) : Int) ≤ fa) → ∃ a2 w2 g Cg, (∀ W : World, (Instr.slice 28 (.slice a n c) (some (.int .i64 (p : Int))) (some (.int .i64 ((p + m : Nat) : Int))) none).run Tryd.prog W = .ok (.slice a2 m (c - p)) W) ∧
        (Builtin.append_ #[28, 28] 28 #[.slice (some ⟨w.heap.size, 0, none⟩) 0 0, .slice a2 m (c - p)]).run Tryd.prog ((((w.drewN j).setCell ⟨mb, 4, none⟩ (.int .i64 ((t + 1 : Nat) : Int))).drew).alloc (.cells #[] 5)) = .ok (.slice (some ⟨g, 0, none⟩) m Cg) w2 ∧
        w2.cell? ⟨mb, 0, none⟩ = some (.slice a n c) ∧ w2.cell? ⟨mb, 3, none⟩ = some (.int .i64 (p : Int)) ∧ w2.frozen? ⟨mb, 3, none⟩ = false ∧
        Nb w.heap.size (w2.setCell ⟨mb, 3, none⟩ (.int .i64 ((p + m : Nat) : Int))) (.slice (some ⟨g, 0, none⟩) m Cg) m (fun i => D (p + i)) ∧ Mo B (w2.setCell ⟨mb, 3, none⟩ (.int .i64 ((p + m : Nat) : Int))) mb n D k C fa (p + m) (t + 1) ∧ Ke (fun x => x = mb) w (w2.setCell ⟨mb, 3, none⟩ (.int .i64 ((p + m : Nat) : Int))))) :=
    fun j => mo_mem22 h htb h1 h2 h3 j
  have HI : Hid (0 < k → ∃ x o, a' = some ⟨x, o, none⟩ ∧ ∀ i, i < k → w.cell? ⟨x, o + i, none⟩ = some (.int .i64 (C i))) := fun h0 => by
    obtain ⟨-, q1, q2, e, -, -, q3⟩ := h3
    cases e
    obtain ⟨x, o, e, -, -, hc⟩ := q3 h0
    exact ⟨x, o, e, hc⟩
  have HP : Hid ((mi22 l n p fa k C t).toNat = rd22 l n p fa k C t) := mi22_rd h.pn h.pf
  have HB : Hid (∀ m : Nat, m ≤ rd22 l n p fa k C t → p + m ≤ n ∧ (0 ≤ fa → ((p + m : Nat) : Int) ≤ fa)) := fun m hm => by
    have q := mo22_le (tw22 l k C t) n p fa
    have e : rd22 l n p fa k C t = mo22 (tw22 l k C t) n p fa := rfl
    have h6 := h.pn
    refine ⟨by omega, fun h0 => ?_⟩
    have := q.2.2 h0
    have := h.pf h0
    omega
  have HNB : Hid (n ≤ 140737488355328) := h.nb
  have HW6 : Hid (wrap64 ((t : Int) + 1) = ((t + 1 : Nat) : Int)) := by show wrap64 _ = _; unfold wrap64; omega
  have HW2 : Hid (0 ≤ fa → IntKind.i64.wrap (fa - (p : Int)) = fa - (p : Int)) := fun h0 => by
    have h5 := h.ff
    have h8 := h.pf h0
    unfold I6x at h5
    rw [IntKind.wrap_i64]
    omega
  have HN : Hid (p < n ∧ 0 < l) := ⟨hn, hl⟩
  clear h1 h2 h3 hl hlb hn
  have D2 : decide (0 ≤ fa) = true := decide_eq_true hf
  have D2N : 0 ≤ fa := hf
  have D4 : ((p : Int) == fa) = false := beq_eq_false_iff_ne.2 (fun e => hp ⟨hf, e⟩)
  clear hf hp h htb
  go_enter Tryd.func14, Tryd.ntmps14
  go_wp2
  go_quiet (fail)
  go_wp2
  go_quiet (fail)
  go_upto_region 8 with (fail)
  go_quiet (fail)
  go_upto_if 49 with (fail)
  rw [World.drewN_drewN, World.drewN_drewN]
  go_cut [6] (fun s6 wc => ∃ y : Nat, s6 = .int .i64 (y : Int) ∧ Hid (y = min l (n - p)) ∧ ∃ j, wc = w.drewN j)
  case first =>
    by_cases hq : n - p < l
    · have Dq : decide (((n - p : Nat) : Int) < (l : Int)) = true := decide_eq_true (by omega)
      go_wp2
      go_quiet (fail)
      go_wp2
      go_meet
      exact ⟨n - p, by first | rfl | rw [W1], by show _ = _; omega, _, World.drewN_drewN _ _ _⟩
    · have Dq : decide (((n - p : Nat) : Int) < (l : Int)) = false := decide_eq_false (by omega)
      go_wp2
      go_meet
      exact ⟨l, rfl, by show _ = _; omega, _, rfl⟩
  case rest =>
  obtain ⟨y1, rfl, HY1, j1, hwc⟩ := hcut
  clear W1
  rw [hwc]
  clear hwc
  have W2 := HW2.out D2N
  go_wp2
  go_quiet (fail)
  go_upto_if 77 with (fail)
  rw [World.drewN_drewN]
  go_cut [6] (fun s6 wc => ∃ y : Int, s6 = .int .i64 y ∧ Hid (y = if 0 ≤ fa then min (min (l : Int) ((n : Int) - p)) (fa - p) else min (l : Int) ((n : Int) - p)) ∧ ∃ j, wc = w.drewN j)
  case first =>
    have HR : Hid (∀ y : Int, y = min (y1 : Int) (fa - p) → y = if 0 ≤ fa then min (min (l : Int) ((n : Int) - p)) (fa - p) else min (l : Int) ((n : Int) - p)) := fun y hy => by
      have := HY1.out
      have := HN.out
      rw [if_pos (by omega)]
      omega
    by_cases hq : fa - (p : Int) < (y1 : Int)
    · have Dq : decide (fa - (p : Int) < (y1 : Int)) = true := decide_eq_true hq
      clear HY1
      go_wp2
      go_quiet (fail)
      go_wp2
      go_meet
      exact ⟨fa - p, by first | rfl | rw [W2], HR.out _ (by omega), _, World.drewN_drewN _ _ _⟩
    · have Dq : decide (fa - (p : Int) < (y1 : Int)) = false := decide_eq_false hq
      clear HY1
      go_wp2
      go_meet
      exact ⟨y1, rfl, HR.out _ (by omega), _, rfl⟩
  case rest =>
  obtain ⟨y2, rfl, HY2, j2, hwc⟩ := hcut
  rw [hwc]
  clear hwc HY1 W2
  go_upto_if 92 with (fail)
  go_cut [6] (fun s6 wc => ∃ y : Int, s6 = .int .i64 y ∧ Hid (y = mi22 l n p fa k C t) ∧ ∃ j, wc = w.drewN j)
  case first =>
    have HR : Hid (∀ y : Int, y = (if k = 0 then y2 else min y2 (C (t % k))) → y = mi22 l n p fa k C t) := fun y hy => by
      rw [hy]
      unfold mi22
      rw [← HY2.out]
    clear HY2
    by_cases hk : k = 0
    · have Dk : decide ((0 : Int) < (k : Int)) = false := decide_eq_false (by omega)
      have DkN : ¬ 0 < k := by omega
      have HR2 : Hid (y2 = mi22 l n p fa k C t) := HR.out _ (by rw [if_pos hk])
      clear hk HR
      go_wp2
      go_meet
      exact ⟨y2, rfl, HR2.out, _, rfl⟩
    · have Dk : decide ((0 : Int) < (k : Int)) = true := decide_eq_true (by omega)
      have DkN : 0 < k := by omega
      obtain ⟨x, o, rfl, hcl⟩ := HI.out DkN
      have hq : t % k < k := Nat.mod_lt _ DkN
      have q1 := hcl (t % k) hq
      have W5 : ((t : Nat) : Int).tmod (k : Int) = ((t % k : Nat) : Int) := by rw [Int.tmod_eq_emod_of_nonneg (by omega)]; rfl
      have qb : ((t % k : Nat) : Int) < (k : Int) := by omega
      have Dk0 : ((k : Int) == 0) = false := beq_eq_false_iff_ne.2 (by omega)
      by_cases hc : C (t % k) < y2
      · have HR2 : Hid (C (t % k) = mi22 l n p fa k C t) := HR.out _ (by rw [if_neg hk]; omega)
        have Dc : decide (C (t % k) < y2) = true := decide_eq_true hc
        generalize C (t % k) = cq at *
        generalize t % k = q at *
        clear HR hcl hq
        go_wp2
        go_quiet (fail)
        go_wp2
        go_meet
        exact ⟨cq, rfl, HR2.out, _, by first | rfl | exact World.drewN_drewN _ _ _⟩
      · have HR2 : Hid (y2 = mi22 l n p fa k C t) := HR.out _ (by rw [if_neg hk]; omega)
        have Dc : decide (C (t % k) < y2) = false := decide_eq_false hc
        generalize C (t % k) = cq at *
        generalize t % k = q at *
        clear HR hcl hq
        go_wp2
        go_quiet (fail)
        go_wp2
        go_meet
        exact ⟨y2, rfl, HR2.out, _, by first | rfl | exact World.drewN_drewN _ _ _⟩
  case rest =>
  obtain ⟨y, rfl, HY, j, hwc⟩ := hcut
  rw [hwc]
  have HMj := HM.out j
  obtain ⟨f4, u0, u3, HMr⟩ := HMj
  have Hr : Hid (rd22 l n p fa k C t = y.toNat) := by rw [HY.out]; exact HP.out.symm
  have W6 := HW6.out
  obtain ⟨t1, ht1⟩ : ∃ t1, Hid (t + 1 = t1) := ⟨_, rfl⟩
  rw [ht1.out] at W6 HMr u0 u3
  by_cases hy0 : y ≤ 0
  · have Dy : decide (y ≤ 0) = true := decide_eq_true hy0
    have HG : Hid _ := HMr.1
    have Hy : Hid (y.toNat = 0) := by show y.toNat = 0; omega
    clear HY2 hwc HMr hy0 z0 z1 z2 z3 HI HY HM
    go_wp2
    go_ret2
    rw [Hr.out, Hy.out, ht1.out]
    exact ⟨_, rfl, HG.out.1, HG.out.2⟩
  · have Dy : decide (y ≤ 0) = false := decide_eq_false hy0
    obtain ⟨m, hm⟩ : ∃ m : Nat, y = (m : Int) := ⟨y.toNat, by omega⟩
    subst hm
    have DyN : ¬ m = 0 := by omega
    have HL : Hid (p + m ≤ n ∧ (0 ≤ fa → ((p + m : Nat) : Int) ≤ fa)) := HB.out m (by have := Hr.out; omega)
    obtain ⟨a2, w2, g, Cg, hcut, hrun, v0, v3, vf, HG'⟩ := HMr.2 m HL.out.1 HL.out.2
    have HG : Hid _ := HG'
    have HW7 : Hid (IntKind.i64.wrap ((p : Int) + (m : Int)) = ((p + m : Nat) : Int) ∧ wrap64 ((p : Int) + (m : Int)) = ((p + m : Nat) : Int)) := by
      have := HL.out.1
      have := HNB.out
      refine ⟨?_, ?_⟩
      · rw [IntKind.wrap_i64]; omega
      · unfold wrap64; omega
    obtain ⟨u, hu⟩ : ∃ u, Hid (p + m = u) := ⟨_, rfl⟩
    rw [hu.out] at HW7 hcut HG
    clear HY2 hwc HMr hy0 z0 z1 z2 z3 HI HY HM HG' HL
    go_upto_region 19 with (fail)
    clear W6
    have W7 := HW7.out.1
    have U0 : ((w.drewN j).setCell ⟨mb, 4, none⟩ (.int .i64 (t1 : Int))).drew.cell? ⟨mb, 0, none⟩ = some (.slice a n c) := u0
    have U3 : ((w.drewN j).setCell ⟨mb, 4, none⟩ (.int .i64 (t1 : Int))).drew.cell? ⟨mb, 3, none⟩ = some (.int .i64 (p : Int)) := u3
    refine region_planI (fun w' => w'.cell? ⟨mb, 0, none⟩ = some (.slice a n c) ∧ w'.cell? ⟨mb, 3, none⟩ = some (.int .i64 (p : Int))) [1, 2, 3, 4, 5, 6, 7, 8, 9, 10, 11, 12, 13, 14, 15, 0, 16, 17] [15, 0, 1] 149 ⟨U0, U3⟩ (by kernel_rfl) (by kernel_rfl) (fun _ a d v _ h => by cases d <;> exact h) ?_
    simp only [atI, List.getElem?_cons_zero, List.getElem?_cons_succ]
    refine planH_step ?AZ0 rfl (fun w' hS => ?sZ0) rfl (fun K hK => ?nZ0)
    case sZ0 =>
      obtain ⟨y0, y1⟩ := hS
      simp only [List.take_succ_cons, List.take_zero]
      repeat still_step
      exact rfl
    case nZ0 =>
    go_simp
    refine hK _ _ ⟨cell_new22 U0, cell_new22 U3⟩ ?_
    clear hK K
    refine planH_step ?AZ1 rfl (fun w' hS => ?sZ1) rfl (fun K hK => ?nZ1)
    case sZ1 =>
      obtain ⟨y0, y1⟩ := hS
      simp only [List.take_zero]
      exact rfl
    case nZ1 =>
    clear hcut
    refine step_app6 rfl _ _ _ rfl rfl rfl hrun ?_
    refine hK _ _ ⟨v0, v3⟩ ?_
    clear hK K
    refine planH_last ?AZ2 rfl (fun w' hS => ?sZ2) rfl ?nZ2
    case sZ2 =>
      obtain ⟨y0, y1⟩ := hS
      simp only [List.take_succ_cons, List.take_zero]
      repeat still_step
      exact rfl
    case nZ2 =>
    clear W7 u0 u3 U0 U3
    have W8 := HW7.out.2
    go_wp2
    go_ret2
    have Hy : Hid (((m : Nat) : Int).toNat = m) := by show _ = _; omega
    rw [Hr.out, Hy.out, ht1.out, hu.out]
    exact ⟨_, rfl, HG.out⟩
end Go.Proofs.YtfbgcednodnioabDoor
