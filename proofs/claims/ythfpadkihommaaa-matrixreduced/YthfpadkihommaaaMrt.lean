import Derived.Test.YthfpadkihommaaaMdb
import Derived.Test.YthfpadkihommaaaMrf
import Derived.Test.YthfpadkihommaaaMrn
import Derived.Test.YthfpadkihommaaaMrs
namespace Go.Proofs.Ythfpadkihommaaa
open Go.RowKit Gf2
set_option linter.unusedVariables false

def l0201 : Nat → Nat → Nat := fun i j => ((([[0, 2], [0, 1]] : List (List Nat)).getD i []).getD j 0)
def l0100 : Nat → Nat → Nat := fun i j => ((([[0, 1], [0, 0]] : List (List Nat)).getD i []).getD j 0)
theorem l0201_lt (i j : Nat) : l0201 i j < 256 := by
  match i, j with
  | 0, 0 => decide
  | 0, 1 => decide
  | 0, j + 2 => exact Nat.zero_lt_succ _
  | 1, 0 => decide
  | 1, 1 => decide
  | 1, j + 2 => exact Nat.zero_lt_succ _
  | i + 2, j => exact Nat.zero_lt_succ _
theorem l0100_lt (i j : Nat) : l0100 i j < 256 := by
  match i, j with
  | 0, 0 => decide
  | 0, 1 => decide
  | 0, j + 2 => exact Nat.zero_lt_succ _
  | 1, 0 => decide
  | 1, 1 => decide
  | 1, j + 2 => exact Nat.zero_lt_succ _
  | i + 2, j => exact Nat.zero_lt_succ _
theorem l0201_elm : (elm 2 l0201 2).t = 1 ∧ (elm 2 l0201 2).P 0 = 1 ∧ ∀ i, i < 2 → ∀ j, j < 2 → (elm 2 l0201 2).M i j = l0100 i j := by decide +kernel
theorem lit_qi (W : World) : Qi (W.alloc (.cells #[.int .i64 1] 3)) (.slice (some ⟨W.heap.size, 0, none⟩) 1 1) 1 (fun _ => 1) ∧ Below W.heap.size W (W.alloc (.cells #[.int .i64 1] 3)) :=
  ⟨⟨by decide, trivial, _, _, rfl, Nat.le_refl _, by decide, fun _ => ⟨_, _, rfl, by simp, fun i hi => by
    obtain rfl : i = 0 := by omega
    rw [Nat.add_zero, cell_of_row _ _ 0 _ _ _ (heap_alloc_new _ _)]
    rfl⟩⟩, (Below.refl _ _).alloc (Nat.le_refl _) _⟩
/-- the first example. -/
theorem red_first (w : World) : Calls Try.prog 18 #[.slice (some ⟨w.heap.size + 1 + 1, 0, none⟩) 2 2] (((w.alloc (.cells #[.int .u8 0, .int .u8 2] 5)).alloc (.cells #[.int .u8 0, .int .u8 1] 5)).alloc (.cells #[.slice (some ⟨w.heap.size, 0, none⟩) 2 2, .slice (some ⟨w.heap.size + 1, 0, none⟩) 2 2] 26)) fun e W1 => ∃ v1 p1, e = .returned (.tuple #[v1, p1, .int .i64 0]) ∧
    Calls Try.prog 10 #[v1, .slice (some ⟨W1.heap.size + 1 + 1, 0, none⟩) 2 2] (((W1.alloc (.cells #[.int .u8 0, .int .u8 1] 5)).alloc (.cells #[.int .u8 0, .int .u8 0] 5)).alloc (.cells #[.slice (some ⟨W1.heap.size, 0, none⟩) 2 2, .slice (some ⟨W1.heap.size + 1, 0, none⟩) 2 2] 26)) fun e W2 => e = .returned (.bool true) ∧
    Calls Try.prog 19 #[p1, .slice (some ⟨W2.heap.size, 0, none⟩) 1 1] (W2.alloc (.cells #[.int .i64 1] 3)) fun e W3 => e = .returned (.bool true) ∧ Below w.heap.size w W3 := by
  obtain ⟨h1, h2⟩ := lit2_lb (W := w) (a := #[.int .u8 0, .int .u8 2]) (b := #[.int .u8 0, .int .u8 1]) (F := l0201) rfl rfl (fun i j _ _ => l0201_lt i j) (fun i hi => by
      match i, hi with
      | 0, _ => rfl
      | 1, _ => rfl) (fun i hi => by
      match i, hi with
      | 0, _ => rfl
      | 1, _ => rfl)
  refine (reduce10_yes _ 2 2 l0201 _ h1 (by decide) (by decide) (by decide) (by decide) l0201_lt).mono ?_
  rintro e W1 ⟨v, pv, rfl, hA, hG⟩
  refine ⟨v, pv, rfl, ?_⟩
  obtain ⟨e1, e2, e3⟩ := l0201_elm
  obtain ⟨k1, k2⟩ := lit2_lb (W := W1) (a := #[.int .u8 0, .int .u8 1]) (b := #[.int .u8 0, .int .u8 0]) (F := l0100) rfl rfl (fun i j _ _ => l0100_lt i j) (fun i hi => by
      match i, hi with
      | 0, _ => rfl
      | 1, _ => rfl) (fun i hi => by
      match i, hi with
      | 0, _ => rfl
      | 1, _ => rfl)
  refine (same10_true v _ 2 (fun _ => 2) _ l0100 _ (hA.lb.below k2) k1 (fun r hr i hi => e3 r hr i hi)).mono ?_
  rintro e W2 ⟨rfl, q, hq⟩
  refine ⟨rfl, ?_⟩
  have hb2 : Below W1.heap.size W1 W2 := hq ▸ below_drewN k2 q
  have g := hG.qi
  rw [e1] at g
  obtain ⟨g1, g2⟩ := lit_qi W2
  have hb : Below w.heap.size w W2 := (h2.trans (hA.2.mono h2.size)).trans (hb2.mono (h2.trans (hA.2.mono h2.size)).size)
  refine (sameInts10_true pv _ 1 _ (fun _ => 1) _ ((g.below hb2).below g2) g1 (by decide) (fun i hi => ?_)).mono ?_
  · obtain rfl : i = 0 := by omega
    rw [e2]; rfl
  · rintro e W3 ⟨rfl, q3, rfl⟩
    exact ⟨rfl, hb.trans ((below_drewN g2 q3).mono hb.size)⟩
/-- what there is behind the second Reduce. -/
structure Fa (w W : World) (u v pv : Value) (m c : Nat) (S : Nat → Nat → Nat) (s : St) : Prop where
  bel : Below w.heap.size w W
  u : Lb W u m (fun _ => c) S
  v : Lb W v m (fun _ => c) s.M
  p : Qi W pv s.t (fun i => (s.P i : Int))
theorem Fa.step {w W W' : World} {u v pv : Value} {m c : Nat} {S : Nat → Nat → Nat} {s : St} (h : Fa w W u v pv m c S s) (hb : Below W.heap.size W W') : Fa w W' u v pv m c S s := ⟨h.bel.trans (hb.mono h.bel.size), h.u.below hb, h.v.below hb, h.p.below hb⟩
theorem red_a {w W : World} {u : Value} {m c : Nat} {S : Nat → Nat → Nat} (hb : Below w.heap.size w W) (h : Lb w u m (fun _ => c) S) (h1 : 1 ≤ m) (h2 : m ≤ 256) (h3 : 1 ≤ c) (h4 : c ≤ 512) (hS : ∀ i j, S i j < 256) :
    Calls Try.prog 11 #[u] W fun e W4 => e = .returned (.int .i64 (m : Int)) ∧ Below w.heap.size w W4 ∧ Calls Try.prog 13 #[u] W4 fun e W5 => ∃ t5, e = .returned t5 ∧
    Calls Try.prog 18 #[t5] W5 fun e W6 => ∃ v pv, e = .returned (.tuple #[v, pv, .int .i64 0]) ∧ Fa w W6 u v pv m c S (elm m S c) := by
  have k := h.below hb
  refine (side10_yes u m (fun _ => c) S W k (fm_n h1 h2 h3 h4)).mono ?_
  rintro e W4 ⟨rfl, q, rfl⟩
  have hb4 := below_drewN hb q
  have k4 := h.below hb4
  refine ⟨rfl, hb4, (twin10_any u m (fun _ => c) S _ k4 (by omega) (fun _ _ => by omega)).mono ?_⟩
  rintro e W5 ⟨rfl, hT⟩
  have l5 := (hT.cs (by unfold big; omega)).lb
  have hb5 := hb4.trans (hT.bel.mono hb4.size)
  refine ⟨_, rfl, (reduce10_yes _ m c S W5 l5 h1 h2 h3 h4 hS).mono ?_⟩
  rintro e W6 ⟨v, pv, rfl, hA, hG⟩
  exact ⟨v, pv, rfl, hb5.trans (hA.2.mono hb5.size), h.below (hb5.trans (hA.2.mono hb5.size)), hA.lb, hG.qi⟩
/-- what there is behind Null. -/
structure Fb (w W : World) (u v pv l : Value) (m c : Nat) (S : Nat → Nat → Nat) (s : St) : Prop where
  fa : Fa w W u v pv m c S s
  out : ∃ B k N, k + s.t = c ∧ Cs 0 W.heap.size W l k (fun _ => c) (fun _ => c) B N ∧ Nl s.t s.P s.M c N
theorem red_b {w W : World} {u v pv : Value} {m c : Nat} {S : Nat → Nat → Nat} (hF : Fa w W u v pv m c S (elm m S c)) (h1 : 1 ≤ m) (h2 : m ≤ 256) (h3 : 1 ≤ c) (h4 : c ≤ 256) (hS : ∀ i j, S i j < 256) :
    Calls Try.prog 13 #[u] W fun e X1 => ∃ t1, e = .returned t1 ∧ Calls Try.prog 14 #[t1] X1 fun e X2 => e = .returned (.tuple #[.int .i64 ((elm m S c).t : Int), .int .i64 0]) ∧
    Calls Try.prog 20 #[v, pv] X2 fun e X3 => e = .returned (.bool true) ∧ Calls Try.prog 13 #[u] X3 fun e X4 => ∃ t4, e = .returned t4 ∧
    Calls Try.prog 21 #[t4] X4 fun e X5 => ∃ x, e = .returned (.tuple #[x, .int .i64 0]) ∧ Calls Try.prog 14 #[x] X5 fun e X6 => e = .returned (.tuple #[.int .i64 ((elm m S c).t : Int), .int .i64 0]) ∧
    Calls Try.prog 13 #[u] X6 fun e X7 => ∃ t7, e = .returned t7 ∧ Calls Try.prog 22 #[t7] X7 fun e X8 => ∃ l, e = .returned (.tuple #[l, .int .i64 0]) ∧ Fb w X8 u v pv l m c S (elm m S c) := by
  have tw : ∀ X, Fa w X u v pv m c S (elm m S c) → Calls Try.prog 13 #[u] X fun e Y => ∃ t1, e = .returned t1 ∧ Lb Y t1 m (fun _ => c) S ∧ Fa w Y u v pv m c S (elm m S c) := fun X hX => by
    refine (twin10_any u m (fun _ => c) S _ hX.u (by omega) (fun _ _ => by omega)).mono ?_
    rintro e Y ⟨rfl, hT⟩
    exact ⟨_, rfl, (hT.cs (by unfold big; omega)).lb, hX.step hT.bel⟩
  refine (tw W hF).mono ?_
  rintro e X1 ⟨t1, rfl, l1, f1⟩
  refine ⟨t1, rfl, (rank10_yes t1 m c S X1 l1 h1 h2 h3 (by omega) hS).mono ?_⟩
  rintro e X2 ⟨rfl, b2⟩
  have f2 := f1.step b2
  refine ⟨rfl, (stairs10_true v pv m c _ _ _ X2 f2.v f2.p h1 (by omega) (by omega) (Red.sh (red_elm (m := m) hS c))).mono ?_⟩
  rintro e X3 ⟨rfl, hx3⟩
  have f3 : Fa w X3 u v pv m c S (elm m S c) := hx3.symm ▸ f2
  refine ⟨rfl, (tw X3 f3).mono ?_⟩
  rintro e X4 ⟨t4, rfl, l4, f4⟩
  refine ⟨t4, rfl, (transpose10_yes t4 m c S X4 l4 h1 h2 h3 h4).mono ?_⟩
  rintro e X5 ⟨x, rfl, hA⟩
  have f5 := f4.step hA.2
  have hr := rank10_yes x c m (fun i j => S j i) X5 hA.lb h3 h4 h1 (by omega) (fun _ _ => hS _ _)
  rw [rank_trn hS] at hr
  refine ⟨x, rfl, hr.mono ?_⟩
  rintro e X6 ⟨rfl, b6⟩
  have f6 := f5.step b6
  refine ⟨rfl, (tw X6 f6).mono ?_⟩
  rintro e X7 ⟨t7, rfl, l7, f7⟩
  refine ⟨t7, rfl, (null10_yes t7 m c S X7 l7 h1 h2 h3 (by omega) hS).mono ?_⟩
  rintro e X8 ⟨l, rfl, ⟨B, k, N, a1, a2, a3, a4⟩⟩
  exact ⟨l, rfl, f7.step a4, B, k, N, a1, a2.wide (Nat.zero_le _) (Nat.le_refl _) (Nat.le_refl _), a3⟩
end Go.Proofs.Ythfpadkihommaaa
