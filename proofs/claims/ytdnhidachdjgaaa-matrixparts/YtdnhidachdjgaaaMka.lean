import Derived.Test.YtdnhidachdjgaaaMya
import Derived.Test.YtdnhidachdjgaaaMyd
import Derived.Test.YtdnhidachdjgaaaKofa
namespace Go.Proofs.Ytdnhidachdjgaaa
open Go.RowKit Gf2
set_option linter.unusedVariables false

-- layer 10: cells, huge
def sm10 (n : Nat → Nat) : Nat → Nat
  | 0 => 0
  | r + 1 => sm10 n r + n r
theorem sm10_mono {n : Nat → Nat} {a b : Nat} (h : a ≤ b) : sm10 n a ≤ sm10 n b := by
  induction b with
  | zero => obtain rfl : a = 0 := by omega
            exact Nat.le_refl _
  | succ b ih =>
    by_cases e : a = b + 1
    · rw [e]; exact Nat.le_refl _
    · exact Nat.le_trans (ih (by omega)) (Nat.le_add_right _ _)
theorem cells_nums {s l : Nat} (h : s ≤ 1048576) (hl : l ≤ 140737488355328) : wrap64 ((s : Int) + (l : Int)) = ((s + l : Nat) : Int) := by unfold wrap64; omega
set_option maxHeartbeats 2000000 in
set_option maxRecDepth 100000 in
theorem cells10 (v : Value) (m : Nat) (n : Nat → Nat) (S : Nat → Nat → Nat) (w : World) (h : Lb w v m n S) (hb : ∀ i, i < m → n i ≤ 140737488355328) (hm : m ≤ 1000000000000000) :
    Calls Try.prog 10 #[v] w fun e w' => e = .returned (.int .i64 ((min (sm10 n m) 1048576 : Nat) : Int)) ∧ w' = w := by
  obtain ⟨z0, hz0⟩ : ∃ z, z = min (sm10 n m) 1048576 := ⟨_, rfl⟩
  rw [← hz0]
  have HZ : Hid (z0 = min (sm10 n m) 1048576) := hz0
  clear hz0
  obtain ⟨V, ⟨hn, a, cap, rfl, -, -, h4⟩, hV⟩ := h
  have sl : 0 < m → ∃ b o, a = some ⟨b, o, none⟩ ∧ ∀ i, i < m → ∃ x y, w.cell? ⟨b, o + i, none⟩ = some (.slice x (n i) y) := fun h0 => by
    obtain ⟨b, o, e, hbl, hc⟩ := h4 h0
    refine ⟨b, o, e, fun i hi => ?_⟩
    obtain ⟨_, _, x, y, e, _⟩ := hV i hi
    exact ⟨x, y, by rw [hc i hi, e]⟩
  have HS : Hid ((0 < m → ∃ b o, a = some ⟨b, o, none⟩ ∧ ∀ i, i < m → ∃ x y, w.cell? ⟨b, o + i, none⟩ = some (.slice x (n i) y)) ∧ (∀ i, i < m → n i ≤ 140737488355328) ∧ m ≤ 1000000000000000) := ⟨sl, hb, hm⟩
  clear h4 hV hn sl hb hm
  go_enter Try.func10, Try.ntmps10
  go_wp2
  go_loopw [3, 4] (fun s i wr => ∃ k : Nat, k ≤ m ∧ i = .int .i64 k ∧ s = .int .i64 (sm10 n k : Nat) ∧ sm10 n k ≤ 1048576 ∧ wr = w) (fun _ i _ => m - (intOf i).toNat)
  case atStart => exact ⟨0, Nat.zero_le _, rfl, rfl, Nat.zero_le _, rfl⟩
  case round =>
    obtain ⟨k, hk, rfl, rfl, hs, rfl⟩ := hrel
    by_cases hlt : k < m
    · obtain ⟨b, o, rfl, hc⟩ := HS.out.1 (Nat.lt_of_le_of_lt (Nat.zero_le _) hlt)
      obtain ⟨x, y, z⟩ := hc k hlt
      have ib : ((k : Nat) : Int) < (m : Int) := Int.ofNat_lt.2 hlt
      have W2 := wrap_succ8 (j := k) (by have := HS.out.2.2; unfold big; omega)
      have W1 := cells_nums hs (HS.out.2.1 k hlt)
      obtain ⟨s1, hs1⟩ : ∃ s1, s1 = sm10 n (k + 1) := ⟨_, rfl⟩
      have e1 : s1 = sm10 n k + n k := hs1
      rw [← e1] at W1
      have H1 : Hid (s1 = sm10 n (k + 1) ∧ k < m) := ⟨hs1, hlt⟩
      by_cases hg : s1 ≤ 1048576
      · have D1 : decide ((1048576 : Int) < (s1 : Int)) = false := by simp; omega
        have HG : Hid (s1 ≤ 1048576) := hg
        clear hc hs e1 hs1 hg
        go_wp2
        go_roundw
        case rel =>
          have e := H1.out.1
          exact ⟨k + 1, H1.out.2, by first | rfl | (rw [W2]; rfl), by first | (rw [W1, ← e]) | rw [← e], by rw [← e]; exact HG.out, by first | rfl | trivial⟩
        case measure => first | exact meas_lt8 hlt | (rw [W2]; exact meas_lt8 hlt)
      · have D1 : decide ((1048576 : Int) < (s1 : Int)) = true := by simp; omega
        have HG : Hid (1048576 < s1) := Nat.lt_of_not_le hg
        clear hc hs e1 hs1 hg
        go_wp2
        go_ret
        have e := H1.out.1
        have h9 : 1048576 ≤ sm10 n m := Nat.le_trans (Nat.le_of_lt (by rw [← e]; exact HG.out)) (sm10_mono H1.out.2)
        have hz := HZ.out.trans (Nat.min_eq_right h9)
        subst hz
        exact ⟨rfl, rfl⟩
    · obtain rfl : m = k := Nat.le_antisymm (Nat.le_of_not_lt hlt) hk
      have tb : ¬ ((m : Nat) : Int) < (m : Int) := Int.lt_irrefl _
      go_wp2
      go_ret
      have hz := HZ.out.trans (Nat.min_eq_left hs)
      subst hz
      exact ⟨rfl, rfl⟩
/-- a step's eight cells. -/
def cv10 (k : Int) (vA vB : Value) (i j l m : Int) (vR : Value) : Array Value := #[.int .i64 k, vA, vB, .int .i64 i, .int .i64 j, .int .i64 l, .int .i64 m, vR]
/-- a step's box. -/
def Bo10 (W : World) (g : Nat) (k : Int) (vA vB : Value) (i j l m : Int) (vR : Value) : Prop := W.cell? ⟨g, 0, none⟩ = some (.int .i64 k) ∧ W.cell? ⟨g, 1, none⟩ = some vA ∧ W.cell? ⟨g, 2, none⟩ = some vB ∧ W.cell? ⟨g, 3, none⟩ = some (.int .i64 i) ∧ W.cell? ⟨g, 4, none⟩ = some (.int .i64 j) ∧ W.cell? ⟨g, 5, none⟩ = some (.int .i64 l) ∧ W.cell? ⟨g, 6, none⟩ = some (.int .i64 m) ∧ W.cell? ⟨g, 7, none⟩ = some vR
theorem bo10_new (w : World) (k : Int) (vA vB : Value) (i j l m : Int) (vR : Value) {W : World} (hb : Below (w.alloc (.cells #[.int .i64 k, vA, vB, .int .i64 i, .int .i64 j, .int .i64 l, .int .i64 m, vR] 29)).heap.size (w.alloc (.cells #[.int .i64 k, vA, vB, .int .i64 i, .int .i64 j, .int .i64 l, .int .i64 m, vR] 29)) W) : Bo10 W w.heap.size k vA vB i j l m vR := by
  have hh := heap_alloc_new w (.cells #[.int .i64 k, vA, vB, .int .i64 i, .int .i64 j, .int .i64 l, .int .i64 m, vR] 29)
  have lt : w.heap.size < (w.alloc (.cells #[.int .i64 k, vA, vB, .int .i64 i, .int .i64 j, .int .i64 l, .int .i64 m, vR] 29)).heap.size := by simp
  have c : ∀ q v, (#[.int .i64 k, vA, vB, .int .i64 i, .int .i64 j, .int .i64 l, .int .i64 m, vR] : Array Value)[q]? = some v → W.cell? ⟨w.heap.size, q, none⟩ = some v := fun q v hq => by
    rw [hb.cell (p := ⟨w.heap.size, q, none⟩) lt, cell_of_row _ _ _ _ _ _ hh]
    exact hq
  exact ⟨c 0 _ rfl, c 1 _ rfl, c 2 _ rfl, c 3 _ rfl, c 4 _ rfl, c 5 _ rfl, c 6 _ rfl, c 7 _ rfl⟩
theorem lm_form {W : World} {v : Value} (h : Lm9 W v) : ∃ a n c, v = .slice a n c := by
  obtain ⟨m, n, S, ⟨V, ⟨_, a, c, e, _⟩, _⟩, -⟩ := h
  exact ⟨a, m, c, e⟩
theorem balloc10 (w : World) (o : Obj) : Below w.heap.size w (w.alloc o) := (Below.refl _ _).alloc (Nat.le_refl _) _
theorem bthen10 {w a b : World} (h : Below w.heap.size w a) (k : Below a.heap.size a b) : Below w.heap.size w b := h.trans (k.mono h.size)
set_option maxHeartbeats 2000000 in
set_option maxRecDepth 100000 in
theorem huge10 (k : Int) (vA vB : Value) (i j l m : Int) (vR : Value) (w : World) (hA : Lm9 w vA) (hB : Lm9 w vB) :
    Calls Try.prog 9 #[.agg #[.int .i64 k, vA, vB, .int .i64 i, .int .i64 j, .int .i64 l, .int .i64 m, vR]] w fun e w' => ∃ b, e = .returned (.bool b) ∧ Below w.heap.size w w' := by
  have a0 := balloc10 w (.cells #[.int .i64 k, vA, vB, .int .i64 i, .int .i64 j, .int .i64 l, .int .i64 m, vR] 29)
  obtain ⟨-, y1, y2, -⟩ := bo10_new w k vA vB i j l m vR (Below.refl _ _)
  obtain ⟨mA, nA, SA, hA1, hA2, hA3⟩ := hA.below a0
  obtain ⟨mB, nB, SB, hB1, hB2, hB3⟩ := hB.below a0
  have c1 := cells10 vA mA nA SA _ hA1 (fun i hi => Nat.le_trans (hA3 i hi) (by decide)) (by omega)
  have c2 := cells10 vB mB nB SB _ hB1 (fun i hi => Nat.le_trans (hB3 i hi) (by decide)) (by omega)
  have HB : Hid (Below w.heap.size w (w.alloc (.cells #[.int .i64 k, vA, vB, .int .i64 i, .int .i64 j, .int .i64 l, .int .i64 m, vR] 29))) := a0
  obtain ⟨xA, nA', cA, rfl⟩ := lm_form hA
  obtain ⟨xB, nB', cB, rfl⟩ := lm_form hB
  generalize (min (sm10 nA mA) 1048576 : Nat) = p at c1
  generalize (min (sm10 nB mB) 1048576 : Nat) = q at c2
  clear hA hB hA1 hA2 hA3 hB1 hB2 hB3 a0
  by_cases h1 : (1048576 : Int) ≤ (p : Int)
  · have D1 : decide ((1048576 : Int) ≤ (p : Int)) = true := by simpa using h1
    clear h1 c2
    go_enter Try.func9, Try.ntmps9
    go_wp2_with (go_at_call 10; (with_reducible refine c1.mono ?_); rintro e w1 ⟨rfl, hw⟩; have hw := hw.symm; subst hw)
    go_ret
    exact ⟨_, rfl, HB.out⟩
  · have D1 : decide ((1048576 : Int) ≤ (p : Int)) = false := by simpa using h1
    clear h1
    go_enter Try.func9, Try.ntmps9
    go_wp2_with (go_at_call 10; first | (with_reducible refine c1.mono ?_; rintro e w1 ⟨rfl, hw⟩; have hw := hw.symm; subst hw) | (with_reducible refine c2.mono ?_; rintro e w1 ⟨rfl, hw⟩; have hw := hw.symm; subst hw))
    go_ret
    exact ⟨_, rfl, HB.out⟩
end Go.Proofs.Ytdnhidachdjgaaa
