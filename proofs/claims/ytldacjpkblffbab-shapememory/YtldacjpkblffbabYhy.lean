import Derived.Test.YtldacjpkblffbabYhx
namespace Go.Proofs.Ytldacjpkblffbab
open Go.RowKit Gf2
set_option linter.unusedVariables false

-- layer 16: Fresh of the document
/-- the lists' values. -/
theorem Ln.vals {w : World} {x : Option Addr} {c cx : Nat} {n : Nat → Nat} (h : Ln w (.slice x c cx) c n) : ∃ V : Nat → Value, (∀ i, i < c → (V i).oneCell' = true ∧ ∃ a y, V i = .slice a (n i) y) ∧ (0 < c → ∃ b o, x = some ⟨b, o, none⟩ ∧ b < w.heap.size ∧ ∀ i, i < c → w.cell? ⟨b, o + i, none⟩ = some (V i)) := by
  obtain ⟨h1, h2, a, cap, h3, h4, h5, h6⟩ := h
  cases h3
  by_cases h0 : 0 < c
  · obtain ⟨b, o, e, hl, hc⟩ := h6 h0
    have each : ∀ i : Nat, ∃ v : Value, i < c → w.cell? ⟨b, o + i, none⟩ = some v ∧ ∃ a y, v = .slice a (n i) y := fun i => by
      by_cases hi : i < c
      · obtain ⟨a, y, z⟩ := hc i hi
        exact ⟨_, fun _ => ⟨z, a, y, rfl⟩⟩
      · exact ⟨.slice none 0 0, fun h => absurd h hi⟩
    obtain ⟨V, hV⟩ := Classical.skolem.1 each
    refine ⟨V, fun i hi => ?_, fun _ => ⟨b, o, e, hl, fun i hi => (hV i hi).1⟩⟩
    obtain ⟨a, y, e2⟩ := (hV i hi).2
    exact ⟨by rw [e2]; rfl, a, y, e2⟩
  · exact ⟨fun _ => .slice none 0 0, fun i hi => absurd hi (by omega), fun h => absurd h h0⟩
/-- append(append([][]byte{}, a...), b...). -/
theorem app2_16 (w : World) {x y : Option Addr} {c d cx dx : Nat} {n m : Nat → Nat} (h : Ln w (.slice x c cx) c n) (k : Ln w (.slice y d dx) d m) (hb : (c + d) * 24 ≤ 140737488355328) :
    ∃ w1 g1 C1 w2 g2 C2, (Builtin.append_ #[27, 27] 27 #[.slice (some ⟨w.heap.size, 0, none⟩) 0 0, .slice x c cx]).run Try.prog (w.alloc (.cells #[] 24)) = .ok (.slice (some ⟨g1, 0, none⟩) c C1) w1 ∧
      (Builtin.append_ #[27, 27] 27 #[.slice (some ⟨g1, 0, none⟩) c C1, .slice y d dx]).run Try.prog w1 = .ok (.slice (some ⟨g2, 0, none⟩) (c + d) C2) w2 ∧
      Below w.heap.size w w2 ∧ Ln w2 (.slice (some ⟨g2, 0, none⟩) (c + d) C2) (c + d) (cat16 c n m) := by
  obtain ⟨V, hV, hVc⟩ := h.vals
  obtain ⟨U, hU, hUc⟩ := k.vals
  have b0 := balloc16 w (.cells #[] 24)
  have r0 : (w.alloc (.cells #[] 24)).rowIs w.heap.size 24 0 (fun _ => .slice none 0 0) := ⟨_, heap_alloc_new _ _, rfl, fun i hi => absurd hi (Nat.not_lt_zero _)⟩
  have s0 : (w.alloc (.cells #[] 24)).heap.size = w.heap.size + 1 := by simp
  obtain ⟨w1, g1, C1, F1, run1, l1, r1, -, f1, case1⟩ := appv elm_l8 (w.alloc (.cells #[] 24)) r0 (Nat.le_refl _) (x := x) (n := c) (cx := cx) (S := V) (fun i hi => (hV i hi).1) (fun h0 => by
    obtain ⟨b, o, e, hl, hc⟩ := hVc h0
    exact ⟨b, o, e, fun i hi => (b0.cell (p := ⟨b, o + i, none⟩) hl).trans (hc i hi)⟩) (by omega)
  rw [Nat.zero_add] at run1 l1
  have g1lo : w.heap.size ≤ g1 := by rcases case1 with ⟨e, -⟩ | ⟨e, -⟩ <;> omega
  have b1 : Below w.heap.size w w1 := by
    rcases case1 with ⟨e, -, ho⟩ | ⟨e, -, -, hb⟩
    · exact b0.trans (ho.below (Nat.le_refl _))
    · exact b0.trans (hb.mono (by omega))
  have C1b : C1 ≤ big := by
    rcases case1 with ⟨-, e, -⟩ | ⟨-, e, -⟩
    · rw [e]; unfold big; omega
    · exact e
  obtain ⟨w2, g2, C2, F2, run2, l2, r2, f2, f3, case2⟩ := appv elm_l8 w1 r1 l1 (x := y) (n := d) (cx := dx) (S := U) (fun i hi => (hU i hi).1) (fun h0 => by
    obtain ⟨b, o, e, hl, hc⟩ := hUc h0
    exact ⟨b, o, e, fun i hi => (b1.cell (p := ⟨b, o + i, none⟩) hl).trans (hc i hi)⟩) hb
  have b2 : Below w.heap.size w w2 := by
    rcases case2 with ⟨e, -, ho⟩ | ⟨e, -, -, hb⟩
    · exact b1.trans (ho.below g1lo)
    · exact b1.trans (hb.mono b1.size)
  have C2b : C2 ≤ big := by
    rcases case2 with ⟨-, e, -⟩ | ⟨-, e, -⟩
    · rw [e]; exact C1b
    · exact e
  refine ⟨w1, g1, C1, w2, g2, C2, run1, run2, b2, by have := h.1; omega, fun i hi => ?_, _, _, rfl, l2, C2b, fun _ => ⟨g2, 0, rfl, r2.lt, fun i hi => ?_⟩⟩
  · unfold cat16
    by_cases e : i < c
    · rw [if_pos e]; exact h.2.1 i e
    · rw [if_neg e]; exact k.2.1 (i - c) (by omega)
  · rw [Nat.zero_add, r2.cell (by omega)]
    unfold cat16
    by_cases e : i < c
    · rw [if_pos e, f2 i e]
      have := f1 i e
      rw [Nat.zero_add] at this
      rw [this]
      obtain ⟨a, z, e2⟩ := (hV i e).2
      exact ⟨a, z, by rw [e2]⟩
    · obtain ⟨j, rfl⟩ : ∃ j, i = c + j := ⟨i - c, by omega⟩
      rw [if_neg e, f3 j (by omega), Nat.add_sub_cancel_left]
      obtain ⟨a, z, e2⟩ := (hU j (by omega)).2
      exact ⟨a, z, by rw [e2]⟩
end Go.Proofs.Ytldacjpkblffbab
