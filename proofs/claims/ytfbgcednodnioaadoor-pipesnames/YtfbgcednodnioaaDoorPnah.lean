import Derived.Test.YtfbgcednodnioaaDoorPnaf
import Derived.Defers
import Derived.Recover
import Derived.Test.YtfbgcednodnioaaDoorPnag
namespace Go.Proofs.YtfbgcednodnioaaDoor
open Go.RowKit Gf2
set_option linter.unusedVariables false

-- layer 22: Clone, failureOf
/-- a list of bytes in new memory, from block lo on. -/
def Nb (lo : Nat) (w : World) (v : Value) (n : Nat) (F : Nat → Nat) : Prop := n ≤ big ∧ (∀ i, i < n → F i < 256) ∧
  ∃ a cap, v = .slice a n cap ∧ n ≤ cap ∧ cap ≤ big ∧ (0 < n → ∃ b o, a = some ⟨b, o, none⟩ ∧ lo ≤ b ∧ b < w.heap.size ∧ ∀ i, i < n → w.cell? ⟨b, o + i, none⟩ = some (.int .u8 (F i : Nat)))
/-- a list of ints in new memory, from block lo on. -/
def Ni (lo : Nat) (w : World) (v : Value) (n : Nat) (F : Nat → Int) : Prop := n ≤ big ∧
  ∃ a cap, v = .slice a n cap ∧ n ≤ cap ∧ cap ≤ big ∧ (0 < n → ∃ b o, a = some ⟨b, o, none⟩ ∧ lo ≤ b ∧ b < w.heap.size ∧ ∀ i, i < n → w.cell? ⟨b, o + i, none⟩ = some (.int .i64 (F i)))
theorem Nb.rb {lo n : Nat} {w : World} {v : Value} {F : Nat → Nat} (h : Nb lo w v n F) : Rb w v n F := by
  obtain ⟨h1, h2, a, cap, h3, h4, h5, h6⟩ := h
  exact ⟨h1, h2, a, cap, h3, h4, h5, fun h0 => by obtain ⟨b, o, e, -, hl, hc⟩ := h6 h0; exact ⟨b, o, e, hl, hc⟩⟩
theorem Nb.ke {lo n : Nat} {E : Nat → Prop} {w w' : World} {v : Value} {F : Nat → Nat} (h : Nb lo w v n F) (hk : Ke E w w') (hE : ∀ x, lo ≤ x → x < w.heap.size → ¬ E x) : Nb lo w' v n F := by
  obtain ⟨h1, h2, a, cap, h3, h4, h5, h6⟩ := h
  exact ⟨h1, h2, a, cap, h3, h4, h5, fun h0 => by obtain ⟨b, o, e, hlo, hl, hc⟩ := h6 h0; exact ⟨b, o, e, hlo, Nat.lt_of_lt_of_le hl hk.size, fun i hi => (hk.cell hl (hE b hlo hl)).trans (hc i hi)⟩⟩
theorem Ni.ke {lo n : Nat} {E : Nat → Prop} {w w' : World} {v : Value} {F : Nat → Int} (h : Ni lo w v n F) (hk : Ke E w w') (hE : ∀ x, lo ≤ x → x < w.heap.size → ¬ E x) : Ni lo w' v n F := by
  obtain ⟨h1, a, cap, h3, h4, h5, h6⟩ := h
  exact ⟨h1, a, cap, h3, h4, h5, fun h0 => by obtain ⟨b, o, e, hlo, hl, hc⟩ := h6 h0; exact ⟨b, o, e, hlo, Nat.lt_of_lt_of_le hl hk.size, fun i hi => (hk.cell hl (hE b hlo hl)).trans (hc i hi)⟩⟩
theorem Nb.below {lo n : Nat} {w w' : World} {v : Value} {F : Nat → Nat} (h : Nb lo w v n F) (hb : Below w.heap.size w w') : Nb lo w' v n F := h.ke (ke_below hb (fun _ => False)) (fun _ _ _ e => e)
theorem Ni.below {lo n : Nat} {w w' : World} {v : Value} {F : Nat → Int} (h : Ni lo w v n F) (hb : Below w.heap.size w w') : Ni lo w' v n F := h.ke (ke_below hb (fun _ => False)) (fun _ _ _ e => e)
set_option maxHeartbeats 2000000 in
set_option maxRecDepth 100000 in
theorem clone8_22 (v : Value) (n : Nat) (S : Nat → Nat) (w : World) (hv : Rb w v n S) (hn : n ≤ 225000000000000) :
    Calls Tryd.prog 28 #[v] w fun e w' => ∃ u, e = .returned u ∧ Nb w.heap.size w' u n S ∧ Below w.heap.size w w' := by
  obtain ⟨h1, h2, a, cap, rfl, h4, h5, h6⟩ := hv
  cases a with
  | none =>
    have n0 : n = 0 := by
      rcases Nat.eq_zero_or_pos n with e | e
      · exact e
      · obtain ⟨b, o, e, -⟩ := h6 e; cases e
    subst n0
    have hnil : ∀ W : World, Sem.run Tryd.prog (binOp BinOp.eql 41 (Value.slice none 0 cap) (Value.slice none 0 0)) W = .ok (.bool true) W := fun W => by kernel_rfl
    clear h6
    go_enter Tryd.func28, Tryd.ntmps28
    go_wp2
    go_ret
    exact ⟨_, rfl, ⟨Nat.zero_le _, fun i hi => absurd hi (Nat.not_lt_zero _), none, 0, rfl, Nat.le_refl _, Nat.zero_le _, fun h => absurd h (Nat.lt_irrefl _)⟩, Below.refl _ _⟩
  | some x =>
    have hb : Rb w (.slice (some x) n cap) n S := ⟨h1, h2, some x, cap, rfl, h4, h5, h6⟩
    obtain ⟨w', g, C, F, hrun, k1, k2, k3, k4, k5, k6⟩ := copy_appw w hb hn
    have HG : Hid (Nb w.heap.size w' (.slice (some ⟨g, 0, none⟩) n C) n S ∧ Below w.heap.size w w') := ⟨⟨h1, h2, _, C, rfl, k1, k4.1, fun _ => ⟨g, 0, rfl, k2, k3, fun i hi => by rw [Nat.zero_add, ← k5 i hi]; exact k4.2.2.cell (by omega)⟩⟩, k6⟩
    have hnil : ∀ W : World, Sem.run Tryd.prog (binOp BinOp.eql 41 (Value.slice (some x) n cap) (Value.slice none 0 0)) W = .ok (.bool false) W := fun W => by kernel_rfl
    clear h6 hb k1 k2 k3 k4 k5 k6 h1 h2 h4 h5 hn
    go_enter Tryd.func28, Tryd.ntmps28
    go_wp2_with (at_builtin; go_loud (refine Lib.wpList_append_run _ rfl _ _ _ _ rfl _ _ rfl rfl _ _ hrun ?_))
    go_ret
    exact ⟨_, rfl, HG.out⟩
theorem copy_appi (w : World) {x : Option Addr} {n cx : Nat} {S : Nat → Int} (h : Qi w (.slice x n cx) n S) (hn : n * 8 ≤ 140737488355328) :
    ∃ w' g C F, (Builtin.append_ #[27, 27] 27 #[.slice (some ⟨w.heap.size, 0, none⟩) 0 0, .slice x n cx]).run Tryd.prog (w.alloc (.cells #[] 3)) = .ok (.slice (some ⟨g, 0, none⟩) n C) w' ∧
      n ≤ C ∧ w.heap.size ≤ g ∧ g < w'.heap.size ∧ Ri w' g C F ∧ (∀ i, i < n → F i = S i) ∧ Below w.heap.size w w' := by
  obtain ⟨b1, -, a, c', b3, b5, b6, b4⟩ := h
  cases b3
  have r0 : Ri (w.alloc (.cells #[] 3)) w.heap.size 0 (fun _ => 0) := ⟨by decide, trivial, _, heap_alloc_new _ _, rfl, fun i hi => absurd hi (Nat.not_lt_zero _)⟩
  have hb0 : Below w.heap.size w (w.alloc (.cells #[] 3)) := (Below.refl _ _).alloc (Nat.le_refl _) _
  obtain ⟨w1, g, C, F, hrun, hC, hR, -, hF, hcase⟩ := appi (w.alloc (.cells #[] 3)) (g := w.heap.size) (C := 0) (L := 0) r0 (Nat.le_refl _) (x := x) (n := n) (cx := cx) (S := S) (fun h0 => by
    obtain ⟨b, o, e, hl, hcl⟩ := b4 h0
    exact ⟨b, o, e, fun i hi => (hb0.cell (p := ⟨b, o + i, none⟩) hl).trans (hcl i hi)⟩) (by omega)
  rw [Nat.zero_add] at hrun hC
  have hs : (w.alloc (.cells #[] 3)).heap.size = w.heap.size + 1 := by simp
  refine ⟨w1, g, C, F, hrun, hC, ?_, hR.lt, hR, fun i hi => by rw [← hF i hi, Nat.zero_add], ?_⟩
  · rcases hcase with ⟨e, -⟩ | ⟨e, -, -⟩
    · omega
    · rw [hs] at e; omega
  · rcases hcase with ⟨e, ho⟩ | ⟨e, -, hb⟩
    · exact hb0.trans (ho.below (Nat.le_refl _))
    · exact hb0.trans (hb.mono (by rw [hs]; omega))
set_option maxHeartbeats 2000000 in
set_option maxRecDepth 100000 in
theorem clonei_22 (v : Value) (n : Nat) (S : Nat → Int) (w : World) (hv : Qi w v n S) (hn : n * 8 ≤ 140737488355328) :
    Calls Tryd.prog 29 #[v] w fun e w' => ∃ u, e = .returned u ∧ Ni w.heap.size w' u n S ∧ Below w.heap.size w w' := by
  obtain ⟨h1, -, a, cap, rfl, h4, h5, h6⟩ := hv
  cases a with
  | none =>
    have n0 : n = 0 := by
      rcases Nat.eq_zero_or_pos n with e | e
      · exact e
      · obtain ⟨b, o, e, -⟩ := h6 e; cases e
    subst n0
    have hnil : ∀ W : World, Sem.run Tryd.prog (binOp BinOp.eql 27 (Value.slice none 0 cap) (Value.slice none 0 0)) W = .ok (.bool true) W := fun W => by kernel_rfl
    clear h6
    go_enter Tryd.func29, Tryd.ntmps29
    go_wp2
    go_ret
    exact ⟨_, rfl, ⟨Nat.zero_le _, none, 0, rfl, Nat.le_refl _, Nat.zero_le _, fun h => absurd h (Nat.lt_irrefl _)⟩, Below.refl _ _⟩
  | some x =>
    have hb : Qi w (.slice (some x) n cap) n S := ⟨h1, trivial, some x, cap, rfl, h4, h5, h6⟩
    obtain ⟨w', g, C, F, hrun, k1, k2, k3, k4, k5, k6⟩ := copy_appi w hb hn
    have HG : Hid (Ni w.heap.size w' (.slice (some ⟨g, 0, none⟩) n C) n S ∧ Below w.heap.size w w') := ⟨⟨h1, _, C, rfl, k1, k4.1, fun _ => ⟨g, 0, rfl, k2, k3, fun i hi => by rw [Nat.zero_add, ← k5 i hi]; exact k4.2.2.cell (by omega)⟩⟩, k6⟩
    have hnil : ∀ W : World, Sem.run Tryd.prog (binOp BinOp.eql 27 (Value.slice (some x) n cap) (Value.slice none 0 0)) W = .ok (.bool false) W := fun W => by kernel_rfl
    clear h6 hb k1 k2 k3 k4 k5 k6 h1 h4 h5 hn
    go_enter Tryd.func29, Tryd.ntmps29
    go_wp2_with (at_builtin; go_loud (refine Lib.wpList_append_run _ rfl _ _ _ _ rfl _ _ rfl rfl _ _ hrun ?_))
    go_ret
    exact ⟨_, rfl, HG.out⟩
/-- a failure as a value: none below 0. -/
def Fv (w : World) (fa code : Int) (v : Value) (f : Nat) : Prop := (fa < 0 ∧ v = .pointer none) ∨ (0 ≤ fa ∧ v = .pointer (some ⟨f, 0, none⟩) ∧ w.heap[f]? = some (.cells #[.int .i64 code] 24 (0, 0)))
set_option maxHeartbeats 2000000 in
set_option maxRecDepth 100000 in
theorem failureOf22 (fa code : Int) (w : World) :
    Calls Tryd.prog 30 #[.int .i64 fa, .int .i64 code] w fun e w' => ∃ v, e = .returned v ∧ Fv w' fa code v w.heap.size ∧ Below w.heap.size w w' := by
  by_cases h : fa < 0
  · go_enter Tryd.func30, Tryd.ntmps30
    go_wp2
    go_ret
    exact ⟨_, rfl, .inl ⟨h, rfl⟩, Below.refl _ _⟩
  · have h1 : decide (fa < 0) = false := decide_eq_false h
    go_enter Tryd.func30, Tryd.ntmps30
    go_wp2
    go_ret
    exact ⟨_, rfl, .inr ⟨by omega, rfl, heap_alloc_new _ _⟩, (Below.refl _ _).alloc (Nat.le_refl _) _⟩
end Go.Proofs.YtfbgcednodnioaaDoor
