import Derived.Test.YtefhlnplegagfaaEbp
import Derived.Test.YtefhlnplegagfaaEbd
import Derived.Lib.AppendZeros
namespace Go.Proofs.Ytefhlnplegagfaa
open Go.RowKit Gf2
set_option linter.unusedVariables false

/-- append([]byte{}, x...). -/
theorem copy_app (w : World) {x : Option Addr} {n cx : Nat} {S : Nat → Nat} (h : Rb w (.slice x n cx) n S) (hn : n ≤ 140737488355328) :
    ∃ w' g C F, (Builtin.append_ #[25, 25] 25 #[.slice (some ⟨w.heap.size, 0, none⟩) 0 0, .slice x n cx]).run Try.prog (w.alloc (.cells #[] 5)) = .ok (.slice (some ⟨g, 0, none⟩) n C) w' ∧
      n ≤ C ∧ w.heap.size ≤ g ∧ g < w'.heap.size ∧ Rw w' g C F ∧ (∀ i, i < n → F i = S i) ∧ Below w.heap.size w w' := by
  obtain ⟨b1, b2, a, c', b3, b5, b6, b4⟩ := h
  cases b3
  have r0 := lit_rw [] w (fun x h => by cases h) (by decide)
  have hb0 : Below w.heap.size w (w.alloc (.cells #[] 5)) := (Below.refl _ _).alloc (Nat.le_refl _) _
  obtain ⟨w1, g, C, F, hrun, hC, hR, -, hF, hcase⟩ := app8 (w.alloc (.cells #[] 5)) (g := w.heap.size) (C := 0) (L := 0) r0 (Nat.le_refl _) (x := x) (n := n) (cx := cx) (S := S) b2 (fun h0 => by
    obtain ⟨b, o, e, hl, hcl⟩ := b4 h0
    exact ⟨b, o, e, fun i hi => (hb0.cell (p := ⟨b, o + i, none⟩) hl).trans (hcl i hi)⟩) (by omega)
  rw [Nat.zero_add] at hrun hC
  have hs : (w.alloc (.cells #[] 5)).heap.size = w.heap.size + 1 := by simp
  refine ⟨w1, g, C, F, hrun, hC, ?_, hR.lt, hR, fun i hi => by rw [← hF i hi, Nat.zero_add], ?_⟩
  · rcases hcase with ⟨e, -⟩ | ⟨e, -, -⟩
    · omega
    · rw [hs] at e; omega
  · rcases hcase with ⟨e, ho⟩ | ⟨e, -, hb⟩
    · exact hb0.trans (ho.below (Nat.le_refl _))
    · exact hb0.trans (hb.mono (by rw [hs]; omega))

/-- what a list is behind a call of the document's: n bytes in a row of its own. -/
def Own8 (w w' : World) (g C n : Nat) (S : Nat → Nat) : Prop := n ≤ C ∧ w.heap.size ≤ g ∧ Below w.heap.size w w' ∧ ∃ F, Rw w' g C F ∧ ∀ i, i < n → F i = S i

set_option maxHeartbeats 2000000 in
set_option maxRecDepth 100000 in
theorem refMul5_any (c n : Nat) (u v : Value) (D S : Nat → Nat) (w : World) (hc : c < 256) (hu : Rb w u n D) (hv : Rb w v n S) (hn : n ≤ 140737488351232) :
    Calls Try.prog 37 #[.int .u8 (c : Int), u, v] w fun e w' => ∃ g C, e = .returned (.tuple #[.slice (some ⟨g, 0, none⟩) n C, .int .i64 0]) ∧ Own8 w w' g C n (fun i => fm 285 c (S i)) := by
  obtain ⟨x, cx, rfl⟩ : ∃ x cx, u = .slice x n cx := by obtain ⟨_, _, a, cap, h, _⟩ := hu; exact ⟨a, cap, h⟩
  obtain ⟨w1, g, C, F0, hrun, hC, hg, hg1, hR, hF, hb⟩ := copy_app w hu (by omega)
  obtain ⟨k1, k2, b, cb, rfl, k5, k6, k4⟩ := hv
  have HA : Hid (n ≤ C ∧ w.heap.size ≤ g ∧ Rw w1 g C F0 ∧ Below w.heap.size w w1) := ⟨hC, hg, hR, hb⟩
  clear hu hC hg hR hb hF hg1
  go_enter Try.func37, Try.ntmps37
  go_wp2_with (at_builtin; refine Lib.wpList_append_run _ rfl _ _ _ _ rfl _ _ rfl rfl _ _ hrun ?_)
  clear hrun
  obtain ⟨hC, hg, hR, hb⟩ := HA.out
  go_loopw [9] (fun i wr => ∃ k : Nat, k ≤ n ∧ i = .int .i64 k ∧ Rw wr g C (fun x => if x < k then fm 285 c (S x) else F0 x) ∧ Below w.heap.size w wr) (fun i _ => n - (intOf i).toNat)
  case atStart => exact ⟨0, Nat.zero_le _, rfl, hR.congr (fun i _ => (if_neg (Nat.not_lt_zero _)).symm), hb⟩
  case round =>
    obtain ⟨k, hk, rfl, hr, hbr⟩ := hrel
    by_cases hlt : k < n
    · have q1 := hr.2.2.cell (i := k) (by omega)
      dsimp only at q1
      rw [if_neg (Nat.lt_irrefl _)] at q1
      obtain ⟨b', o', rfl, hbl', hc'⟩ := k4 (by omega)
      have q4 := (hbr.cell (p := ⟨b', o' + k, none⟩) hbl').trans (hc' k (by omega))
      have q2 := hr.2.2.frozen k
      have ib : ((k : Nat) : Int) < (n : Int) := by omega
      have c1 := fun w => refMul_nat c (S k) w hc (k2 k hlt)
      have W1 := wrap_succ8 (j := k) (by omega)
      have HV : Hid (Rw wr g C (fun x => if x < k then fm 285 c (S x) else F0 x) ∧ Below w.heap.size w wr) := ⟨hr, hbr⟩
      clear hr hbr k1 k2 hc' k4 hR hb hn
      go_wp2_with (go_at_call 28; ((with_reducible refine (c1 _).mono ?_); (rintro e w9 ⟨rfl, hw9⟩; have hw9 := hw9.symm; subst hw9)))
      go_roundw
      case rel =>
        obtain ⟨g0, g2⟩ := HV.out
        refine ⟨k + 1, hlt, by first | rfl | (rw [W1]; rfl), ⟨g0.1, fun i hi => ?_, (g0.2.2.set k _).congr (fun i hi => ?_)⟩, g2.setCell hg _⟩
        · have := g0.2.1 i hi
          dsimp only at this ⊢
          by_cases e : i = k
          · subst e; rw [if_pos (Nat.lt_succ_self _)]; exact fm8_lt _ _
          · by_cases e2 : i < k
            · rw [if_pos e2] at this; rw [if_pos (by omega)]; exact this
            · rw [if_neg e2] at this; rw [if_neg (by omega)]; exact this
        · dsimp only
          by_cases e : i = k
          · subst e; rw [if_pos rfl, if_pos (Nat.lt_succ_self _)]
          · rw [if_neg e]
            by_cases e2 : i < k
            · rw [if_pos e2, if_pos (by omega)]
            · rw [if_neg e2, if_neg (by omega)]
      case measure => first | exact meas_lt8 hlt | (rw [W1]; exact meas_lt8 hlt)
    · have hkN : k = n := by omega
      subst hkN
      clear k4
      go_wp2
      go_ret2
      exact ⟨g, C, rfl, hC, hg, hbr, _, hr, fun i hi => if_pos hi⟩
end Go.Proofs.Ytefhlnplegagfaa
