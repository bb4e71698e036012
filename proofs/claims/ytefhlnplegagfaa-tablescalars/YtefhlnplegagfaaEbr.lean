import Derived.Test.YtefhlnplegagfaaEbq
namespace Go.Proofs.Ytefhlnplegagfaa
open Go.RowKit Gf2
set_option linter.unusedVariables false

set_option maxHeartbeats 2000000 in
set_option maxRecDepth 100000 in
theorem refMul5_lens (c n m : Nat) (u v : Value) (D S : Nat → Nat) (w : World) (hu : Rb w u n D) (hv : Rb w v m S) (hn : n ≤ 140737488351232) (hnm : n ≠ m) :
    Calls Try.prog 37 #[.int .u8 (c : Int), u, v] w fun e w' => ∃ g C, e = .returned (.tuple #[.slice (some ⟨g, 0, none⟩) n C, .int .i64 6]) ∧ Own8 w w' g C n D := by
  obtain ⟨x, cx, rfl⟩ : ∃ x cx, u = .slice x n cx := by obtain ⟨_, _, a, cap, h, _⟩ := hu; exact ⟨a, cap, h⟩
  obtain ⟨w1, g, C, F0, hrun, hC, hg, hg1, hR, hF, hb⟩ := copy_app w hu (by omega)
  obtain ⟨k1, k2, b, cb, rfl, k5, k6, k4⟩ := hv
  have HA : Hid (n ≤ C ∧ w.heap.size ≤ g ∧ Rw w1 g C F0 ∧ Below w.heap.size w w1 ∧ ∀ i, i < n → F0 i = D i) := ⟨hC, hg, hR, hb, hF⟩
  clear hu hC hg hR hb hF hg1 k4
  go_enter Try.func37, Try.ntmps37
  go_wp2_with (at_builtin; refine Lib.wpList_append_run _ rfl _ _ _ _ rfl _ _ rfl rfl _ _ hrun ?_)
  go_ret2
  obtain ⟨hC, hg, hR, hb, hF⟩ := HA.out
  exact ⟨g, C, rfl, hC, hg, hb, _, hR, hF⟩

set_option maxHeartbeats 2000000 in
set_option maxRecDepth 100000 in
theorem refAdd5_lens (c n m : Nat) (u v : Value) (D S : Nat → Nat) (w : World) (hu : Rb w u n D) (hv : Rb w v m S) (hn : n ≤ 140737488351232) (hnm : n ≠ m) :
    Calls Try.prog 38 #[.int .u8 (c : Int), u, v] w fun e w' => ∃ g C, e = .returned (.tuple #[.slice (some ⟨g, 0, none⟩) n C, .int .i64 6]) ∧ Own8 w w' g C n D := by
  obtain ⟨x, cx, rfl⟩ : ∃ x cx, u = .slice x n cx := by obtain ⟨_, _, a, cap, h, _⟩ := hu; exact ⟨a, cap, h⟩
  obtain ⟨w1, g, C, F0, hrun, hC, hg, hg1, hR, hF, hb⟩ := copy_app w hu (by omega)
  obtain ⟨k1, k2, b, cb, rfl, k5, k6, k4⟩ := hv
  have HA : Hid (n ≤ C ∧ w.heap.size ≤ g ∧ Rw w1 g C F0 ∧ Below w.heap.size w w1 ∧ ∀ i, i < n → F0 i = D i) := ⟨hC, hg, hR, hb, hF⟩
  clear hu hC hg hR hb hF hg1 k4
  go_enter Try.func38, Try.ntmps38
  go_wp2_with (at_builtin; refine Lib.wpList_append_run _ rfl _ _ _ _ rfl _ _ rfl rfl _ _ hrun ?_)
  go_ret2
  obtain ⟨hC, hg, hR, hb, hF⟩ := HA.out
  exact ⟨g, C, rfl, hC, hg, hb, _, hR, hF⟩
end Go.Proofs.Ytefhlnplegagfaa
