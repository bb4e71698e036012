import Derived.Test.YtfhgamaakkoplaaMvas
import Derived.Deep.OwnRows
import Derived.Deep.RegionWith
import Derived.Test.YtfhgamaakkoplaaMvaf
namespace Go.Proofs.Ytfhgamaakkoplaa
open Go.RowKit Gf2

/-- what Inv, Div and Log answer, 0 too. -/
def ti (a : Nat) : Nat := if a = 0 then 0 else fi 285 a
def te (a : Nat) : Nat := if a = 0 then 20 else 0
def tl (a : Nat) : Nat := if a = 0 then 0 else l8 a
theorem ti_lt {a : Nat} (ha : a < 256) : ti a < 256 := by
  unfold ti; split
  · omega
  · next h => exact fi8_lt ha h
theorem tinv_all (t a : Nat) (w : World) (ht : Tab8 w t) (ha : a < 256) :
    Calls Try.prog 44 #[.pointer (some ⟨t, 0, none⟩), .int .u8 (a : Int)] w fun e w' => e = .returned (.tuple #[.int .u8 (ti a : Nat), .int .i64 (te a : Nat)]) ∧ ∃ m, w' = w.drewN m := by
  by_cases h : a = 0
  · subst h; exact tinv_zero t w
  · unfold ti te; rw [if_neg h, if_neg h]; exact tinv_nat t a w ht ha h
theorem new_tab (w : World) :
    Calls Try.prog 42 #[] w fun e w' => e = .returned (.pointer (some ⟨w.heap.size, 0, none⟩)) ∧ ∃ w0 : World, w' = w0.drewN 0 ∧ w0.heap.size = w.heap.size + 1 ∧ Tab8 w0 w.heap.size ∧ Below w.heap.size w w0 :=
  (new_any w).mono fun _ w' ⟨h1, h2, h3, h4⟩ => ⟨h1, w', rfl, h2, h3, h4⟩
end Go.Proofs.Ytfhgamaakkoplaa
namespace Go.Proofs.Ytfhgamaakkoplaa
open Go.RowKit Gf2

theorem inv_round {a : Nat} (i : Nat) : fm 285 (fp 285 a (2 ^ (i + 1) - 2)) (fp 285 a (2 ^ (i + 1))) = fp 285 a (2 ^ (i + 2) - 2) ∧ fm 285 (fp 285 a (2 ^ (i + 1))) (fp 285 a (2 ^ (i + 1))) = fp 285 a (2 ^ (i + 2)) := by
  have h : 2 ≤ 2 ^ (i + 1) := by
    have : 2 ^ 1 ≤ 2 ^ (i + 1) := Nat.pow_le_pow_right (by decide) (by omega)
    omega
  have h2 : 2 ^ (i + 2) = 2 ^ (i + 1) + 2 ^ (i + 1) := by rw [Nat.pow_succ 2 (i + 1)]; omega
  rw [← fld8.fp_add, ← fld8.fp_add, h2]
  exact ⟨by congr 1; omega, rfl⟩

set_option maxHeartbeats 400000 in
theorem refInv_nat (a : Nat) (w : World) (ha : a < 256) :
    Calls Try.prog 58 #[.int .u8 (a : Int)] w fun e w' => e = .returned (.tuple #[.int .u8 (ti a : Nat), .int .i64 (te a : Nat)]) ∧ w' = w := by
  by_cases h0 : a = 0
  · subst h0
    rw [show ti 0 = 0 by decide, show te 0 = 20 by decide]
    go_enter Try.func58, Try.ntmps58
    go_wp2
    go_ret2
    exact ⟨rfl, rfl⟩
  · have e1 : ti a = fp 285 a 254 := by unfold ti; rw [if_neg h0]; exact fld8.fi_fp ha h0
    have e2 : te a = 0 := by unfold te; rw [if_neg h0]
    rw [e1, e2]
    have c1 := fun w => refMul_nat a a w ha ha
    rw [← fp_two] at c1
    clear e1 e2
    go_enter Try.func58, Try.ntmps58
    go_wp2_with (go_at_call 39; ((with_reducible refine (c1 _).mono ?_); rintro e w' ⟨rfl, rfl⟩))
    go_loop [4, 5, 6] (fun two p i => ∃ k : Nat, k ≤ 7 ∧ two = .int .u8 (fp 285 a (2 ^ (k + 1)) : Nat) ∧ p = .int .u8 (fp 285 a (2 ^ (k + 1) - 2) : Nat) ∧ i = .int .i64 k) (fun _ _ i => 7 - (intOf i).toNat)
    case atStart => exact ⟨0, by decide, rfl, by rw [show (2 ^ (0 + 1) - 2) = 0 by decide, fld8.fp_zero]; rfl, rfl⟩
    case round =>
      obtain ⟨k, hk, rfl, rfl, rfl⟩ := hrel
      by_cases hlt : k < 7
      · obtain ⟨r1, r2⟩ := inv_round (a := a) k
        have c2 := fun w => refMul_nat (fp 285 a (2 ^ (k + 1) - 2)) (fp 285 a (2 ^ (k + 1))) w (fp8_lt _ _) (fp8_lt _ _)
        have c3 := fun w => refMul_nat (fp 285 a (2 ^ (k + 1))) (fp 285 a (2 ^ (k + 1))) w (fp8_lt _ _) (fp8_lt _ _)
        rw [r1] at c2
        rw [r2] at c3
        clear r1 r2 c1
        obtain ⟨x, hx⟩ : ∃ x, x = fp 285 a (2 ^ (k + 1)) := ⟨_, rfl⟩
        obtain ⟨y, hy⟩ : ∃ y, y = fp 285 a (2 ^ (k + 1) - 2) := ⟨_, rfl⟩
        obtain ⟨x', hx'⟩ : ∃ x, x = fp 285 a (2 ^ (k + 2)) := ⟨_, rfl⟩
        obtain ⟨y', hy'⟩ : ∃ y, y = fp 285 a (2 ^ (k + 2) - 2) := ⟨_, rfl⟩
        rw [← hx, ← hy, ← hy'] at c2
        rw [← hx, ← hx'] at c3
        rw [← hx, ← hy]
        have HX : Hid (x' = fp 285 a (2 ^ (k + 2)) ∧ y' = fp 285 a (2 ^ (k + 2) - 2)) := ⟨hx', hy'⟩
        clear hx hy hx' hy'
        go_wp2_with (go_at_call 39; first | ((with_reducible refine (c2 _).mono ?_); rintro e w' ⟨rfl, rfl⟩) | ((with_reducible refine (c3 _).mono ?_); rintro e w' ⟨rfl, rfl⟩))
        go_round
        case rel => exact ⟨k + 1, by omega, by rw [HX.out.1], by rw [HX.out.2], by go_num⟩
        case measure => simp [intOf]; omega
      · have hk7 : k = 7 := by omega
        subst hk7
        go_wp2
        go_ret2
        exact ⟨rfl, rfl⟩

end Go.Proofs.Ytfhgamaakkoplaa
