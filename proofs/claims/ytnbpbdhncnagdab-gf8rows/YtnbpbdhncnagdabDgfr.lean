import Derived.Test.YtnbpbdhncnagdabDgfm
import Derived.Test.YtnbpbdhncnagdabDtas
namespace Go.Proofs.Ytnbpbdhncnagdab
open Go.RowKit Gf2

theorem inv_round {a : Nat} (i : Nat) : fm 285 (fp 285 a (2 ^ (i + 1) - 2)) (fp 285 a (2 ^ (i + 1))) = fp 285 a (2 ^ (i + 2) - 2) ∧ fm 285 (fp 285 a (2 ^ (i + 1))) (fp 285 a (2 ^ (i + 1))) = fp 285 a (2 ^ (i + 2)) := by
  have h : 2 ≤ 2 ^ (i + 1) := by
    have : 2 ^ 1 ≤ 2 ^ (i + 1) := Nat.pow_le_pow_right (by decide) (by omega)
    omega
  have h2 : 2 ^ (i + 2) = 2 ^ (i + 1) + 2 ^ (i + 1) := by rw [Nat.pow_succ 2 (i + 1)]; omega
  rw [← fld8.fp_add, ← fld8.fp_add, h2]
  exact ⟨by congr 1; omega, rfl⟩

set_option maxHeartbeats 2000000 in
set_option maxRecDepth 100000 in
theorem refRow_nat (a : Nat) (w : World) (ha : a < 256) :
    Calls Try.prog 18 #[.int .u8 (a : Int)] w fun e w' => e = .returned (.slice (some ⟨w.heap.size, 0, none⟩) 256 256) ∧
      w'.rowIs w.heap.size 5 256 (fun x => .int .u8 (fm 285 a x : Nat)) ∧ Below w.heap.size w w' ∧ w'.heap.size = w.heap.size + 1 := by
  have hmk := run_make_row' (P := Try.prog) 32 5 (.int .u8 0) 1 Try.underlying32 info_u8 rfl .i64 .i64 256 (by decide) (by decide)
  have hmk : ∀ w, (Instr.makeSlice 32 (.int .i64 256) (.int .i64 256)).run Try.prog w = .ok (.slice (some ⟨w.heap.size, 0, none⟩) 256 256) (w.alloc (.cells (madeCells #[.int .u8 0] 256) 5)) := hmk
  go_enter Try.func18, Try.ntmps18
  go_wp2
  go_loopw [4] (fun i wr => ∃ k : Nat, k ≤ 256 ∧ i = .int .i64 k ∧ wr.heap.size = w.heap.size + 1 ∧
      wr.rowIs w.heap.size 5 256 (fun x => .int .u8 (if x < k then (fm 285 a x : Nat) else 0)) ∧ Below w.heap.size w wr) (fun i _ => 256 - (intOf i).toNat)
  case atStart =>
    refine ⟨0, by decide, rfl, by simp, ?_, (Below.refl _ _).alloc (Nat.le_refl _) _⟩
    exact (World.rowIs_made w (.int .u8 0) 256 5).congr (fun i _ => by simp)
  case round =>
    obtain ⟨k, hk, rfl, hsz, hr, hb⟩ := hrel
    by_cases hlt : k < 256
    · have c1 := fun w => refMul_nat a k w ha hlt
      have q := hr.cell hlt
      have f := hr.frozen k
      simp only [Nat.lt_irrefl, if_false] at q
      have HR : Hid (wr.heap.size = w.heap.size + 1 ∧ wr.rowIs w.heap.size 5 256 (fun x => .int .u8 (if x < k then (fm 285 a x : Nat) else 0))) := ⟨hsz, hr⟩
      clear hsz hr
      go_wp2_with (go_at_call 20; ((with_reducible refine (c1 _).mono ?_); rintro e w' ⟨rfl, rfl⟩))
      go_roundw
      case rel =>
        obtain ⟨g0, g1⟩ := HR.out
        refine ⟨k + 1, by omega, by go_num, by simp [g0], ?_, hb.setCell (by simp) _⟩
        refine (World.rowIs.set g1 k _).congr (fun i hi => ?_)
        by_cases e : i = k
        · subst e; simp
        · by_cases e2 : i < k
          · simp [e, e2, show i < k + 1 by omega]
          · simp [e, e2, show ¬ i < k + 1 by omega]
      case measure => simp [intOf]; omega
    · have hk5 : k = 256 := by omega
      subst hk5
      go_wp2
      go_ret
      exact ⟨rfl, hr.congr (fun i hi => by simp [hi]), hb, hsz⟩

set_option maxHeartbeats 2000000 in
set_option maxRecDepth 100000 in
theorem same_rows (x y : Nat) (f : Nat → Nat) (w : World) (hx : ∀ i, i < 256 → w.cell? ⟨x, i, none⟩ = some (.int .u8 (f i : Nat))) (hy : ∀ i, i < 256 → w.cell? ⟨y, i, none⟩ = some (.int .u8 (f i : Nat))) :
    Calls Try.prog 17 #[.slice (some ⟨x, 0, none⟩) 256 256, .slice (some ⟨y, 0, none⟩) 256 256] w fun e w' => e = .returned (.bool true) ∧ ∃ m, w' = w.drewN m := by
  go_enter Try.func17, Try.ntmps17
  go_wp2
  go_loopw [5] (fun i wr => ∃ k m : Nat, k ≤ 256 ∧ i = .int .i64 k ∧ wr = w.drewN m) (fun i _ => 256 - (intOf i).toNat)
  case atStart => exact ⟨0, 0, by decide, rfl, rfl⟩
  case round =>
    obtain ⟨k, m, hk, rfl, hw⟩ := hrel
    by_cases hlt : k < 256
    · have q1 : wr.cell? ⟨x, k, none⟩ = some (.int .u8 (f k : Nat)) := by rw [hw]; exact hx k hlt
      have q2 : wr.cell? ⟨y, k, none⟩ = some (.int .u8 (f k : Nat)) := by rw [hw]; exact hy k hlt
      have HW : Hid (wr = w.drewN m) := hw
      have ib : ((k : Nat) : Int) < 256 := by omega
      clear hx hy hw
      go_wp2
      go_quiet (fail)
      go_wp2
      go_roundw
      case rel => exact ⟨k + 1, m + nq, by omega, by go_num, by rw [HW.out, World.drewN_drewN]⟩
      case measure => simp [intOf]; omega
    · have hk5 : k = 256 := by omega
      subst hk5
      subst hw
      go_wp2
      go_ret
      exact ⟨rfl, _, rfl⟩
end Go.Proofs.Ytnbpbdhncnagdab
