import Derived.Test.YtfbgcednodnioabDoorZpi
import Derived.Deep.Cut
namespace Go.Proofs.YtfbgcednodnioabDoor
open Go.RowKit Gf2
set_option linter.unusedVariables false

-- layer 22: a write that breaks; Bytes, Failure, Taken
theorem run_head22 (x : Option Addr) (n cx m : Nat) (hm : m ≤ cx) (W : World) : (Instr.slice 28 (.slice x n cx) none (some (.int .i64 (m : Int))) none).run Tryd.prog W = .ok (.slice x m cx) W := by
  have hu : Tryd.prog.underlying 28 = some (.slice (Tryd.prog.elem 28)) := by rw [elem_u8_22]; exact Tryd.underlying28
  have h := run_slice_h (P := Tryd.prog) (w := W) 28 x n cx hu .i64 (m : Int) (by omega) (by omega)
  have e : (if cx = 0 then x else x.map (·.add 0)) = x := by
    split
    · rfl
    · cases x with
      | none => rfl
      | some a =>
        show some (a.add 0) = some a
        obtain ⟨b, o, s⟩ := a
        cases s <;> simp [Addr.add]
  rw [h, elem_u8_22, size_u8_22]
  simp only [Result.andThen, sliced, Int.toNat_natCast, Nat.zero_mul, Nat.sub_zero]
  rw [e]
set_option maxHeartbeats 4000000 in
set_option maxRecDepth 100000 in
theorem write22_fail {Fp : Nat → Prop} {b L f : Nat} {T : Nat → Nat} {fa code : Int} (x : Option Addr) (n cx : Nat) (S : Nat → Nat) (w : World) (h : Sk Fp w b L T fa code f) (hx : Rb w (.slice x n cx) n S) (hn : L + n ≤ 225000000000000) (h0 : 0 ≤ fa) (hf : fa.toNat - L < n) :
    Calls Tryd.prog 17 #[.pointer (some ⟨b, 0, none⟩), .slice x n cx] w fun e w' => e = .returned (.tuple #[.int .i64 ((fa.toNat - L : Nat) : Int), .iface 51 (.pointer (some ⟨f, 0, none⟩))]) ∧ Sk (fun y => Fp y ∨ w.heap.size ≤ y ∧ y < w'.heap.size) w' b (L + (fa.toNat - L)) (aft T L S) fa code f ∧ Ke Fp w w' := by
  obtain ⟨a, c, fv, hy, hF, -, hA⟩ := h.open_
  have hcx : n ≤ cx := by obtain ⟨-, -, a, c, e, h4, -⟩ := hx; cases e; exact h4
  have HA : Hid (∀ m, ∃ w2 a' c', (Builtin.append_ #[28, 28] 28 #[.slice a L c, .slice x (fa.toNat - L) cx]).run Tryd.prog (w.drewN m) = .ok (.slice a' (L + (fa.toNat - L)) c') w2 ∧ w2.cell? ⟨b, 0, none⟩ = some (.slice a L c) ∧ w2.frozen? ⟨b, 0, none⟩ = false ∧
        Sk (fun y => Fp y ∨ w.heap.size ≤ y ∧ y < w2.heap.size) (w2.setCell ⟨b, 0, none⟩ (.slice a' (L + (fa.toNat - L)) c')) b (L + (fa.toNat - L)) (aft T L S) fa code f ∧ Ke Fp w (w2.setCell ⟨b, 0, none⟩ (.slice a' (L + (fa.toNat - L)) c')) ∧
        (w2.setCell ⟨b, 0, none⟩ (.slice a' (L + (fa.toNat - L)) c')).cell? ⟨b, 2, none⟩ = some fv) := fun m => hA (w.drewN m) m rfl x (fa.toNat - L) cx S ((hx.cut (by omega) (by omega)).drewN m) (by omega) (fun _ => by have := h.lf h0; omega)
  obtain rfl : fv = .pointer (some ⟨f, 0, none⟩) := by
    rcases hF with ⟨h1, -⟩ | ⟨-, h2, -⟩
    · omega
    · exact h2
  have c1 := room22 w h h0
  have HC2 : Hid (∀ m, Calls Tryd.prog 24 #[.pointer (some ⟨b, 0, none⟩)] (w.drewN m) fun e w' => e = .returned (.int .i64 ((fa.toNat - L : Nat) : Int)) ∧ ∃ j, w' = (w.drewN m).drewN j) := fun m => room22 (w.drewN m) (h.drewN m) h0
  have hcut := run_head22 x n cx (fa.toNat - L) (by omega)
  have D1 : decide (n ≤ fa.toNat - L) = false := decide_eq_false (by omega)
  have D2 : decide ((n : Int) ≤ ((fa.toNat - L : Nat) : Int)) = false := decide_eq_false (by omega)
  have D3 : ¬ n ≤ fa.toNat - L := by omega
  have z2 := hy.c2
  have hnil : ∀ W : World, Sem.run Tryd.prog (binOp BinOp.eql 51 (Value.pointer (some ⟨f, 0, none⟩)) (Value.pointer none)) W = .ok (.bool false) W := fun W => by kernel_rfl
  have HY : Hid (w.cell? ⟨b, 0, none⟩ = some (.slice a L c)) := hy.c0
  generalize fa.toNat - L = r at *
  clear h hy hA hx hn hf h0 hF hcx
  go_enter Tryd.func17, Tryd.ntmps17
  go_upto_region 7 with (first
      | (go_at_call 24; (with_reducible refine c1.mono ?_); rintro e w1 ⟨rfl, m, hw1⟩; clear c1 z2; have c2 := HC2.out m; rw [← hw1] at c2; have HW1 : Hid (w1 = w.drewN m) := hw1; clear hw1)
      | (go_at_call 24; (with_reducible refine c2.mono ?_); rintro e w3 ⟨rfl, j, hw3⟩; clear c2; rw [HW1.out, World.drewN_drewN] at hw3; have HW3 : Hid (w3 = w.drewN (m + j)) := hw3; clear hw3))
  obtain ⟨w2, a', c', hrun, u0, u1, hG⟩ := HA.out (m + j + 1)
  have ew : w.drewN (m + j + 1) = w3.drew := by rw [HW3.out]; rfl
  rw [ew] at hrun
  have z0 : w3.cell? ⟨b, 0, none⟩ = some (.slice a L c) := by rw [HW3.out]; exact HY.out
  have u2 := hG.2.2
  have HG : Hid _ := hG
  clear hG HA HW1 HW3 ew HY HC2 D1 D2 D3
  refine region_planJ (fun w' => w'.cell? ⟨b, 0, none⟩ = some (.slice a L c)) 9 [8, 0] 52 z0 (by kernel_rfl) (by decide +kernel) (fun _ a d v _ h => by cases d <;> exact h) ?_
  refine planT_step ?A1 rfl (fun w' hS => ?s1) rfl (fun K hK => ?n1)
  case s1 =>
    have z0 := hS
    simp only [List.take_succ_cons, List.take_zero]
    repeat still_step
    exact rfl
  case n1 =>
  clear hcut z0
  refine step_app6 rfl _ _ _ rfl rfl rfl hrun ?_
  refine hK _ _ u0 ?_
  clear hK K hrun
  refine planT_last ?A2 rfl (fun w' hS => ?s2) rfl ?n2
  case s2 =>
    simp only [List.take_zero]
    exact rfl
  case n2 =>
  simp only [List.drop_succ_cons, List.drop_zero]
  go_wp2
  go_quiet (fail)
  go_wp2
  go_ret2
  exact ⟨rfl, by simpa using HG.out.1.drewN nq, HG.out.2.1.drewN nq⟩
end Go.Proofs.YtfbgcednodnioabDoor
