import Derived.Test.YtfbgcednodnioabDoorPcap
import Derived.Test.YtfbgcednodnioabDoorPcao
namespace Go.Proofs.YtfbgcednodnioabDoor
open Go.RowKit Gf2
set_option linter.unusedVariables false

-- layer 22: the laws' model, is
set_option maxHeartbeats 2000000 in
set_option maxRecDepth 100000 in
theorem model22 (a : Option Addr) (n c : Nat) (a' : Option Addr) (k c' : Nat) (D : Nat → Nat) (C : Nat → Int) (fa code : Int) (B : Nat) (w : World) (hB : B ≤ w.heap.size) (h2 : Bi (fun x => x < B) w (.slice a n c) n D) (h3 : Ii (fun x => x < B) w (.slice a' k c') k C) (hn : n ≤ 140737488355328) (hk : k ≤ 140737488355328) (hf : I6x fa) :
    Calls Tryd.prog 12 #[.agg #[.slice a n c, .slice a' k c', .int .i64 fa, .int .i64 code]] w fun e w' => ∃ mb, e = .returned (.pointer (some ⟨mb, 0, none⟩)) ∧ Mo B w' mb n D k C fa 0 0 ∧ Below w.heap.size w w' ∧ w.heap.size ≤ mb := by
  have HG : Hid (Mo B ((w.alloc (.cells #[.slice a n c, .slice a' k c', .int .i64 fa, .int .i64 code] 39)).alloc (.cells #[.slice a n c, .slice a' k c', .int .i64 fa, .int .i64 0, .int .i64 0] 64)) (w.heap.size + 1) n D k C fa 0 0 ∧ Below w.heap.size w ((w.alloc (.cells #[.slice a n c, .slice a' k c', .int .i64 fa, .int .i64 code] 39)).alloc (.cells #[.slice a n c, .slice a' k c', .int .i64 fa, .int .i64 0, .int .i64 0] 64))) := by
    have b1 : Below w.heap.size w (w.alloc (.cells #[.slice a n c, .slice a' k c', .int .i64 fa, .int .i64 code] 39)) := (Below.refl _ _).alloc (Nat.le_refl _) _
    have s1 : (w.alloc (.cells #[.slice a n c, .slice a' k c', .int .i64 fa, .int .i64 code] 39)).heap.size = w.heap.size + 1 := by simp
    have b2 : Below w.heap.size w ((w.alloc (.cells #[.slice a n c, .slice a' k c', .int .i64 fa, .int .i64 code] 39)).alloc (.cells #[.slice a n c, .slice a' k c', .int .i64 fa, .int .i64 0, .int .i64 0] 64)) := b1.alloc (by omega) _
    have h1 := heap_alloc_new (w.alloc (.cells #[.slice a n c, .slice a' k c', .int .i64 fa, .int .i64 code] 39)) (.cells #[.slice a n c, .slice a' k c', .int .i64 fa, .int .i64 0, .int .i64 0] 64)
    rw [s1] at h1
    exact ⟨⟨by omega, ⟨a, c, a', c', h1, h2.ke (ke_below b2 (fun _ => False)) (fun _ _ e => e), h3.ke (ke_below b2 (fun _ => False)) (fun _ _ e => e)⟩, Nat.zero_le _, fun h => h, hn, hk, by decide, hf⟩, b2⟩
  clear hB h2 h3 hn hk hf
  go_enter Tryd.func12, Tryd.ntmps12
  go_wp2
  go_ret
  exact ⟨_, rfl, HG.out.1, HG.out.2, by simp⟩
/-- the document's error. -/
theorem is0_22 (f : Value) (w : World) : Calls Tryd.prog 15 #[.nilIface, .int .i64 0, f] w fun e w' => e = .returned (.bool true) ∧ w' = w := by
  go_enter Tryd.func15, Tryd.ntmps15
  go_wp2
  go_ret
  exact ⟨rfl, rfl⟩
theorem is2_22 (f : Nat) (w : World) : Calls Tryd.prog 15 #[.iface 51 (.pointer (some ⟨f, 0, none⟩)), .int .i64 2, .iface 51 (.pointer (some ⟨f, 0, none⟩))] w fun e w' => e = .returned (.bool true) ∧ w' = w := by
  have e1 := fun W => eqf22 W f
  have e2 : ∀ W : World, Sem.run Tryd.prog (binOp BinOp.neq 30 (Value.iface 51 (.pointer (some ⟨f, 0, none⟩))) Value.nilIface) W = .ok (.bool true) W := fun W => by kernel_rfl
  go_enter Tryd.func15, Tryd.ntmps15
  go_wp2
  go_ret
  exact ⟨rfl, rfl⟩
theorem info_es22 : ∃ i j, Tryd.prog.info? 69 = some i ∧ i.comparable = true ∧ Tryd.prog.info? 86 = some j := by
  have h1 : (Tryd.prog.info? 69).map (·.comparable) = some true := by kernel_rfl
  have h2 : (Tryd.prog.info? 86).map (·.size) = some 1 := by kernel_rfl
  cases hi : Tryd.prog.info? 69 with
  | none => rw [hi] at h1; cases h1
  | some i =>
    cases hj : Tryd.prog.info? 86 with
    | none => rw [hj] at h2; cases h2
    | some j =>
      rw [hi] at h1
      simp at h1
      exact ⟨i, j, rfl, h1, rfl⟩
theorem is1_22 (x : Addr) (f : Value) (w : World) (hE : w.cell? ⟨0, 0, none⟩ = some (.iface 69 (.pointer (some x)))) :
    Calls Tryd.prog 15 #[.iface 69 (.pointer (some x)), .int .i64 1, f] w fun e w' => e = .returned (.bool true) ∧ w' = w := by
  have e1 : ∀ W : World, (binOp .eql 30 (.iface 69 (.pointer (some x))) (.iface 69 (.pointer (some x)))).run Tryd.prog W = .ok (.bool true) W := fun W => by
    obtain ⟨i, j, h1, h2, h3⟩ := info_es22
    exact run_eql_iface_ptr_same W x Tryd.underlying30 Tryd.underlying69 h1 h2 h3
  go_enter Tryd.func15, Tryd.ntmps15
  go_wp2
  go_ret
  exact ⟨rfl, rfl⟩
end Go.Proofs.YtfbgcednodnioabDoor
