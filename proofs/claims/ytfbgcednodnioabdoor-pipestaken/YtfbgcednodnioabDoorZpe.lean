import Derived.Test.YtfbgcednodnioabDoorZpd
namespace Go.Proofs.YtfbgcednodnioabDoor
open Go.RowKit Gf2
set_option linter.unusedVariables false

-- layer 22: most, Read
set_option maxHeartbeats 2000000 in
set_option maxRecDepth 100000 in
theorem most22 {lo hi b n k f p t : Nat} {D : Nat → Nat} {C : Nat → Int} {fa code : Int} (x : Nat) (w : World) (h : So lo hi w b n D k C fa code f p t) (hl : x ≤ 140737488355328) :
    Calls Tryd.prog 22 #[.pointer (some ⟨b, 0, none⟩), .int .i64 (x : Int)] w fun e w' => e = .returned (.int .i64 ((mo22 x n p fa : Nat) : Int)) ∧ ∃ m, w' = w.drewN m := by
  obtain ⟨a, cap, c, ccap, fv, hx, hB, hI, hF⟩ := h.open_
  have z0 := hx.c0
  have z1 := hx.c1
  have z4 := hx.c4
  have z5 := hx.c5
  have W1 : IntKind.i64.wrap ((n : Int) - (p : Int)) = ((n - p : Nat) : Int) := by have := h.pn; have := h.nb; rw [IntKind.wrap_i64]; omega
  have em : min (x : Int) ((n - p : Nat) : Int) = ((min x (n - p) : Nat) : Int) := by omega
  obtain ⟨d, hd⟩ : ∃ d, d = n - p := ⟨_, rfl⟩
  obtain ⟨y, hy⟩ : ∃ y, y = min x d := ⟨_, rfl⟩
  rw [← hd] at em
  rw [← hd] at W1
  rw [← hy] at em
  rcases hF with ⟨hf, rfl⟩ | ⟨hf, rfl, hfb⟩
  · have e1 : mo22 x n p fa = y := by rw [hy, hd]; exact if_neg (by omega)
    rw [e1]
    clear h hx hB hI hl e1 hd hy
    go_enter Tryd.func22, Tryd.ntmps22
    go_wp2
    go_quiet (fail)
    go_wp2
    go_ret
    exact ⟨rfl, _, rfl⟩
  · have e1 : mo22 x n p fa = min y (fa.toNat - p) := by rw [hy, hd]; exact if_pos hf
    rw [e1]
    have W2 : IntKind.i64.wrap (fa - (p : Int)) = ((fa.toNat - p : Nat) : Int) := by have := h.pf hf; have := h.ff.2; rw [IntKind.wrap_i64]; omega
    have em2 : min (y : Int) ((fa.toNat - p : Nat) : Int) = ((min y (fa.toNat - p) : Nat) : Int) := by omega
    obtain ⟨g, hg⟩ : ∃ g, g = fa.toNat - p := ⟨_, rfl⟩
    obtain ⟨r, hr⟩ : ∃ r, r = min y g := ⟨_, rfl⟩
    rw [← hg] at em2
    rw [← hg] at W2
    rw [← hg, ← hr]
    rw [← hr] at em2
    have hnil : ∀ W : World, Sem.run Tryd.prog (binOp BinOp.neq 51 (Value.pointer (some ⟨f, 0, none⟩)) (Value.pointer none)) W = .ok (.bool true) W := fun W => by kernel_rfl
    clear h hx hB hI hl e1 hd hy hg hr hf hfb
    go_enter Tryd.func22, Tryd.ntmps22
    go_wp2
    go_quiet (fail)
    go_wp2
    go_quiet (fail)
    go_wp2
    go_ret
    exact ⟨rfl, _, World.drewN_drewN _ _ _⟩
set_option maxHeartbeats 2000000 in
set_option maxRecDepth 100000 in
theorem read22_zero (b : Nat) (a : Option Addr) (cap : Nat) (w : World) :
    Calls Tryd.prog 13 #[.pointer (some ⟨b, 0, none⟩), .slice a 0 cap] w fun e w' => e = .returned (.tuple #[.int .i64 0, .nilIface]) ∧ w' = w := by
  go_enter Tryd.func13, Tryd.ntmps13
  go_wp2
  go_ret2
  exact ⟨rfl, rfl⟩
set_option maxHeartbeats 2000000 in
set_option maxRecDepth 100000 in
theorem read22_fail {lo hi b n k f p t : Nat} {D : Nat → Nat} {C : Nat → Int} {fa code : Int} (l : Nat) (a0 : Option Addr) (c0 : Nat) (w : World) (h : So lo hi w b n D k C fa code f p t) (hl : 0 < l) (hf : 0 ≤ fa) (hp : (p : Int) = fa) :
    Calls Tryd.prog 13 #[.pointer (some ⟨b, 0, none⟩), .slice a0 l c0] w fun e w' => e = .returned (.tuple #[.int .i64 0, .iface 51 (.pointer (some ⟨f, 0, none⟩))]) ∧ ∃ m, w' = w.drewN m := by
  obtain ⟨a, cap, c, ccap, fv, hx, hB, hI, hF⟩ := h.open_
  have z0 := hx.c0
  have z1 := hx.c1
  have z4 := hx.c4
  have z5 := hx.c5
  obtain rfl : fv = .pointer (some ⟨f, 0, none⟩) := by
    rcases hF with ⟨h1, -⟩ | ⟨-, h2, -⟩
    · omega
    · exact h2
  subst hp
  have hl0 : ((l : Int) == 0) = false := beq_eq_false_iff_ne.2 (by omega)
  have hl0N : ¬ l = 0 := by omega
  have hnil : ∀ W : World, Sem.run Tryd.prog (binOp BinOp.neq 51 (Value.pointer (some ⟨f, 0, none⟩)) (Value.pointer none)) W = .ok (.bool true) W := fun W => by kernel_rfl
  clear h hx hB hI hF hf hl
  go_enter Tryd.func13, Tryd.ntmps13
  go_wp2
  go_quiet (fail)
  go_wp2
  go_quiet (fail)
  go_wp2
  go_ret2
  exact ⟨rfl, _, World.drewN_drewN _ _ _⟩
set_option maxHeartbeats 2000000 in
set_option maxRecDepth 100000 in
theorem read22_end {lo hi b n k f p t : Nat} {D : Nat → Nat} {C : Nat → Int} {fa code : Int} (l : Nat) (a0 : Option Addr) (c0 : Nat) (T : TypeId) (ev : Value) (w : World) (h : So lo hi w b n D k C fa code f p t) (hl : 0 < l) (hp : ¬ (0 ≤ fa ∧ (p : Int) = fa)) (hn : p = n)
    (hE : w.cell? ⟨0, 0, none⟩ = some (.iface T ev)) :
    Calls Tryd.prog 13 #[.pointer (some ⟨b, 0, none⟩), .slice a0 l c0] w fun e w' => e = .returned (.tuple #[.int .i64 0, .iface T ev]) ∧ ∃ m, w' = w.drewN m := by
  obtain ⟨a, cap, c, ccap, fv, hx, hB, hI, hF⟩ := h.open_
  have z0 := hx.c0
  have z1 := hx.c1
  have z4 := hx.c4
  have z5 := hx.c5
  have hl0 : ((l : Int) == 0) = false := beq_eq_false_iff_ne.2 (by omega)
  have hl0N : ¬ l = 0 := by omega
  subst hn
  rcases hF with ⟨hf, rfl⟩ | ⟨hf, rfl, hfb⟩
  · clear h hx hB hI hp hl hf
    go_enter Tryd.func13, Tryd.ntmps13
    go_wp2
    go_quiet (fail)
    go_wp2
    go_quiet (fail)
    go_wp2
    go_quiet (fail)
    go_wp2
    go_ret2
    exact ⟨rfl, _, by rw [World.drewN_drewN, World.drewN_drewN]⟩
  · have hpf : ((p : Int) == fa) = false := beq_eq_false_iff_ne.2 (fun e => hp ⟨hf, e⟩)
    have hnil : ∀ W : World, Sem.run Tryd.prog (binOp BinOp.neq 51 (Value.pointer (some ⟨f, 0, none⟩)) (Value.pointer none)) W = .ok (.bool true) W := fun W => by kernel_rfl
    clear h hx hB hI hp hl hf hfb
    go_enter Tryd.func13, Tryd.ntmps13
    go_wp2
    go_quiet (fail)
    go_wp2
    go_quiet (fail)
    go_wp2
    go_quiet (fail)
    go_wp2
    go_ret2
    exact ⟨rfl, _, by rw [World.drewN_drewN, World.drewN_drewN]⟩
end Go.Proofs.YtfbgcednodnioabDoor
