import Derived.Test.YtfbgcednodnioabDoorZpk
import Derived.Test.YtfbgcednodnioabDoorZpm
import Derived.Test.YtfbgcednodnioabDoorZpn
namespace Go.Proofs.YtfbgcednodnioabDoor
open Go.RowKit Gf2
set_option linter.unusedVariables false

-- layer 22: Put into a sink
theorem Sk.wide {Fp Fq : Nat → Prop} {w : World} {b L f : Nat} {T : Nat → Nat} {fa code : Int} (h : Sk Fp w b L T fa code f) (h1 : ∀ x, Fp x → Fq x) (h2 : ∀ x, Fq x → x < w.heap.size) : Sk Fq w b L T fa code f := by
  obtain ⟨v, fv, g, k1, k2, k3, k4⟩ := h.dat
  exact ⟨h1 _ h.bl, h2, ⟨v, fv, g, k1, k2, k3.imp id (fun e => ⟨h1 _ e.1, e.2⟩), k4⟩, fun h0 => ⟨h1 _ (h.fb h0).1, (h.fb h0).2⟩, h.lf, h.ff⟩
/-- what a write leaves. -/
structure Pw22 (Fp : Nat → Prop) (w w' : World) (b L : Nat) (T : Nat → Nat) (fa code : Int) (f : Nat) : Prop where
  sk : Sk (fun y => Fp y ∨ w.heap.size ≤ y ∧ y < w'.heap.size) w' b L T fa code f
  ke : Ke Fp w w'
/-- a sink is asked. -/
theorem askput22 {Fp : Nat → Prop} {b L f : Nat} {T : Nat → Nat} {fa code : Int} (v ev : Value) (m L' : Nat) (T' : Nat → Nat) (w : World) (h : Sk Fp w b L T fa code f) (hev : ev = .nilIface ∨ ∃ T v, ev = .iface T v)
    (c : ∀ W, Sk Fp W b L T fa code f → Below w.heap.size w W → Calls Tryd.prog 17 #[.pointer (some ⟨b, 0, none⟩), v] W fun e w' => e = .returned (.tuple #[.int .i64 (m : Int), ev]) ∧ Sk (fun y => Fp y ∨ W.heap.size ≤ y ∧ y < w'.heap.size) w' b L' T' fa code f ∧ Ke Fp W w') :
    Calls Tryd.prog 25 #[.func (.method "Write") #[.iface 24 (.pointer (some ⟨b, 0, none⟩))] #[], v] w fun e w' => e = .returned (.tuple #[.int .i64 (m : Int), ev]) ∧ Pw22 Fp w w' b L' T' fa code f := by
  have bA : Below w.heap.size w ((w.alloc (.cells #[.int .i64 0] 3)).alloc (.cells #[.nilIface] 30)) := ((Below.refl _ _).alloc (Nat.le_refl _) _).alloc (by simp) _
  have sA : ((w.alloc (.cells #[.int .i64 0] 3)).alloc (.cells #[.nilIface] 30)).heap.size = w.heap.size + 2 := by simp
  have hS := h.below bA
  refine (askwrite22 _ v w ev hev (fun m' w' => m' = (m : Int) ∧ Sk (fun y => Fp y ∨ w.heap.size + 2 ≤ y ∧ y < w'.heap.size) w' b L' T' fa code f ∧ Ke Fp ((w.alloc (.cells #[.int .i64 0] 3)).alloc (.cells #[.nilIface] 30)) w') ((c _ hS bA).mono fun e w' ⟨he, hk, hke⟩ => ?_)).mono fun e w' ⟨m', w2, he, ⟨hm, hk, hke⟩, hw'⟩ => ⟨by rw [he, hm], ?_⟩
  · have q := ask_ke22 0 ev hke h.fl
    rw [sA] at hk
    exact ⟨_, he, q.1, q.2.1, rfl, hk, hke⟩
  · have q := ask_ke22 m' ev hke h.fl
    rw [← hw'] at q
    have hb0 : Below 0 w2 w' := by
      rw [hw']
      exact (((Only.refl w.heap.size w2).setCell 0 (.int .i64 m')).1).trans (((Only.refl (w.heap.size + 1) (w2.setCell ⟨w.heap.size, 0, none⟩ (.int .i64 m'))).setCell 0 ev).1)
    have k2 : Ke (fun x => x = w.heap.size ∨ x = w.heap.size + 1) w2 w' := by
      rw [hw']
      exact (((Only.refl w.heap.size w2).setCell 0 (.int .i64 m')).kp.ke.mono (fun x _ e => .inl e)).trans (((Only.refl (w.heap.size + 1) (w2.setCell ⟨w.heap.size, 0, none⟩ (.int .i64 m'))).setCell 0 ev).kp.ke.mono (fun x _ e => .inr e))
    refine ⟨(hk.keep k2 (fun x hx e => ?_)).wide (fun x hx => ?_) (fun x hx => ?_), q.2.2.1⟩
    · rcases hx with hx | hx
      · have := h.fl x hx; omega
      · omega
    · rcases hx with hx | hx
      · exact .inl hx
      · exact .inr ⟨by omega, by rw [q.2.2.2.2]; exact hx.2⟩
    · rcases hx with hx | hx
      · exact Nat.lt_of_lt_of_le (h.fl x hx) (by have := q.2.2.1.size; omega)
      · exact hx.2
set_option maxHeartbeats 2000000 in
set_option maxRecDepth 100000 in
theorem put22 {Fp : Nat → Prop} {b L f : Nat} {T : Nat → Nat} {fa code : Int} (a : Option Addr) (n cap : Nat) (ev : Value) (m L' : Nat) (T' : Nat → Nat) (w : World) (hc : n ≤ cap) (hn : n ≤ big) (h0 : 0 < n)
    (c1 : Calls Tryd.prog 25 #[.func (.method "Write") #[.iface 24 (.pointer (some ⟨b, 0, none⟩))] #[], .slice a n n] w fun e w' => e = .returned (.tuple #[.int .i64 (m : Int), ev]) ∧ Pw22 Fp w w' b L' T' fa code f)
    (hm : (ev = .nilIface ∧ m = n) ∨ (m < n ∧ ∃ t v, ev = .iface t v)) :
    Calls Tryd.prog 7 #[.iface 24 (.pointer (some ⟨b, 0, none⟩)), .slice a n cap] w fun e w' => e = .returned (.tuple #[.int .i64 (m : Int), ev]) ∧ Pw22 Fp w w' b L' T' fa code f := by
  have c2 : Calls Tryd.prog 19 #[.func (.method "Write") #[.iface 24 (.pointer (some ⟨b, 0, none⟩))] #[], .slice a n cap] w fun e w' => e = .returned (.tuple #[.int .i64 (m : Int), ev]) ∧ Pw22 Fp w w' b L' T' fa code f := by
    have HW : Hid (wrap64 (n : Int) = (n : Int) ∧ wrap64 (m : Int) = (m : Int)) := by
      unfold big at hn
      refine ⟨?_, ?_⟩
      · unfold wrap64; omega
      · rcases hm with ⟨-, h⟩ | ⟨h, -⟩ <;> (unfold wrap64; omega)
    have D0 : (0 : Int) < (n : Int) := by omega
    have D1 : decide ((m : Int) < 0) = false := decide_eq_false (by omega)
    have D2 : decide ((n : Int) < (m : Int)) = false := decide_eq_false (by rcases hm with ⟨-, h⟩ | ⟨h, -⟩ <;> omega)
    have D2N : ¬ n < m := by rcases hm with ⟨-, h⟩ | ⟨h, -⟩ <;> omega
    rcases hm with ⟨rfl, rfl⟩ | ⟨hmn, t, v, rfl⟩
    · clear hn h0
      go_enter Tryd.func19, Tryd.ntmps19
      go_wp2
      go_loopw [6, 7] (fun d i wr => d = .int .i64 0 ∧ i = .int .i64 0 ∧ wr = w) (fun _ _ _ => 0)
      case atStart => exact ⟨rfl, rfl, rfl⟩
      case round =>
        obtain ⟨rfl, rfl, rfl⟩ := hrel
        go_wp2_with (go_at_call 25; (with_reducible refine c1.mono ?_); rintro e w1 ⟨rfl, hb⟩; have HB : Hid _ := hb; clear c1 hb; have W1 := HW.out.1)
        go_ret2
        simp only [W1]
        exact ⟨rfl, HB.out⟩
    · have D3 : ((m : Int) == (n : Int)) = false := beq_eq_false_iff_ne.2 (by omega)
      have D3N : ¬ m = n := by omega
      have e2 : ∀ W : World, Sem.run Tryd.prog (binOp BinOp.neq 30 (Value.iface t v) Value.nilIface) W = .ok (.bool true) W := fun W => by kernel_rfl
      clear hn h0 hmn
      go_enter Tryd.func19, Tryd.ntmps19
      go_wp2
      go_loopw [6, 7] (fun d i wr => d = .int .i64 0 ∧ i = .int .i64 0 ∧ wr = w) (fun _ _ _ => 0)
      case atStart => exact ⟨rfl, rfl, rfl⟩
      case round =>
        obtain ⟨rfl, rfl, rfl⟩ := hrel
        go_wp2_with (go_at_call 25; (with_reducible refine c1.mono ?_); rintro e w1 ⟨rfl, hb⟩; have HB : Hid _ := hb; clear c1 hb; have W1 := HW.out.1; have W2 := HW.out.2)
        go_ret2
        simp only [W2]
        exact ⟨rfl, HB.out⟩
  have hmf : ∀ (fn : Fn) (first cap : Array Value) (w : World), (Instr.makeFunc fn first cap).run Tryd.prog w = .ok (.func fn first cap) w := fun _ _ _ _ => rfl
  have e2 : ∀ W : World, Sem.run Tryd.prog (binOp BinOp.eql 56 (Value.iface 24 (.pointer (some ⟨b, 0, none⟩))) Value.nilIface) W = .ok (.bool false) W := fun W => by kernel_rfl
  clear hc hn h0 c1 hm
  go_enter Tryd.func7, Tryd.ntmps7
  go_wp2_with (go_at_call 19; (with_reducible refine c2.mono ?_); rintro e w1 ⟨rfl, hb⟩; have HB : Hid _ := hb; clear c2 hb)
  go_ret2
  exact ⟨rfl, HB.out⟩
end Go.Proofs.YtfbgcednodnioabDoor
