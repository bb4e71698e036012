import Derived.Test.YtfbgcednodnioabDoorZpq
import Derived.LaidEql
namespace Go.Proofs.YtfbgcednodnioabDoor
open Go.RowKit Gf2
set_option linter.unusedVariables false

-- layer 22: failures held against one another; Put in all cases
theorem info_pb22 : ∃ i j, Tryd.prog.info? 51 = some i ∧ i.comparable = true ∧ Tryd.prog.info? 68 = some j ∧ j.size ≠ 0 := by
  have h1 : (Tryd.prog.info? 51).map (·.comparable) = some true := by kernel_rfl
  have h2 : (Tryd.prog.info? 68).map (·.size) = some 1 := by kernel_rfl
  cases hi : Tryd.prog.info? 51 with
  | none => rw [hi] at h1; cases h1
  | some i =>
    cases hj : Tryd.prog.info? 68 with
    | none => rw [hj] at h2; cases h2
    | some j =>
      rw [hi] at h1
      rw [hj] at h2
      simp at h1 h2
      exact ⟨i, j, rfl, h1, rfl, by omega⟩
theorem eqf22 (w : World) (f : Nat) : (binOp .eql 30 (.iface 51 (.pointer (some ⟨f, 0, none⟩))) (.iface 51 (.pointer (some ⟨f, 0, none⟩)))).run Tryd.prog w = .ok (.bool true) w := by
  obtain ⟨i, j, h1, h2, h3, -⟩ := info_pb22
  exact run_eql_iface_ptr_same w ⟨f, 0, none⟩ Tryd.underlying30 Tryd.underlying51 h1 h2 h3
theorem nef22 (w : World) (f : Nat) : (binOp .neq 30 (.iface 51 (.pointer (some ⟨f, 0, none⟩))) (.iface 51 (.pointer (some ⟨f, 0, none⟩)))).run Tryd.prog w = .ok (.bool false) w := by
  obtain ⟨i, j, h1, h2, h3, -⟩ := info_pb22
  simp only [binOp]
  simp [Op.equal, Op.maxDepth, run_equalIn_iface_ptr_same w 9998 ⟨f, 0, none⟩ Tryd.underlying30 Tryd.underlying51 h1 h2 h3]
theorem eqo22 (w : World) {f f' : Nat} {c c' : Int} (hne : f ≠ f') (h : w.heap[f]? = some (.cells #[.int .i64 c] 68 (0, 0))) (h' : w.heap[f']? = some (.cells #[.int .i64 c'] 68 (0, 0))) :
    (binOp .eql 30 (.iface 51 (.pointer (some ⟨f, 0, none⟩))) (.iface 51 (.pointer (some ⟨f', 0, none⟩)))).run Tryd.prog w = .ok (.bool false) w := by
  obtain ⟨i, j, h1, h2, h3, h4⟩ := info_pb22
  exact run_eql_iface_ptr_other w Tryd.underlying30 Tryd.underlying51 h1 h2 h3 h4 (fun e => hne (by cases e; rfl)) h h'
/-- how many of n bytes a sink takes. -/
def wr22 (L n : Nat) (fa : Int) : Nat := if 0 ≤ fa then min n (fa.toNat - L) else n
theorem wr22_le (L n : Nat) (fa : Int) : wr22 L n fa ≤ n := by unfold wr22; split <;> omega
set_option maxHeartbeats 2000000 in
set_option maxRecDepth 100000 in
theorem put0_22 {Fp : Nat → Prop} {b L f : Nat} {T : Nat → Nat} {fa code : Int} (a : Option Addr) (cap : Nat) (w : World) (h : Sk Fp w b L T fa code f) :
    Calls Tryd.prog 7 #[.iface 24 (.pointer (some ⟨b, 0, none⟩)), .slice a 0 cap] w fun e w' => e = .returned (.tuple #[.int .i64 0, .nilIface]) ∧ Pw22 Fp w w' b L T fa code f := by
  have HP : Hid (Pw22 Fp w w b L T fa code f) := ⟨h.wide (fun x hx => .inl hx) (fun x hx => by
    rcases hx with hx | hx
    · exact h.fl x hx
    · exact hx.2), Ke.refl _ _⟩
  have c2 : Calls Tryd.prog 19 #[.func (.method "Write") #[.iface 24 (.pointer (some ⟨b, 0, none⟩))] #[], .slice a 0 cap] w fun e w' => e = .returned (.tuple #[.int .i64 0, .nilIface]) ∧ w' = w := by
    clear HP h
    go_enter Tryd.func19, Tryd.ntmps19
    go_wp2
    go_loopw [6, 7] (fun d i wr => d = .int .i64 0 ∧ i = .int .i64 0 ∧ wr = w) (fun _ _ _ => 0)
    case atStart => exact ⟨rfl, rfl, rfl⟩
    case round =>
      obtain ⟨rfl, rfl, rfl⟩ := hrel
      go_wp2
      go_ret2
      exact ⟨rfl, rfl⟩
  have hmf : ∀ (fn : Fn) (first cap : Array Value) (w : World), (Instr.makeFunc fn first cap).run Tryd.prog w = .ok (.func fn first cap) w := fun _ _ _ _ => rfl
  have e2 : ∀ W : World, Sem.run Tryd.prog (binOp BinOp.eql 56 (Value.iface 24 (.pointer (some ⟨b, 0, none⟩))) Value.nilIface) W = .ok (.bool false) W := fun W => by kernel_rfl
  clear h
  go_enter Tryd.func7, Tryd.ntmps7
  go_wp2_with (go_at_call 19; (with_reducible refine c2.mono ?_); rintro e w1 ⟨rfl, hb⟩; have HB : Hid _ := hb; clear c2 hb)
  go_ret2
  exact ⟨rfl, by rw [HB.out]; exact HP.out⟩
/-- what a sink's error is behind n bytes. -/
def we22 (L n : Nat) (fa : Int) (f : Nat) : Value := if wr22 L n fa < n then .iface 51 (.pointer (some ⟨f, 0, none⟩)) else .nilIface
/-- Put, whatever is put. -/
theorem putk22 {Fp : Nat → Prop} {b L f : Nat} {T : Nat → Nat} {fa code : Int} (a : Option Addr) (n cap : Nat) (S : Nat → Nat) (w : World) (h : Sk Fp w b L T fa code f) (hx : Rb w (.slice a n cap) n S) (hn : L + n ≤ 225000000000000) :
    Calls Tryd.prog 7 #[.iface 24 (.pointer (some ⟨b, 0, none⟩)), .slice a n cap] w fun e w' => e = .returned (.tuple #[.int .i64 ((wr22 L n fa : Nat) : Int), we22 L n fa f]) ∧ Pw22 Fp w w' b (L + wr22 L n fa) (aft T L S) fa code f := by
  have hxn : Rb w (.slice a n n) n S := by
    obtain ⟨h1, h2, a', c', e, h4, h5, h6⟩ := hx
    cases e
    exact ⟨h1, h2, a, n, rfl, Nat.le_refl _, h1, h6⟩
  have hcap : n ≤ cap := by obtain ⟨-, -, a', c', e, h4, -⟩ := hx; cases e; exact h4
  rcases Nat.eq_zero_or_pos n with h0 | h0
  · subst h0
    have e1 : wr22 L 0 fa = 0 := Nat.le_zero.1 (wr22_le L 0 fa)
    have e2 : we22 L 0 fa f = .nilIface := if_neg (Nat.not_lt_zero _)
    rw [e1, e2]
    have hc : Sk Fp w b L (aft T L S) fa code f := h.congr (fun i hi => (if_pos hi).symm)
    exact put0_22 a cap w hc
  · by_cases hf : 0 ≤ fa ∧ fa.toNat - L < n
    · have e1 : wr22 L n fa = fa.toNat - L := by unfold wr22; rw [if_pos hf.1]; omega
      have e2 : we22 L n fa f = .iface 51 (.pointer (some ⟨f, 0, none⟩)) := if_pos (by rw [e1]; exact hf.2)
      rw [e1, e2]
      refine put22 (L := L) (T := T) a n cap _ (fa.toNat - L) _ _ w hcap hx.1 h0 (askput22 _ _ (fa.toNat - L) _ _ w h (.inr ⟨_, _, rfl⟩) (fun W hW hb => ?_)) (.inr ⟨hf.2, _, _, rfl⟩)
      exact write22_fail a n n S W hW (hxn.below hb) hn hf.1 hf.2
    · have e1 : wr22 L n fa = n := by
        unfold wr22
        split
        · rename_i h1
          have : ¬ fa.toNat - L < n := fun h2 => hf ⟨h1, h2⟩
          omega
        · rfl
      have e2 : we22 L n fa f = .nilIface := if_neg (by rw [e1]; omega)
      rw [e1, e2]
      refine put22 (L := L) (T := T) a n cap _ n _ _ w hcap hx.1 h0 (askput22 _ _ n _ _ w h (.inl rfl) (fun W hW hb => ?_)) (.inl ⟨rfl, rfl⟩)
      exact write22_ok a n n S W hW (hxn.below hb) hn (fun h1 => by
        have h2 : ¬ fa.toNat - L < n := fun h2 => hf ⟨h1, h2⟩
        have := h.lf h1
        omega)
end Go.Proofs.YtfbgcednodnioabDoor
