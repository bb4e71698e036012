import Derived.Test.YtikepkckfnpngaaMxe
namespace Go.Proofs.Ytikepkckfnpngaa
open Go.RowKit Gf2
set_option linter.unusedVariables false

theorem Ans.block {m c : Nat} {w w' : World} {v : Value} {S : Nat → Nat → Nat} (h : Ans w w' v m c S) (h0 : 0 < m) : ∃ g k, v = .slice (some ⟨g, 0, none⟩) m k := by
  obtain ⟨⟨B, hC⟩, _⟩ := h
  obtain ⟨g, k, e, _⟩ := hC.block h0
  exact ⟨g, k, e⟩
set_option maxHeartbeats 2000000 in
set_option maxRecDepth 100000 in
theorem names10 (w : World) : Calls Try.prog 7 #[] w fun e w' => e = .returned (.bool true) ∧ Below w.heap.size w w' := by
  have c1 : Calls Try.prog 27 #[.int .i64 256, .int .i64 512] w fun e w' => ∃ v, e = .returned (.tuple #[v, .int .i64 0]) ∧ Ans w w' v 256 512 vdm := vander10_yes 256 512 w (by decide) (by decide) (by decide) (by decide)
  have c2 := fun x => vander10_no 257 1 x (by decide)
  have c3 := fun x => vander10_no 1 513 x (by decide)
  have c5 := fun x => cauchy10_no 255 2 x (by decide) (by decide)
  have c6 : ∀ x, Calls Try.prog 29 #[.int .i64 255, .int .i64 1] x fun e w' => ∃ v, e = .returned (.tuple #[v, .int .i64 0]) ∧ Ans x w' v 255 1 (cau 1) := fun x => cauchy10_yes 255 1 x (by decide) (by decide) (by decide)
  have c4 : ∀ (v : Value) x, Ans w x v 256 512 vdm → Calls Try.prog 28 #[v] x fun e w' => e = .returned (.int .i64 0) ∧ w' = x := fun v x hx => check10_yes v 256 (fun _ => 512) vdm x hx.lb ⟨by decide, by decide, by decide, by decide, fun _ _ => rfl⟩
  go_enter Try.func7, Try.ntmps7
  go_wp2_with (first
    | (go_at_call 27; first | ((with_reducible refine c1.mono ?_); rintro e w1 ⟨v, rfl, hA⟩; have c4 := c4 v w1 hA; obtain ⟨g, c, hv⟩ := hA.block (by decide); subst hv; have HA : Hid (Below w.heap.size w w1) := hA.2; clear hA c1) | ((with_reducible refine (c2 _).mono ?_); rintro e w9 ⟨rfl, hw9⟩; have hw9 := hw9.symm; subst hw9) | ((with_reducible refine (c3 _).mono ?_); rintro e w9 ⟨rfl, hw9⟩; have hw9 := hw9.symm; subst hw9))
    | (go_at_call 28; (with_reducible refine c4.mono ?_); rintro e w9 ⟨rfl, hw9⟩; have hw9 := hw9.symm; subst hw9)
    | (go_at_call 29; first | ((with_reducible refine (c6 _).mono ?_); rintro e w2 ⟨v2, rfl, hA2⟩; obtain ⟨g2, k2, hv2⟩ := hA2.block (by decide); subst hv2; have HA2 : Hid (Below w.heap.size w w2) := HA.out.trans (hA2.2.mono HA.out.size); clear hA2 c6) | ((with_reducible refine (c5 _).mono ?_); rintro e w9 ⟨rfl, hw9⟩; have hw9 := hw9.symm; subst hw9)))
  go_ret
  exact ⟨rfl, HA2.out⟩
end Go.Proofs.Ytikepkckfnpngaa
