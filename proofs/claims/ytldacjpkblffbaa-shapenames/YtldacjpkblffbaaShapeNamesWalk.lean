import Derived.Test.YtldacjpkblffbaaYhk
namespace Go.Proofs.Ytldacjpkblffbaa
open Go.RowKit Gf2
set_option linter.unusedVariables false

set_option maxHeartbeats 2000000 in
set_option maxRecDepth 100000 in
theorem names16 (w : World) : Calls Try.prog 3 #[] w fun e w' => e = .returned (.bool true) ∧ Below w.heap.size w w' := by
  have hmk : ∀ x : World, (Instr.makeSlice 27 (.int .i64 2050) (.int .i64 2050)).run Try.prog x = .ok (.slice (some ⟨x.heap.size, 0, none⟩) 2050 2050) (x.alloc (.cells (madeCells #[.int .u8 0] 2050) 5)) := fun x => make_u8 2050 (by decide) x
  obtain ⟨W, hW⟩ : ∃ W, W = w.alloc (.cells (madeCells #[.int .u8 0] 2050) 5) := ⟨_, rfl⟩
  have r0 := made_rw 2050 (by decide) w
  have b0 : Below w.heap.size w W := by rw [hW]; exact (Below.refl _ _).alloc (Nat.le_refl _) _
  rw [← hW] at r0
  have c1 : Calls Try.prog 9 #[.int .i64 2, .int .i64 1, .int .i64 32768, .slice (some ⟨w.heap.size, 0, none⟩) 2050 2050] W fun e w' => e = .returned (.tuple #[.slice none 0 0, .int .i64 5]) ∧ w' = W :=
    split16_big 2 1 32768 _ 2050 _ W ⟨by decide, by decide⟩ r0.rb0 (by decide +kernel) (by decide +kernel)
  have c2 := awake16 W
  have HB : Hid (Below w.heap.size w W ∧ W = w.alloc (.cells (madeCells #[.int .u8 0] 2050) 5)) := ⟨b0, hW⟩
  clear r0 b0 hW
  have hmk1 := hmk w
  rw [← HB.out.2] at hmk1
  clear hmk
  go_enter Try.func3, Try.ntmps3
  go_wp2_with (first
    | (go_at_call 9; (with_reducible refine c1.mono ?_); rintro e w9 ⟨rfl, hw9⟩; have hw9 := hw9.symm; subst hw9)
    | (go_at_call 10; (with_reducible refine c2.mono ?_); rintro e w2 ⟨rfl, hb2⟩; have H2 : Hid (Below w.heap.size w w2) := HB.out.1.trans (hb2.mono HB.out.1.size); clear hb2))
  go_ret
  exact ⟨rfl, H2.out⟩
end Go.Proofs.Ytldacjpkblffbaa
