import Derived.Test.YtehbiccpbopkfaaDoorFfap
import Derived.Lib.SlBytesConst
namespace Go.Proofs.YtehbiccpbopkfaaDoor
open Go.RowKit Gf2
set_option linter.unusedVariables false

-- layer 25: awake
theorem gh_awake25 : Gh25 ((0 : Nat) : Int) 2 1 0 3 2 1 := ⟨by decide +kernel, by decide, by decide, by decide +kernel, by decide, by decide, ⟨by decide, by decide, .inl (by decide)⟩, by decide +kernel⟩
theorem nine_sum25 : nt (fol25 (nt 0) (fun i => [49, 50, 51, 52, 53, 54, 55, 56, 57].getD i 0) 9) = 3421780262 := by decide +kernel
/-- bytes that are written out, in a block with any mark. -/
theorem lit_rb25 (l : List Nat) (W : World) (fr : Nat × Nat) (hl : ∀ x ∈ l, x < 256) (hn : l.length ≤ 1000) : Rb (W.alloc (.cells (l.map (fun n : Nat => Value.int .u8 (n : Int))).toArray 5 fr)) (.slice (some ⟨W.heap.size, 0, none⟩) l.length l.length) l.length (fun i => l.getD i 0) := by
  refine ⟨by unfold big; omega, fun i hi => ?_, _, _, rfl, Nat.le_refl _, by unfold big; omega, fun _ => ⟨W.heap.size, 0, rfl, by simp, fun i hi => ?_⟩⟩
  · show l.getD i 0 < 256
    rw [List.getD_eq_getElem?_getD, List.getElem?_eq_getElem hi]
    exact hl _ (List.getElem_mem hi)
  · show _ = some (Value.int .u8 ((l.getD i 0 : Nat) : Int))
    rw [Nat.zero_add, cell_of_row _ _ _ _ _ _ (heap_alloc_new _ _), List.getElem?_toArray, List.getElem?_map, List.getElem?_eq_getElem hi, List.getD_eq_getElem?_getD, List.getElem?_eq_getElem hi]
    rfl
set_option maxHeartbeats 4000000 in
set_option maxRecDepth 100000 in
theorem awake25 (w : World) (hT : Fsh w) : Calls Tryd.prog 5 #[] w fun e w' => e = .returned (.bool true) ∧ Below w.heap.size w w' := by
  have b0 : Below w.heap.size w (w.alloc (.cells #[.int .u8 7, .int .u8 8] 5)) := (Below.refl _ _).alloc (Nat.le_refl _) _
  have r0 : Rw (w.alloc (.cells #[.int .u8 7, .int .u8 8] 5)) w.heap.size 2 (fun i => [7, 8].getD i 0) := lit_rw [7, 8] w (by decide) (by decide)
  have c1 : Calls Tryd.prog 7 #[.agg #[.int .i64 0, .int .i64 2, .int .i64 1, .int .i64 0, .int .i64 3, .int .i64 2, .int .i64 1, .int .u64 9], .slice (some ⟨w.heap.size, 0, none⟩) 2 2] (w.alloc (.cells #[.int .u8 7, .int .u8 8] 5)) fun e w' => ∃ g, e = .returned (.tuple #[.slice (some ⟨g, 0, none⟩) 58 58, .int .i64 0]) ∧ Below w.heap.size w w' := by
    have c := pack25_yes 0 2 1 0 3 2 1 9 _ _ _ gh_awake25 (by decide) r0.rb0 (hT.below b0)
    rw [show 48 + 2 + 4 * nb25 2 1 = 58 by decide +kernel] at c
    refine c.mono ?_
    rintro e w' ⟨g, rfl, hb, -, -⟩
    exact ⟨g, rfl, b0.trans (hb.mono b0.size)⟩
  have c2 : Hid (∀ W, Below w.heap.size w W → Calls Tryd.prog 8 #[.slice (some ⟨W.heap.size, 0, none⟩) 9 9] (W.alloc (.cells #[.int .u8 49, .int .u8 50, .int .u8 51, .int .u8 52, .int .u8 53, .int .u8 54, .int .u8 55, .int .u8 56, .int .u8 57] 5 (9, 10))) fun e w' => e = .returned (.int .u32 3421780262) ∧ w' = (W.alloc (.cells #[.int .u8 49, .int .u8 50, .int .u8 51, .int .u8 52, .int .u8 53, .int .u8 54, .int .u8 55, .int .u8 56, .int .u8 57] 5 (9, 10)))) := fun W hb => by
    have r1 : Rb (W.alloc (.cells #[.int .u8 49, .int .u8 50, .int .u8 51, .int .u8 52, .int .u8 53, .int .u8 54, .int .u8 55, .int .u8 56, .int .u8 57] 5 (9, 10))) (.slice (some ⟨W.heap.size, 0, none⟩) 9 9) 9 (fun i => [49, 50, 51, 52, 53, 54, 55, 56, 57].getD i 0) := lit_rb25 [49, 50, 51, 52, 53, 54, 55, 56, 57] W (9, 10) (by decide) (by decide)
    have c := sum25 _ 9 _ _ r1 ((hT.below hb).below ((Below.refl _ _).alloc (Nat.le_refl _) _))
    rw [nine_sum25] at c
    exact c
  have HB : Hid (∀ W, Below w.heap.size w W → Below w.heap.size w (W.alloc (.cells #[.int .u8 49, .int .u8 50, .int .u8 51, .int .u8 52, .int .u8 53, .int .u8 54, .int .u8 55, .int .u8 56, .int .u8 57] 5 (9, 10)))) := fun W hb => hb.trans ((Below.refl _ _).alloc hb.size _)
  have kc : ∀ (W : World) (C : Array Value) (n c : Nat), (convert 27 27 (.slice (some ⟨W.heap.size, 0, none⟩) n c)).run Tryd.prog (W.alloc (.cells C 5)) = .ok (.slice (some ⟨W.heap.size, 0, none⟩) n c) (W.alloc (.cells C 5 (C.size, C.size + 1))) := fun W C n c => Lib.run_convert_bytes_const (P := Tryd.prog) W 27 5 C n c Tryd.underlying27 Tryd.underlying5
  clear r0 hT b0
  go_enter Tryd.func5, Tryd.ntmps5
  go_wp2_with (first
    | (go_at_call 7; (with_reducible refine c1.mono ?_); rintro e w2 ⟨g, rfl, hb⟩; clear c1; have d2 := c2.out w2 hb; have hb2 := HB.out w2 hb; clear c2 HB)
    | (go_at_call 8; (with_reducible refine d2.mono ?_); rintro e w3 ⟨rfl, hw⟩; subst hw; clear d2))
  go_ret
  exact ⟨rfl, hb2⟩
end Go.Proofs.YtehbiccpbopkfaaDoor
