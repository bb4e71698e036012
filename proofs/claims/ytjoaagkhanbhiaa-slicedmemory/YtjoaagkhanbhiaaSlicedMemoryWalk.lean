import Derived.Test.YtjoaagkhanbhiaaSng
import Derived.Test.YtjoaagkhanbhiaaEbo
namespace Go.Proofs.Ytjoaagkhanbhiaa
open Go.RowKit Gf2
set_option linter.unusedVariables false

set_option maxHeartbeats 4000000 in
set_option maxRecDepth 100000 in
theorem smem_walk (c : Nat) (S : Nat → Nat) (w : World) (hc : c < 256) (hS : ∀ i, i < 64 → S i < 256) :
    Calls Try.prog 3 #[.int .u8 (c : Int), .agg (a64 S)] w fun e w' => e = .returned (.bool true) ∧ Below w.heap.size w w' := by
  obtain ⟨Ar, hA⟩ : ∃ Ar, Ar = a64 S := ⟨_, rfl⟩
  rw [← hA]
  have iA : (Try.prog.info? 22).map (·.size) = some Ar.size := by rw [hA, a64_size]; kernel_rfl
  have L0 : Al w (w.alloc (.cells Ar 22)) [.bx w.heap.size S] := (Al.nil w).add (x := .bx w.heap.size S) ((Below.refl _ _).alloc (Nat.le_refl _) _) (Nat.le_refl _) ⟨by rw [hA]; exact heap_alloc_new w _, hS⟩
  obtain ⟨w2, g, C, F, hrun, hC, hg, hgl, hR, hF, hb2⟩ := copy_app (w.alloc (.cells Ar 22)) (L0.box (by first | exact almem0 | exact almem1 | exact almem2 | exact almem3 | exact almem4 | exact almem5 | exact almem6 | exact almem7 | exact almem8 | exact almem9)) (by decide)
  have hz : (w.alloc (.cells Ar 22)).heap.size = w.heap.size + 1 := by simp
  rw [hz] at hrun
  have L1 : Al w w2 [.b8 g C 64 S, .bx w.heap.size S] := L0.add (x := .b8 g C 64 S) hb2 hg ⟨hC, F, hR, hF⟩
  have HL : Hid _ := L1
  have HA : Hid (Ar = a64 S ∧ c < 256 ∧ (∀ i, i < 64 → S i < 256)) := ⟨hA, hc, hS⟩
  have f1 : Unit := ()
  have f2 : Unit := ()
  clear hA hc hS L0 L1 hC hg hgl hR hF hb2 hz
  go_enter Try.func3, Try.ntmps3
  go_wp2_with (first
    | (at_builtin; refine Lib.wpList_append_run _ rfl _ _ _ _ rfl _ _ rfl rfl _ _ hrun ?_; clear hrun)
    | (go_at_call 4; first
      | (clear f1; (with_reducible refine (al_planes HL.out (by first | exact almem0 | exact almem1 | exact almem2 | exact almem3 | exact almem4 | exact almem5 | exact almem6 | exact almem7 | exact almem8 | exact almem9)).mono ?_); rintro e W' ⟨a1, rfl, hl⟩; replace HL : Hid _ := hl; clear hl)
      | ((with_reducible refine (al_planes HL.out (by first | exact almem0 | exact almem1 | exact almem2 | exact almem3 | exact almem4 | exact almem5 | exact almem6 | exact almem7 | exact almem8 | exact almem9)).mono ?_); rintro e W' ⟨a2, rfl, hl⟩; replace HL : Hid _ := hl; clear hl))
    | (go_at_call 5; (with_reducible refine (al_bplanes HL.out (by first | exact almem0 | exact almem1 | exact almem2 | exact almem3 | exact almem4 | exact almem5 | exact almem6 | exact almem7 | exact almem8 | exact almem9)).mono ?_); rintro e W' ⟨aw, rfl, hl⟩; replace HL : Hid _ := hl; clear hl)
    | (go_at_call 7; first
      | (clear f2; (with_reducible refine (al_block (T := S) HL.out (by first | exact almem0 | exact almem1 | exact almem2 | exact almem3 | exact almem4 | exact almem5 | exact almem6 | exact almem7 | exact almem8 | exact almem9) HA.out.2.2).mono ?_); rintro e W' ⟨d1, rfl, hl⟩; replace HL : Hid _ := hl; clear hl)
      | ((with_reducible refine (al_block (T := S) HL.out (by first | exact almem0 | exact almem1 | exact almem2 | exact almem3 | exact almem4 | exact almem5 | exact almem6 | exact almem7 | exact almem8 | exact almem9) HA.out.2.2).mono ?_); rintro e W' ⟨d2, rfl, hl⟩; replace HL : Hid _ := hl; clear hl))
    | (go_at_call 6; (with_reducible refine (al_samew HL.out (by first | exact almem0 | exact almem1 | exact almem2 | exact almem3 | exact almem4 | exact almem5 | exact almem6 | exact almem7 | exact almem8 | exact almem9) (by first | exact almem0 | exact almem1 | exact almem2 | exact almem3 | exact almem4 | exact almem5 | exact almem6 | exact almem7 | exact almem8 | exact almem9)).mono ?_); rintro e W' ⟨rfl, hl⟩; replace HL : Hid _ := hl; clear hl)
    | (go_at_call 8; (with_reducible refine (al_sameb HL.out (by first | exact almem0 | exact almem1 | exact almem2 | exact almem3 | exact almem4 | exact almem5 | exact almem6 | exact almem7 | exact almem8 | exact almem9) (by first | exact almem0 | exact almem1 | exact almem2 | exact almem3 | exact almem4 | exact almem5 | exact almem6 | exact almem7 | exact almem8 | exact almem9)).mono ?_); rintro e W' ⟨rfl, hl⟩; replace HL : Hid _ := hl; clear hl))
  go_loopw [16] (fun iv wr => ∃ (i : Nat) (T : Nat → Nat), i ≤ 64 ∧ iv = .int .i64 i ∧ Al w wr [.b8 d2 bC 64 S, .b8 d1 bC 64 S, .b64 aw 8 8 (fun i => pln S i 64), .b64 a2 pC 8 (fun i => pln S i 64), .b64 a1 pC 8 (fun i => pln S i 64), .b8 g C 64 T, .bx w.heap.size S]) (fun iv _ => 64 - (intOf iv).toNat)
  case atStart => exact ⟨0, S, Nat.zero_le _, rfl, HL.out⟩
  case round =>
    obtain ⟨i, T, hi, rfl, hQ⟩ := hrel
    clear HL
    by_cases hlt : i < 64
    · have i1 : ((i : Nat) : Int) < 64 := by omega
      obtain ⟨q1, q2⟩ := hQ.cell8 (g := g) (by first | exact almem0 | exact almem1 | exact almem2 | exact almem3 | exact almem4 | exact almem5 | exact almem6 | exact almem7 | exact almem8 | exact almem9) hlt
      have W1 := wrap_succ8 (j := i) (by unfold big; omega)
      have HQ : Hid _ := hQ
      clear hQ
      go_wp2
      go_roundw
      case rel =>
        obtain ⟨T', hT'⟩ := HQ.out.set8 (k := 5) rfl i (u8w _).1 (u8w _).2
        exact ⟨i + 1, T', hlt, by first | rfl | (rw [W1]; rfl), hT'⟩
      case measure => first | exact meas_lt8 hlt | (rw [W1]; exact meas_lt8 hlt)
    · have e64 : i = 64 := by omega
      subst e64
      have HT : Hid (∀ i, i < 64 → T i < 256) := hQ.lt8 (g := g) (by first | exact almem0 | exact almem1 | exact almem2 | exact almem3 | exact almem4 | exact almem5 | exact almem6 | exact almem7 | exact almem8 | exact almem9)
      have HL : Hid _ := hQ
      clear hQ
      go_wp2_with (first
        | (go_at_call 4; (with_reducible refine (al_planes HL.out (by first | exact almem0 | exact almem1 | exact almem2 | exact almem3 | exact almem4 | exact almem5 | exact almem6 | exact almem7 | exact almem8 | exact almem9)).mono ?_); rintro e W' ⟨a3, rfl, hl⟩; replace HL : Hid _ := hl; clear hl)
        | (go_at_call 5; (with_reducible refine (al_rplanes HL.out (by first | exact almem0 | exact almem1 | exact almem2 | exact almem3 | exact almem4 | exact almem5 | exact almem6 | exact almem7 | exact almem8 | exact almem9)).mono ?_); rintro e W' ⟨at', rfl, hl⟩; replace HL : Hid _ := hl; clear hl)
        | (go_at_call 6; (with_reducible refine (al_samew HL.out (by first | exact almem0 | exact almem1 | exact almem2 | exact almem3 | exact almem4 | exact almem5 | exact almem6 | exact almem7 | exact almem8 | exact almem9) (by first | exact almem0 | exact almem1 | exact almem2 | exact almem3 | exact almem4 | exact almem5 | exact almem6 | exact almem7 | exact almem8 | exact almem9)).mono ?_); rintro e W' ⟨rfl, hl⟩; replace HL : Hid _ := hl; clear hl)
        | (go_at_call 8; (with_reducible refine (al_samex HL.out (by first | exact almem0 | exact almem1 | exact almem2 | exact almem3 | exact almem4 | exact almem5 | exact almem6 | exact almem7 | exact almem8 | exact almem9) (by first | exact almem0 | exact almem1 | exact almem2 | exact almem3 | exact almem4 | exact almem5 | exact almem6 | exact almem7 | exact almem8 | exact almem9)).mono ?_); rintro e W' ⟨rfl, hl⟩; replace HL : Hid _ := hl; clear hl))
      go_loopw [21] (fun iv wr => ∃ i : Nat, i ≤ 8 ∧ iv = .int .i64 i ∧ Al w wr [.b64 at' 8 8 (fun i => pln T i 64), .b64 a3 pC 8 (fun i => pln T i 64), .b8 d2 bC 64 S, .b8 d1 bC 64 S, .b64 aw 8 8 (fun i => pln S i 64), .b64 a2 pC 8 (fun i => pln S i 64), .b64 a1 pC 8 (fun x => if x < i then pln T x 64 else pln S x 64), .b8 g C 64 T, .bx w.heap.size S]) (fun iv _ => 8 - (intOf iv).toNat)
      case atStart => exact ⟨0, Nat.zero_le _, rfl, HL.out⟩
      case round =>
        obtain ⟨i, hi, rfl, hQ⟩ := hrel
        clear HL
        by_cases hlt : i < 8
        · have i1 : ((i : Nat) : Int) < 8 := by omega
          obtain ⟨q1, -⟩ := hQ.cell64 (g := at') (by first | exact almem0 | exact almem1 | exact almem2 | exact almem3 | exact almem4 | exact almem5 | exact almem6 | exact almem7 | exact almem8 | exact almem9) hlt
          obtain ⟨q3, q4⟩ := hQ.cell64 (g := a1) (by first | exact almem0 | exact almem1 | exact almem2 | exact almem3 | exact almem4 | exact almem5 | exact almem6 | exact almem7 | exact almem8 | exact almem9) hlt
          have W1 := wrap_succ8 (j := i) (by unfold big; omega)
          have HQ : Hid _ := hQ
          clear hQ
          go_wp2
          go_roundw
          case rel =>
            have hT' := HQ.out.set64 (k := 6) rfl i (pln_lt T i 64)
            have e : (fun x => if x = i then pln T i 64 else if x < i then pln T x 64 else pln S x 64) = fun x => if x < i + 1 then pln T x 64 else pln S x 64 := by
              funext x
              by_cases e : x = i
              · subst e; rw [if_pos rfl, if_pos (by omega)]
              · rw [if_neg e]
                by_cases e2 : x < i
                · rw [if_pos e2, if_pos (by omega)]
                · rw [if_neg e2, if_neg (by omega)]
            rw [e] at hT'
            exact ⟨i + 1, hlt, by first | rfl | (rw [W1]; rfl), hT'⟩
          case measure => first | exact meas_lt8 hlt | (rw [W1]; exact meas_lt8 hlt)
        · have e8 : i = 8 := by omega
          subst e8
          have hQ2 := hQ.like (k := 6) rfl (T' := fun x => pln T x 64) (fun x hx => if_pos hx)
          have HL : Hid (Al w wr [.b64 at' 8 8 (fun i => pln T i 64), .b64 a3 pC 8 (fun i => pln T i 64), .b8 d2 bC 64 S, .b8 d1 bC 64 S, .b64 aw 8 8 (fun i => pln S i 64), .b64 a2 pC 8 (fun i => pln S i 64), .b64 a1 pC 8 (fun x => pln T x 64), .b8 g C 64 T, .bx w.heap.size S]) := hQ2
          have f1 : Unit := ()
          have f2 : Unit := ()
          have cA : ∀ W, Calls Try.prog 11 #[.int .u8 (c : Int), .agg Ar] W fun e W' => e = .returned (.bool true) ∧ Below W.heap.size W W' := fun W => by rw [HA.out.1]; exact anew7_any c S W HA.out.2.1 HA.out.2.2
          clear hQ hQ2
          go_wp2_with (first
            | (refine wpList_load_row rfl 22 _ rfl w.heap.size rfl 22 Ar (0, 0) _ (by rw [HA.out.1]; exact (HL.out.ok 12 (.bx w.heap.size S) rfl).2.1) Try.underlying22 rfl iA ?_)
            | (go_at_call 11; (with_reducible refine (cA _).mono ?_); rintro e W' ⟨rfl, hb⟩; have cB := mem_ends (HL.out.below hb); clear hb cA)
            | (go_at_call 12; (with_reducible refine cB.mono ?_); rintro e V ⟨rfl, cV⟩; clear cB HL)
            | (go_at_call 13; (with_reducible refine cV.mono ?_); rintro e V' ⟨rfl, hV⟩; clear cV)
            | (go_at_call 7; (with_reducible refine (al_block (T := T) HL.out (by first | exact almem0 | exact almem1 | exact almem2 | exact almem3 | exact almem4 | exact almem5 | exact almem6 | exact almem7 | exact almem8 | exact almem9) HT.out).mono ?_); rintro e W' ⟨d3, rfl, hl⟩; replace HL : Hid _ := hl; clear hl)
            | (go_at_call 8; first
              | ((with_reducible refine (al_sameb HL.out (by first | exact almem0 | exact almem1 | exact almem2 | exact almem3 | exact almem4 | exact almem5 | exact almem6 | exact almem7 | exact almem8 | exact almem9) (by first | exact almem0 | exact almem1 | exact almem2 | exact almem3 | exact almem4 | exact almem5 | exact almem6 | exact almem7 | exact almem8 | exact almem9)).mono ?_); rintro e W' ⟨rfl, hl⟩; replace HL : Hid _ := hl; clear hl)
              | ((with_reducible refine (al_samex HL.out (by first | exact almem0 | exact almem1 | exact almem2 | exact almem3 | exact almem4 | exact almem5 | exact almem6 | exact almem7 | exact almem8 | exact almem9) (by first | exact almem0 | exact almem1 | exact almem2 | exact almem3 | exact almem4 | exact almem5 | exact almem6 | exact almem7 | exact almem8 | exact almem9)).mono ?_); rintro e W' ⟨rfl, hl⟩; replace HL : Hid _ := hl; clear hl))
            | (go_at_call 9; first
              | (clear f1; (with_reducible refine (al_cols HL.out c HA.out.2.1).mono ?_); rintro e W' ⟨e1, rfl, hl⟩; replace HL : Hid _ := hl; clear hl)
              | ((with_reducible refine (al_cols HL.out c HA.out.2.1).mono ?_); rintro e W' ⟨e2, rfl, hl⟩; replace HL : Hid _ := hl; clear hl))
            | (go_at_call 10; (with_reducible refine (al_rcols HL.out c HA.out.2.1).mono ?_); rintro e W' ⟨e3, rfl, hl⟩; replace HL : Hid _ := hl; clear hl))
          go_ret
          exact ⟨rfl, hV⟩
theorem smem_any {w : World} (c : Nat) (hc : c < 256) (S : Nat → Nat) (hS : ∀ i, i < 64 → S i < 256) :
    Calls Try.prog 3 #[.int .u8 (c : Int), .agg (a64 S)] w fun e w' => e = .returned (.bool true) ∧ Below w.heap.size w w' := smem_walk c S w hc hS
end Go.Proofs.Ytjoaagkhanbhiaa
