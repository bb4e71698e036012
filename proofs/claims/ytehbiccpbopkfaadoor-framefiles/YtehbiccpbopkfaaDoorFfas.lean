import Derived.Test.YtehbiccpbopkfaaDoorFfaq
import Derived.Test.YtehbiccpbopkfaaDoorFfar
namespace Go.Proofs.YtehbiccpbopkfaaDoor
open Go.RowKit Gf2
set_option linter.unusedVariables false

-- layer 25: the document's ReadHead: its refusals
theorem info_rhead25 : (Tryd.prog.info? 26).map (·.size) = some 8 := by kernel_rfl
set_option maxHeartbeats 4000000 in
set_option maxRecDepth 100000 in
theorem rreadHead25_cut (v : Value) (n : Nat) (F : Nat → Nat) (w : World) (h : Rb w v n F) (hn : n < 48) :
    Calls Tryd.prog 32 #[v] w fun e w' => e = .returned (.tuple #[hd25 0 0 0 0 0 0 0 0, .int .i64 252]) ∧ Below w.heap.size w w' := by
  obtain ⟨-, -, a, cap, rfl, hc, hc2, h4⟩ := id h
  have D1 : decide (((n : Nat) : Int) < 48) = true := decide_eq_true (by omega)
  clear h hn h4
  go_enter Tryd.func32, Tryd.ntmps32
  go_wp2
  refine bodyPost_ret (results_crt25 rfl _ _ w.heap.size _ _ _ _ rfl (heap_alloc_new _ _) Tryd.underlying26 rfl info_rhead25) rfl ?_
  exact ⟨rfl, (Below.refl _ _).alloc (Nat.le_refl _) _⟩
set_option maxHeartbeats 8000000 in
set_option maxRecDepth 100000 in
theorem rreadHead25_magic (v : Value) (n : Nat) (F : Nat → Nat) (w : World) (h : Rb w v n F) (hn : 48 ≤ n) (hm : ¬ ∀ c, c < 5 → F c = mg25 c) :
    Calls Tryd.prog 32 #[v] w fun e w' => e = .returned (.tuple #[hd25 0 0 0 0 0 0 0 0, .int .i64 250]) ∧ Below w.heap.size w w' := by
  obtain ⟨-, hF, a, cap, rfl, hc, hc2, h4⟩ := id h
  obtain ⟨b, o, rfl, hbl, hcc⟩ := h4 (by omega)
  obtain ⟨W0, hW0⟩ : ∃ W0, w.alloc (.cells #[.int .i64 0, .int .i64 0, .int .i64 0, .int .i64 0, .int .i64 0, .int .i64 0, .int .i64 0, .int .u64 0] 26) = W0 := ⟨_, rfl⟩
  have b0 : Below w.heap.size w W0 := by rw [← hW0]; exact (Below.refl _ _).alloc (Nat.le_refl _) _
  have k0 : W0.heap[w.heap.size]? = some (.cells #[.int .i64 0, .int .i64 0, .int .i64 0, .int .i64 0, .int .i64 0, .int .i64 0, .int .i64 0, .int .u64 0] 26 (0, 0)) := by rw [← hW0]; exact heap_alloc_new _ _
  have D1 : decide (((n : Nat) : Int) < 48) = false := decide_eq_false (by omega)
  have q0 : W0.cell? ⟨b, o, none⟩ = some (.int .u8 ((F 0 : Nat) : Int)) := (b0.cell (p := ⟨b, o, none⟩) hbl).trans (hcc 0 (by omega))
  have q1 : W0.cell? ⟨b, o + 1, none⟩ = some (.int .u8 ((F 1 : Nat) : Int)) := (b0.cell (p := ⟨b, o + 1, none⟩) hbl).trans (hcc 1 (by omega))
  have q2 : W0.cell? ⟨b, o + 2, none⟩ = some (.int .u8 ((F 2 : Nat) : Int)) := (b0.cell (p := ⟨b, o + 2, none⟩) hbl).trans (hcc 2 (by omega))
  have q3 : W0.cell? ⟨b, o + 3, none⟩ = some (.int .u8 ((F 3 : Nat) : Int)) := (b0.cell (p := ⟨b, o + 3, none⟩) hbl).trans (hcc 3 (by omega))
  have q4 : W0.cell? ⟨b, o + 4, none⟩ = some (.int .u8 ((F 4 : Nat) : Int)) := (b0.cell (p := ⟨b, o + 4, none⟩) hbl).trans (hcc 4 (by omega))
  have n5 : (5 : Int) ≤ ((cap : Nat) : Int) := by omega
  have n8 : (8 : Int) ≤ ((cap : Nat) : Int) := by omega
  have n10 : (10 : Int) ≤ ((cap : Nat) : Int) := by omega
  have n12 : (12 : Int) ≤ ((cap : Nat) : Int) := by omega
  have n16 : (16 : Int) ≤ ((cap : Nat) : Int) := by omega
  have n24 : (24 : Int) ≤ ((cap : Nat) : Int) := by omega
  have n32 : (32 : Int) ≤ ((cap : Nat) : Int) := by omega
  have n40 : (40 : Int) ≤ ((cap : Nat) : Int) := by omega
  have n44 : (44 : Int) ≤ ((cap : Nat) : Int) := by omega
  have n48 : (48 : Int) ≤ ((cap : Nat) : Int) := by omega
  have m0 : (0 : Int) < ((n : Nat) : Int) := by omega
  have m1 : (1 : Int) < ((n : Nat) : Int) := by omega
  have m2 : (2 : Int) < ((n : Nat) : Int) := by omega
  have m3 : (3 : Int) < ((n : Nat) : Int) := by omega
  have m4 : (4 : Int) < ((n : Nat) : Int) := by omega
  have m5 : (5 : Int) < ((n : Nat) : Int) := by omega
  have kz := k0
  have bz := b0
  clear h hn h4 hc k0 b0 hbl hcc
  by_cases g0 : F 0 = mg25 0
  · replace q0 : W0.cell? ⟨b, o, none⟩ = some (.int .u8 67) := by rw [g0] at q0; exact q0
    by_cases g1 : F 1 = mg25 1
    · replace q1 : W0.cell? ⟨b, o + 1, none⟩ = some (.int .u8 85) := by rw [g1] at q1; exact q1
      by_cases g2 : F 2 = mg25 2
      · replace q2 : W0.cell? ⟨b, o + 2, none⟩ = some (.int .u8 76) := by rw [g2] at q2; exact q2
        by_cases g3 : F 3 = mg25 3
        · replace q3 : W0.cell? ⟨b, o + 3, none⟩ = some (.int .u8 76) := by rw [g3] at q3; exact q3
          by_cases g4 : F 4 = mg25 4
          · replace q4 : W0.cell? ⟨b, o + 4, none⟩ = some (.int .u8 1) := by rw [g4] at q4; exact q4
            exact absurd (fun c hc9 => by
              have : c = 0 ∨ c = 1 ∨ c = 2 ∨ c = 3 ∨ c = 4 := by omega
              rcases this with rfl | rfl | rfl | rfl | rfl
              · exact g0
              · exact g1
              · exact g2
              · exact g3
              · exact g4) hm
          · have E1 : (((F 4 : Nat) : Int) == 1) = false := beq_eq_false_iff_ne.2 (fun h9 => g4 (by show F 4 = 1; omega))
            have E2 : (((F 4 : Nat) : Int) != 1) = true := bne_iff_ne.2 (fun h9 => g4 (by show F 4 = 1; omega))
            generalize F 4 = x at q4 E1 E2
            clear hm hF g0 g1 g2 g3 g4
            obtain ⟨⟨z0, z1, z2, z3, z4, z5, z6, z7⟩, ⟨f0, f1, f2, f3, f4, f5, f6, f7⟩, ⟨e0, e1, e2, e3, e4, e5, e6, e7⟩⟩ := zero_facts25 kz
            go_enter Tryd.func32, Tryd.ntmps32
            go_wp2
            refine bodyPost_ret (results_crt25 rfl _ _ w.heap.size _ #[.int .i64 0, .int .i64 0, .int .i64 0, .int .i64 0, .int .i64 0, .int .i64 0, .int .i64 0, .int .u64 0] _ _ rfl kz Tryd.underlying26 rfl info_rhead25) rfl ?_
            exact ⟨rfl, bz⟩
        · have E1 : (((F 3 : Nat) : Int) == 76) = false := beq_eq_false_iff_ne.2 (fun h9 => g3 (by show F 3 = 76; omega))
          have E2 : (((F 3 : Nat) : Int) != 76) = true := bne_iff_ne.2 (fun h9 => g3 (by show F 3 = 76; omega))
          generalize F 3 = x at q3 E1 E2
          clear hm hF g0 g1 g2 g3
          obtain ⟨⟨z0, z1, z2, z3, z4, z5, z6, z7⟩, ⟨f0, f1, f2, f3, f4, f5, f6, f7⟩, ⟨e0, e1, e2, e3, e4, e5, e6, e7⟩⟩ := zero_facts25 kz
          go_enter Tryd.func32, Tryd.ntmps32
          go_wp2
          refine bodyPost_ret (results_crt25 rfl _ _ w.heap.size _ #[.int .i64 0, .int .i64 0, .int .i64 0, .int .i64 0, .int .i64 0, .int .i64 0, .int .i64 0, .int .u64 0] _ _ rfl kz Tryd.underlying26 rfl info_rhead25) rfl ?_
          exact ⟨rfl, bz⟩
      · have E1 : (((F 2 : Nat) : Int) == 76) = false := beq_eq_false_iff_ne.2 (fun h9 => g2 (by show F 2 = 76; omega))
        have E2 : (((F 2 : Nat) : Int) != 76) = true := bne_iff_ne.2 (fun h9 => g2 (by show F 2 = 76; omega))
        generalize F 2 = x at q2 E1 E2
        clear hm hF g0 g1 g2
        obtain ⟨⟨z0, z1, z2, z3, z4, z5, z6, z7⟩, ⟨f0, f1, f2, f3, f4, f5, f6, f7⟩, ⟨e0, e1, e2, e3, e4, e5, e6, e7⟩⟩ := zero_facts25 kz
        go_enter Tryd.func32, Tryd.ntmps32
        go_wp2
        refine bodyPost_ret (results_crt25 rfl _ _ w.heap.size _ #[.int .i64 0, .int .i64 0, .int .i64 0, .int .i64 0, .int .i64 0, .int .i64 0, .int .i64 0, .int .u64 0] _ _ rfl kz Tryd.underlying26 rfl info_rhead25) rfl ?_
        exact ⟨rfl, bz⟩
    · have E1 : (((F 1 : Nat) : Int) == 85) = false := beq_eq_false_iff_ne.2 (fun h9 => g1 (by show F 1 = 85; omega))
      have E2 : (((F 1 : Nat) : Int) != 85) = true := bne_iff_ne.2 (fun h9 => g1 (by show F 1 = 85; omega))
      generalize F 1 = x at q1 E1 E2
      clear hm hF g0 g1
      obtain ⟨⟨z0, z1, z2, z3, z4, z5, z6, z7⟩, ⟨f0, f1, f2, f3, f4, f5, f6, f7⟩, ⟨e0, e1, e2, e3, e4, e5, e6, e7⟩⟩ := zero_facts25 kz
      go_enter Tryd.func32, Tryd.ntmps32
      go_wp2
      refine bodyPost_ret (results_crt25 rfl _ _ w.heap.size _ #[.int .i64 0, .int .i64 0, .int .i64 0, .int .i64 0, .int .i64 0, .int .i64 0, .int .i64 0, .int .u64 0] _ _ rfl kz Tryd.underlying26 rfl info_rhead25) rfl ?_
      exact ⟨rfl, bz⟩
  · have E1 : (((F 0 : Nat) : Int) == 67) = false := beq_eq_false_iff_ne.2 (fun h9 => g0 (by show F 0 = 67; omega))
    have E2 : (((F 0 : Nat) : Int) != 67) = true := bne_iff_ne.2 (fun h9 => g0 (by show F 0 = 67; omega))
    generalize F 0 = x at q0 E1 E2
    clear hm hF g0
    obtain ⟨⟨z0, z1, z2, z3, z4, z5, z6, z7⟩, ⟨f0, f1, f2, f3, f4, f5, f6, f7⟩, ⟨e0, e1, e2, e3, e4, e5, e6, e7⟩⟩ := zero_facts25 kz
    go_enter Tryd.func32, Tryd.ntmps32
    go_wp2
    refine bodyPost_ret (results_crt25 rfl _ _ w.heap.size _ #[.int .i64 0, .int .i64 0, .int .i64 0, .int .i64 0, .int .i64 0, .int .i64 0, .int .i64 0, .int .u64 0] _ _ rfl kz Tryd.underlying26 rfl info_rhead25) rfl ?_
    exact ⟨rfl, bz⟩
set_option maxHeartbeats 8000000 in
set_option maxRecDepth 100000 in
theorem rreadHead25_sum (v : Value) (n : Nat) (F : Nat → Nat) (w : World) (h : Rb w v n F) (hn : 48 ≤ n) (hm : ∀ c, c < 5 → F c = mg25 c) (hs : hs25 F ≠ hsum25 F) :
    Calls Tryd.prog 32 #[v] w fun e w' => e = .returned (.tuple #[hd25 0 0 0 0 0 0 0 0, .int .i64 253]) ∧ Below w.heap.size w w' := by
  obtain ⟨-, hF, a, cap, rfl, hc, hc2, h4⟩ := id h
  obtain ⟨b, o, rfl, hbl, hcc⟩ := h4 (by omega)
  obtain ⟨W0, hW0⟩ : ∃ W0, w.alloc (.cells #[.int .i64 0, .int .i64 0, .int .i64 0, .int .i64 0, .int .i64 0, .int .i64 0, .int .i64 0, .int .u64 0] 26) = W0 := ⟨_, rfl⟩
  have b0 : Below w.heap.size w W0 := by rw [← hW0]; exact (Below.refl _ _).alloc (Nat.le_refl _) _
  have k0 : W0.heap[w.heap.size]? = some (.cells #[.int .i64 0, .int .i64 0, .int .i64 0, .int .i64 0, .int .i64 0, .int .i64 0, .int .i64 0, .int .u64 0] 26 (0, 0)) := by rw [← hW0]; exact heap_alloc_new _ _
  have D1 : decide (((n : Nat) : Int) < 48) = false := decide_eq_false (by omega)
  have q0 : W0.cell? ⟨b, o, none⟩ = some (.int .u8 ((F 0 : Nat) : Int)) := (b0.cell (p := ⟨b, o, none⟩) hbl).trans (hcc 0 (by omega))
  have q1 : W0.cell? ⟨b, o + 1, none⟩ = some (.int .u8 ((F 1 : Nat) : Int)) := (b0.cell (p := ⟨b, o + 1, none⟩) hbl).trans (hcc 1 (by omega))
  have q2 : W0.cell? ⟨b, o + 2, none⟩ = some (.int .u8 ((F 2 : Nat) : Int)) := (b0.cell (p := ⟨b, o + 2, none⟩) hbl).trans (hcc 2 (by omega))
  have q3 : W0.cell? ⟨b, o + 3, none⟩ = some (.int .u8 ((F 3 : Nat) : Int)) := (b0.cell (p := ⟨b, o + 3, none⟩) hbl).trans (hcc 3 (by omega))
  have q4 : W0.cell? ⟨b, o + 4, none⟩ = some (.int .u8 ((F 4 : Nat) : Int)) := (b0.cell (p := ⟨b, o + 4, none⟩) hbl).trans (hcc 4 (by omega))
  have n5 : (5 : Int) ≤ ((cap : Nat) : Int) := by omega
  have n8 : (8 : Int) ≤ ((cap : Nat) : Int) := by omega
  have n10 : (10 : Int) ≤ ((cap : Nat) : Int) := by omega
  have n12 : (12 : Int) ≤ ((cap : Nat) : Int) := by omega
  have n16 : (16 : Int) ≤ ((cap : Nat) : Int) := by omega
  have n24 : (24 : Int) ≤ ((cap : Nat) : Int) := by omega
  have n32 : (32 : Int) ≤ ((cap : Nat) : Int) := by omega
  have n40 : (40 : Int) ≤ ((cap : Nat) : Int) := by omega
  have n44 : (44 : Int) ≤ ((cap : Nat) : Int) := by omega
  have n48 : (48 : Int) ≤ ((cap : Nat) : Int) := by omega
  have m0 : (0 : Int) < ((n : Nat) : Int) := by omega
  have m1 : (1 : Int) < ((n : Nat) : Int) := by omega
  have m2 : (2 : Int) < ((n : Nat) : Int) := by omega
  have m3 : (3 : Int) < ((n : Nat) : Int) := by omega
  have m4 : (4 : Int) < ((n : Nat) : Int) := by omega
  have m5 : (5 : Int) < ((n : Nat) : Int) := by omega
  replace q0 : W0.cell? ⟨b, o, none⟩ = some (.int .u8 67) := by rw [hm 0 (by decide)] at q0; exact q0
  replace q1 : W0.cell? ⟨b, o + 1, none⟩ = some (.int .u8 85) := by rw [hm 1 (by decide)] at q1; exact q1
  replace q2 : W0.cell? ⟨b, o + 2, none⟩ = some (.int .u8 76) := by rw [hm 2 (by decide)] at q2; exact q2
  replace q3 : W0.cell? ⟨b, o + 3, none⟩ = some (.int .u8 76) := by rw [hm 3 (by decide)] at q3; exact q3
  replace q4 : W0.cell? ⟨b, o + 4, none⟩ = some (.int .u8 1) := by rw [hm 4 (by decide)] at q4; exact q4
  have r0 := h.below b0
  obtain ⟨x, hx⟩ : ∃ x, Hid (hs25 F = x) := ⟨_, rfl⟩
  obtain ⟨y, hy⟩ : ∃ y, Hid (hsum25 F = y) := ⟨_, rfl⟩
  have c1 : ∀ q, Calls Tryd.prog 42 #[.slice (some ⟨b, o + 44, none⟩) 4 (cap - 44)] (W0.drewN q) fun e w' => e = .returned (.int .u64 ((x : Nat) : Int)) ∧ w' = W0.drewN q := fun q => by
    have c := rnumber25 _ 4 _ (W0.drewN q) (rb_piece25 r0 (x := 44) (d := 4) (by omega) hc) (by decide)
    have e : le25 (fun c => F (44 + c)) 4 = x := hx.out
    rw [e] at c
    exact c
  have c2 : ∀ q, Calls Tryd.prog 9 #[.slice (some ⟨b, o, none⟩) 44 cap] (W0.drewN q) fun e w' => e = .returned (.int .u32 ((y : Nat) : Int)) ∧ w' = W0.drewN q := fun q => by
    have c := rsum25 _ 44 F (W0.drewN q) (rb_head25 r0 (m := 44) (by omega) (by omega))
    have e : nt (fol25 (nt 0) F 44) = y := hy.out
    rw [e] at c
    exact c
  have ly : y < 4294967296 := by rw [← hy.out]; exact nt_lt (fol_lt (nt_lt (by decide)) 44 (fun j hj => hF j (by omega)))
  have U1 : IntKind.u64.wrap ((y : Nat) : Int) = ((y : Nat) : Int) := w64_25 (by omega)
  have HZ : Hid (W0.heap[w.heap.size]? = some (.cells #[.int .i64 0, .int .i64 0, .int .i64 0, .int .i64 0, .int .i64 0, .int .i64 0, .int .i64 0, .int .u64 0] 26 (0, 0)) ∧ Below w.heap.size w W0) := ⟨k0, b0⟩
  rw [hx.out, hy.out] at hs
  have E1 : (((x : Nat) : Int) == ((y : Nat) : Int)) = false := beq_eq_false_iff_ne.2 (fun h9 => hs (by omega))
  have E2 : (x == y) = false := beq_eq_false_iff_ne.2 hs
  have E3 : (((x : Nat) : Int) != ((y : Nat) : Int)) = true := bne_iff_ne.2 (fun h9 => hs (by omega))
  have E4 : (x != y) = true := bne_iff_ne.2 hs
  clear h hn h4 hc k0 b0 r0 hx hy hm hbl hcc hs hF ly
  go_enter Tryd.func32, Tryd.ntmps32
  go_wp2
  go_quiet (first | (go_at_call 42; with_reducible exact Calls.quiet_of_same (c1 _)) | (go_at_call 9; with_reducible exact Calls.quiet_of_same (c2 _)))
  have kz : (W0.drewN nq).heap[w.heap.size]? = some (.cells #[.int .i64 0, .int .i64 0, .int .i64 0, .int .i64 0, .int .i64 0, .int .i64 0, .int .i64 0, .int .u64 0] 26 (0, 0)) := HZ.out.1
  have bz : Below w.heap.size w (W0.drewN nq) := below_drewN HZ.out.2 nq
  obtain ⟨X, hX⟩ : ∃ X, W0.drewN nq = X := ⟨_, rfl⟩
  rw [hX] at kz bz ⊢
  clear hX
  obtain ⟨⟨z0, z1, z2, z3, z4, z5, z6, z7⟩, ⟨f0, f1, f2, f3, f4, f5, f6, f7⟩, ⟨e0, e1, e2, e3, e4, e5, e6, e7⟩⟩ := zero_facts25 kz
  go_wp2
  refine bodyPost_ret (results_crt25 rfl _ _ w.heap.size _ #[.int .i64 0, .int .i64 0, .int .i64 0, .int .i64 0, .int .i64 0, .int .i64 0, .int .i64 0, .int .u64 0] _ _ rfl kz Tryd.underlying26 rfl info_rhead25) rfl ?_
  exact ⟨rfl, bz⟩
end Go.Proofs.YtehbiccpbopkfaaDoor
namespace Go.Proofs.YtehbiccpbopkfaaDoor
open Go.RowKit Gf2
set_option linter.unusedVariables false

-- layer 25: the document's ReadHead: numbers that no head has
set_option maxHeartbeats 8000000 in
set_option maxRecDepth 100000 in
theorem rreadHead25_zeros (v : Value) (n : Nat) (F : Nat → Nat) (w : World) (h : Rb w v n F) (hn : 48 ≤ n) (hm : ∀ c, c < 5 → F c = mg25 c) (hs : hs25 F = hsum25 F) (hz : rk25 F 40 4 ≠ 0 ∨ 4611686018427387904 < rk25 F 16 8 ∨ 4611686018427387904 < rk25 F 24 8) :
    Calls Tryd.prog 32 #[v] w fun e w' => e = .returned (.tuple #[hd25 0 0 0 0 0 0 0 0, .int .i64 251]) ∧ Below w.heap.size w w' := by
  obtain ⟨-, hF, a, cap, rfl, hc, hc2, h4⟩ := id h
  obtain ⟨b, o, rfl, hbl, hcc⟩ := h4 (by omega)
  obtain ⟨W0, hW0⟩ : ∃ W0, w.alloc (.cells #[.int .i64 0, .int .i64 0, .int .i64 0, .int .i64 0, .int .i64 0, .int .i64 0, .int .i64 0, .int .u64 0] 26) = W0 := ⟨_, rfl⟩
  have b0 : Below w.heap.size w W0 := by rw [← hW0]; exact (Below.refl _ _).alloc (Nat.le_refl _) _
  have k0 : W0.heap[w.heap.size]? = some (.cells #[.int .i64 0, .int .i64 0, .int .i64 0, .int .i64 0, .int .i64 0, .int .i64 0, .int .i64 0, .int .u64 0] 26 (0, 0)) := by rw [← hW0]; exact heap_alloc_new _ _
  have D1 : decide (((n : Nat) : Int) < 48) = false := decide_eq_false (by omega)
  have q0 : W0.cell? ⟨b, o, none⟩ = some (.int .u8 ((F 0 : Nat) : Int)) := (b0.cell (p := ⟨b, o, none⟩) hbl).trans (hcc 0 (by omega))
  have q1 : W0.cell? ⟨b, o + 1, none⟩ = some (.int .u8 ((F 1 : Nat) : Int)) := (b0.cell (p := ⟨b, o + 1, none⟩) hbl).trans (hcc 1 (by omega))
  have q2 : W0.cell? ⟨b, o + 2, none⟩ = some (.int .u8 ((F 2 : Nat) : Int)) := (b0.cell (p := ⟨b, o + 2, none⟩) hbl).trans (hcc 2 (by omega))
  have q3 : W0.cell? ⟨b, o + 3, none⟩ = some (.int .u8 ((F 3 : Nat) : Int)) := (b0.cell (p := ⟨b, o + 3, none⟩) hbl).trans (hcc 3 (by omega))
  have q4 : W0.cell? ⟨b, o + 4, none⟩ = some (.int .u8 ((F 4 : Nat) : Int)) := (b0.cell (p := ⟨b, o + 4, none⟩) hbl).trans (hcc 4 (by omega))
  have n5 : (5 : Int) ≤ ((cap : Nat) : Int) := by omega
  have n8 : (8 : Int) ≤ ((cap : Nat) : Int) := by omega
  have n10 : (10 : Int) ≤ ((cap : Nat) : Int) := by omega
  have n12 : (12 : Int) ≤ ((cap : Nat) : Int) := by omega
  have n16 : (16 : Int) ≤ ((cap : Nat) : Int) := by omega
  have n24 : (24 : Int) ≤ ((cap : Nat) : Int) := by omega
  have n32 : (32 : Int) ≤ ((cap : Nat) : Int) := by omega
  have n40 : (40 : Int) ≤ ((cap : Nat) : Int) := by omega
  have n44 : (44 : Int) ≤ ((cap : Nat) : Int) := by omega
  have n48 : (48 : Int) ≤ ((cap : Nat) : Int) := by omega
  have m0 : (0 : Int) < ((n : Nat) : Int) := by omega
  have m1 : (1 : Int) < ((n : Nat) : Int) := by omega
  have m2 : (2 : Int) < ((n : Nat) : Int) := by omega
  have m3 : (3 : Int) < ((n : Nat) : Int) := by omega
  have m4 : (4 : Int) < ((n : Nat) : Int) := by omega
  have m5 : (5 : Int) < ((n : Nat) : Int) := by omega
  replace q0 : W0.cell? ⟨b, o, none⟩ = some (.int .u8 67) := by rw [hm 0 (by decide)] at q0; exact q0
  replace q1 : W0.cell? ⟨b, o + 1, none⟩ = some (.int .u8 85) := by rw [hm 1 (by decide)] at q1; exact q1
  replace q2 : W0.cell? ⟨b, o + 2, none⟩ = some (.int .u8 76) := by rw [hm 2 (by decide)] at q2; exact q2
  replace q3 : W0.cell? ⟨b, o + 3, none⟩ = some (.int .u8 76) := by rw [hm 3 (by decide)] at q3; exact q3
  replace q4 : W0.cell? ⟨b, o + 4, none⟩ = some (.int .u8 1) := by rw [hm 4 (by decide)] at q4; exact q4
  have r0 := h.below b0
  obtain ⟨x, hx⟩ : ∃ x, Hid (hs25 F = x) := ⟨_, rfl⟩
  obtain ⟨y, hy⟩ : ∃ y, Hid (hsum25 F = y) := ⟨_, rfl⟩
  have c1 : ∀ q, Calls Tryd.prog 42 #[.slice (some ⟨b, o + 44, none⟩) 4 (cap - 44)] (W0.drewN q) fun e w' => e = .returned (.int .u64 ((x : Nat) : Int)) ∧ w' = W0.drewN q := fun q => by
    have c := rnumber25 _ 4 _ (W0.drewN q) (rb_piece25 r0 (x := 44) (d := 4) (by omega) hc) (by decide)
    have e : le25 (fun c => F (44 + c)) 4 = x := hx.out
    rw [e] at c
    exact c
  have c2 : ∀ q, Calls Tryd.prog 9 #[.slice (some ⟨b, o, none⟩) 44 cap] (W0.drewN q) fun e w' => e = .returned (.int .u32 ((y : Nat) : Int)) ∧ w' = W0.drewN q := fun q => by
    have c := rsum25 _ 44 F (W0.drewN q) (rb_head25 r0 (m := 44) (by omega) (by omega))
    have e : nt (fol25 (nt 0) F 44) = y := hy.out
    rw [e] at c
    exact c
  have ly : y < 4294967296 := by rw [← hy.out]; exact nt_lt (fol_lt (nt_lt (by decide)) 44 (fun j hj => hF j (by omega)))
  have U1 : IntKind.u64.wrap ((y : Nat) : Int) = ((y : Nat) : Int) := w64_25 (by omega)
  have HZ : Hid (W0.heap[w.heap.size]? = some (.cells #[.int .i64 0, .int .i64 0, .int .i64 0, .int .i64 0, .int .i64 0, .int .i64 0, .int .i64 0, .int .u64 0] 26 (0, 0)) ∧ Below w.heap.size w W0) := ⟨k0, b0⟩
  have exy : y = x := by rw [← hx.out, ← hy.out, hs]
  subst exy
  have c_s : Hid (∀ q, Calls Tryd.prog 42 #[.slice (some ⟨b, o + 16, none⟩) 8 (cap - 16)] (W0.drewN q) fun e w' => e = .returned (.int .u64 ((rk25 F 16 8 : Nat) : Int)) ∧ w' = W0.drewN q) := fun q => rnumber25 _ 8 _ (W0.drewN q) (rb_piece25 r0 (x := 16) (d := 8) (by omega) hc) (by decide)
  have c_l : Hid (∀ q, Calls Tryd.prog 42 #[.slice (some ⟨b, o + 24, none⟩) 8 (cap - 24)] (W0.drewN q) fun e w' => e = .returned (.int .u64 ((rk25 F 24 8 : Nat) : Int)) ∧ w' = W0.drewN q) := fun q => rnumber25 _ 8 _ (W0.drewN q) (rb_piece25 r0 (x := 24) (d := 8) (by omega) hc) (by decide)
  have c_z : Hid (∀ q, Calls Tryd.prog 42 #[.slice (some ⟨b, o + 40, none⟩) 4 (cap - 40)] (W0.drewN q) fun e w' => e = .returned (.int .u64 ((rk25 F 40 4 : Nat) : Int)) ∧ w' = W0.drewN q) := fun q => rnumber25 _ 4 _ (W0.drewN q) (rb_piece25 r0 (x := 40) (d := 4) (by omega) hc) (by decide)
  have E1 : (((y : Nat) : Int) == ((y : Nat) : Int)) = true := by simp
  have E2 : (y == y) = true := by simp
  have E3 : (((y : Nat) : Int) != ((y : Nat) : Int)) = false := by simp
  generalize rk25 F 16 8 = s at c_s hz
  generalize rk25 F 24 8 = l at c_l hz
  generalize rk25 F 40 4 = z at c_z hz
  clear h hn h4 hc k0 b0 r0 hx hy hm hbl hcc hs hF ly
  by_cases hz0 : z = 0
  · subst hz0
    by_cases hs0 : 4611686018427387904 < s
    · have D2 : decide ((4611686018427387904 : Int) < ((s : Nat) : Int)) = true := decide_eq_true (by omega)
      clear hz hs0
      go_enter Tryd.func32, Tryd.ntmps32
      go_wp2
      go_quiet (first | (go_at_call 42; with_reducible exact Calls.quiet_of_same (c1 _)) | (go_at_call 9; with_reducible exact Calls.quiet_of_same (c2 _)))
      have kz : (W0.drewN nq).heap[w.heap.size]? = some (.cells #[.int .i64 0, .int .i64 0, .int .i64 0, .int .i64 0, .int .i64 0, .int .i64 0, .int .i64 0, .int .u64 0] 26 (0, 0)) := HZ.out.1
      have bz : Below w.heap.size w (W0.drewN nq) := below_drewN HZ.out.2 nq
      have d_s := c_s.out nq
      have d_l := c_l.out nq
      have d_z := c_z.out nq
      clear c_s c_l c_z c1 c2
      obtain ⟨X, hX⟩ : ∃ X, W0.drewN nq = X := ⟨_, rfl⟩
      rw [hX] at kz bz d_s d_l d_z ⊢
      clear hX
      obtain ⟨⟨z0, z1, z2, z3, z4, z5, z6, z7⟩, ⟨f0, f1, f2, f3, f4, f5, f6, f7⟩, ⟨e0, e1, e2, e3, e4, e5, e6, e7⟩⟩ := zero_facts25 kz
      go_wp2_with (first | (go_at_call 42; (with_reducible refine d_s.mono ?_); rintro e w9 ⟨rfl, hw⟩; have hw := hw.symm; subst hw; clear d_s) | (go_at_call 42; (with_reducible refine d_l.mono ?_); rintro e w9 ⟨rfl, hw⟩; have hw := hw.symm; subst hw; clear d_l) | (go_at_call 42; (with_reducible refine d_z.mono ?_); rintro e w9 ⟨rfl, hw⟩; have hw := hw.symm; subst hw; clear d_z))
      refine bodyPost_ret (results_crt25 rfl _ _ w.heap.size _ #[.int .i64 0, .int .i64 0, .int .i64 0, .int .i64 0, .int .i64 0, .int .i64 0, .int .i64 0, .int .u64 0] _ _ rfl kz Tryd.underlying26 rfl info_rhead25) rfl ?_
      exact ⟨rfl, bz⟩
    · have hl0 : 4611686018427387904 < l := by omega
      have D2 : decide ((4611686018427387904 : Int) < ((s : Nat) : Int)) = false := decide_eq_false (by omega)
      have D3 : decide ((4611686018427387904 : Int) < ((l : Nat) : Int)) = true := decide_eq_true (by omega)
      clear hz hs0 hl0
      go_enter Tryd.func32, Tryd.ntmps32
      go_wp2
      go_quiet (first | (go_at_call 42; with_reducible exact Calls.quiet_of_same (c1 _)) | (go_at_call 9; with_reducible exact Calls.quiet_of_same (c2 _)))
      have kz : (W0.drewN nq).heap[w.heap.size]? = some (.cells #[.int .i64 0, .int .i64 0, .int .i64 0, .int .i64 0, .int .i64 0, .int .i64 0, .int .i64 0, .int .u64 0] 26 (0, 0)) := HZ.out.1
      have bz : Below w.heap.size w (W0.drewN nq) := below_drewN HZ.out.2 nq
      have d_s := c_s.out nq
      have d_l := c_l.out nq
      have d_z := c_z.out nq
      clear c_s c_l c_z c1 c2
      obtain ⟨X, hX⟩ : ∃ X, W0.drewN nq = X := ⟨_, rfl⟩
      rw [hX] at kz bz d_s d_l d_z ⊢
      clear hX
      obtain ⟨⟨z0, z1, z2, z3, z4, z5, z6, z7⟩, ⟨f0, f1, f2, f3, f4, f5, f6, f7⟩, ⟨e0, e1, e2, e3, e4, e5, e6, e7⟩⟩ := zero_facts25 kz
      go_wp2_with (first | (go_at_call 42; (with_reducible refine d_s.mono ?_); rintro e w9 ⟨rfl, hw⟩; have hw := hw.symm; subst hw; clear d_s) | (go_at_call 42; (with_reducible refine d_l.mono ?_); rintro e w9 ⟨rfl, hw⟩; have hw := hw.symm; subst hw; clear d_l) | (go_at_call 42; (with_reducible refine d_z.mono ?_); rintro e w9 ⟨rfl, hw⟩; have hw := hw.symm; subst hw; clear d_z))
      refine bodyPost_ret (results_crt25 rfl _ _ w.heap.size _ #[.int .i64 0, .int .i64 0, .int .i64 0, .int .i64 0, .int .i64 0, .int .i64 0, .int .i64 0, .int .u64 0] _ _ rfl kz Tryd.underlying26 rfl info_rhead25) rfl ?_
      exact ⟨rfl, bz⟩
  · have E5 : (((z : Nat) : Int) == 0) = false := beq_eq_false_iff_ne.2 (fun h9 => hz0 (by omega))
    have E6 : (((z : Nat) : Int) != 0) = true := bne_iff_ne.2 (fun h9 => hz0 (by omega))
    have E7 : (z == 0) = false := beq_eq_false_iff_ne.2 hz0
    clear hz hz0
    go_enter Tryd.func32, Tryd.ntmps32
    go_wp2
    go_quiet (first | (go_at_call 42; with_reducible exact Calls.quiet_of_same (c1 _)) | (go_at_call 9; with_reducible exact Calls.quiet_of_same (c2 _)))
    have kz : (W0.drewN nq).heap[w.heap.size]? = some (.cells #[.int .i64 0, .int .i64 0, .int .i64 0, .int .i64 0, .int .i64 0, .int .i64 0, .int .i64 0, .int .u64 0] 26 (0, 0)) := HZ.out.1
    have bz : Below w.heap.size w (W0.drewN nq) := below_drewN HZ.out.2 nq
    have d_s := c_s.out nq
    have d_l := c_l.out nq
    have d_z := c_z.out nq
    clear c_s c_l c_z c1 c2
    obtain ⟨X, hX⟩ : ∃ X, W0.drewN nq = X := ⟨_, rfl⟩
    rw [hX] at kz bz d_s d_l d_z ⊢
    clear hX
    obtain ⟨⟨z0, z1, z2, z3, z4, z5, z6, z7⟩, ⟨f0, f1, f2, f3, f4, f5, f6, f7⟩, ⟨e0, e1, e2, e3, e4, e5, e6, e7⟩⟩ := zero_facts25 kz
    go_wp2_with (first | (go_at_call 42; (with_reducible refine d_s.mono ?_); rintro e w9 ⟨rfl, hw⟩; have hw := hw.symm; subst hw; clear d_s) | (go_at_call 42; (with_reducible refine d_l.mono ?_); rintro e w9 ⟨rfl, hw⟩; have hw := hw.symm; subst hw; clear d_l) | (go_at_call 42; (with_reducible refine d_z.mono ?_); rintro e w9 ⟨rfl, hw⟩; have hw := hw.symm; subst hw; clear d_z))
    refine bodyPost_ret (results_crt25 rfl _ _ w.heap.size _ #[.int .i64 0, .int .i64 0, .int .i64 0, .int .i64 0, .int .i64 0, .int .i64 0, .int .i64 0, .int .u64 0] _ _ rfl kz Tryd.underlying26 rfl info_rhead25) rfl ?_
    exact ⟨rfl, bz⟩
end Go.Proofs.YtehbiccpbopkfaaDoor
namespace Go.Proofs.YtehbiccpbopkfaaDoor
open Go.RowKit Gf2
set_option linter.unusedVariables false

-- layer 25: ReadHead of a good head
theorem new25 {Y Z : World} {C : Array Value} {T : TypeId} (hb : Below (Y.alloc (.cells C T)).heap.size (Y.alloc (.cells C T)) Z) : Z.heap[Y.heap.size]? = some (.cells C T (0, 0)) := (hb.block _ (by simp)).trans (heap_alloc_new _ _)
theorem store8_25 {x : World} {g : Nat} {T : TypeId} {z0 z1 z2 z3 z4 z5 z6 z7 : Value} (h : x.heap[g]? = some (.cells #[z0, z1, z2, z3, z4, z5, z6, z7] T (0, 0))) (a b c d e f k m : Value) :
    ((((((((x.setCell ⟨g, 0, none⟩ a).setCell ⟨g, 1, none⟩ b).setCell ⟨g, 2, none⟩ c).setCell ⟨g, 3, none⟩ d).setCell ⟨g, 4, none⟩ e).setCell ⟨g, 5, none⟩ f).setCell ⟨g, 6, none⟩ k).setCell ⟨g, 7, none⟩ m).heap[g]? = some (.cells #[a, b, c, d, e, f, k, m] T (0, 0)) ∧
    Only g x ((((((((x.setCell ⟨g, 0, none⟩ a).setCell ⟨g, 1, none⟩ b).setCell ⟨g, 2, none⟩ c).setCell ⟨g, 3, none⟩ d).setCell ⟨g, 4, none⟩ e).setCell ⟨g, 5, none⟩ f).setCell ⟨g, 6, none⟩ k).setCell ⟨g, 7, none⟩ m) := by
  have h1 : (x.setCell ⟨g, 0, none⟩ a).heap[g]? = some (.cells #[a, z1, z2, z3, z4, z5, z6, z7] T (0, 0)) := heap_setCell_same _ _ _ _ _ _ h
  have h2 : ((x.setCell ⟨g, 0, none⟩ a).setCell ⟨g, 1, none⟩ b).heap[g]? = some (.cells #[a, b, z2, z3, z4, z5, z6, z7] T (0, 0)) := heap_setCell_same _ _ _ _ _ _ h1
  have h3 : (((x.setCell ⟨g, 0, none⟩ a).setCell ⟨g, 1, none⟩ b).setCell ⟨g, 2, none⟩ c).heap[g]? = some (.cells #[a, b, c, z3, z4, z5, z6, z7] T (0, 0)) := heap_setCell_same _ _ _ _ _ _ h2
  have h4 : ((((x.setCell ⟨g, 0, none⟩ a).setCell ⟨g, 1, none⟩ b).setCell ⟨g, 2, none⟩ c).setCell ⟨g, 3, none⟩ d).heap[g]? = some (.cells #[a, b, c, d, z4, z5, z6, z7] T (0, 0)) := heap_setCell_same _ _ _ _ _ _ h3
  have h5 : (((((x.setCell ⟨g, 0, none⟩ a).setCell ⟨g, 1, none⟩ b).setCell ⟨g, 2, none⟩ c).setCell ⟨g, 3, none⟩ d).setCell ⟨g, 4, none⟩ e).heap[g]? = some (.cells #[a, b, c, d, e, z5, z6, z7] T (0, 0)) := heap_setCell_same _ _ _ _ _ _ h4
  have h6 : ((((((x.setCell ⟨g, 0, none⟩ a).setCell ⟨g, 1, none⟩ b).setCell ⟨g, 2, none⟩ c).setCell ⟨g, 3, none⟩ d).setCell ⟨g, 4, none⟩ e).setCell ⟨g, 5, none⟩ f).heap[g]? = some (.cells #[a, b, c, d, e, f, z6, z7] T (0, 0)) := heap_setCell_same _ _ _ _ _ _ h5
  have h7 : (((((((x.setCell ⟨g, 0, none⟩ a).setCell ⟨g, 1, none⟩ b).setCell ⟨g, 2, none⟩ c).setCell ⟨g, 3, none⟩ d).setCell ⟨g, 4, none⟩ e).setCell ⟨g, 5, none⟩ f).setCell ⟨g, 6, none⟩ k).heap[g]? = some (.cells #[a, b, c, d, e, f, k, z7] T (0, 0)) := heap_setCell_same _ _ _ _ _ _ h6
  exact ⟨heap_setCell_same _ _ _ _ _ _ h7, ((((((((Only.refl g x).setCell 0 a).setCell 1 b).setCell 2 c).setCell 3 d).setCell 4 e).setCell 5 f).setCell 6 k).setCell 7 m⟩
set_option maxHeartbeats 8000000 in
set_option maxRecDepth 100000 in
theorem readHead25_yes (v : Value) (n : Nat) (F : Nat → Nat) (w : World) (h : Rb w v n F) (hn : 48 ≤ n) (hT : Fsh w) (hm : sb25 5 F = { data := #[67, 85, 76, 76, 1] }) (hs : hs25 F = hsum25 F) (hz : rk25 F 40 4 = 0) (hg : Gh25 ((F 5 : Nat) : Int) (rk25 F 6 2) (rk25 F 8 2) (rk25 F 10 2) (rk25 F 16 8) (rk25 F 24 8) (rk25 F 12 4)) :
    Calls Tryd.prog 33 #[v] w fun e w' => e = .returned (.tuple #[hd25 (F 5 : Nat) (rk25 F 6 2 : Nat) (rk25 F 8 2 : Nat) (rk25 F 10 2 : Nat) (rk25 F 16 8 : Nat) (rk25 F 24 8 : Nat) (rk25 F 12 4 : Nat) (rk25 F 32 8), .int .i64 0]) ∧ Below w.heap.size w w' := by
  obtain ⟨-, -, a, cap, rfl, hc, hc2, h4⟩ := id h
  obtain ⟨b, o, rfl, hbl, hcc⟩ := h4 (by omega)
  obtain ⟨W0, hW0⟩ : ∃ W0, w.alloc (.cells #[.int .i64 0, .int .i64 0, .int .i64 0, .int .i64 0, .int .i64 0, .int .i64 0, .int .i64 0, .int .u64 0] 38) = W0 := ⟨_, rfl⟩
  have b0 : Below w.heap.size w W0 := by rw [← hW0]; exact (Below.refl _ _).alloc (Nat.le_refl _) _
  have k0 : W0.heap[w.heap.size]? = some (.cells #[.int .i64 0, .int .i64 0, .int .i64 0, .int .i64 0, .int .i64 0, .int .i64 0, .int .i64 0, .int .u64 0] 38 (0, 0)) := by rw [← hW0]; exact heap_alloc_new _ _
  have hcv := str25 (n := 5) ((h.below b0).cut (by omega) (by omega)) (by decide)
  have D1 : decide (((n : Nat) : Int) < 48) = false := decide_eq_false (by omega)
  have n5 : (5 : Int) ≤ ((cap : Nat) : Int) := by omega
  have n8 : (8 : Int) ≤ ((cap : Nat) : Int) := by omega
  have n10 : (10 : Int) ≤ ((cap : Nat) : Int) := by omega
  have n12 : (12 : Int) ≤ ((cap : Nat) : Int) := by omega
  have n16 : (16 : Int) ≤ ((cap : Nat) : Int) := by omega
  have n24 : (24 : Int) ≤ ((cap : Nat) : Int) := by omega
  have n32 : (32 : Int) ≤ ((cap : Nat) : Int) := by omega
  have n40 : (40 : Int) ≤ ((cap : Nat) : Int) := by omega
  have n44 : (44 : Int) ≤ ((cap : Nat) : Int) := by omega
  have n48 : (48 : Int) ≤ ((cap : Nat) : Int) := by omega
  have n6 : (5 : Int) < ((n : Nat) : Int) := by omega
  rw [hm] at hcv
  have r0 := h.below b0
  obtain ⟨x, hx⟩ : ∃ x, Hid (hs25 F = x) := ⟨_, rfl⟩
  obtain ⟨y, hy⟩ : ∃ y, Hid (hsum25 F = y) := ⟨_, rfl⟩
  have c1 : ∀ q, Calls Tryd.prog 38 #[.slice (some ⟨b, o, none⟩) n cap] (W0.drewN q) fun e w' => e = .returned (.int .u32 ((x : Nat) : Int)) ∧ w' = W0.drewN q := fun q => by
    have c := headSum25 _ n F (W0.drewN q) r0 hn
    rw [hx.out] at c
    exact c
  have c2 : ∀ q, Calls Tryd.prog 8 #[.slice (some ⟨b, o, none⟩) 44 cap] (W0.drewN q) fun e w' => e = .returned (.int .u32 ((y : Nat) : Int)) ∧ w' = W0.drewN q := fun q => by
    have c := sum25 _ 44 F (W0.drewN q) (rb_head25 r0 (m := 44) (by omega) (by omega)) (hT.below (below_drewN b0 q))
    have e : nt (fol25 (nt 0) F 44) = y := hy.out
    rw [e] at c
    exact c
  have HZ : Hid (W0.heap[w.heap.size]? = some (.cells #[.int .i64 0, .int .i64 0, .int .i64 0, .int .i64 0, .int .i64 0, .int .i64 0, .int .i64 0, .int .u64 0] 38 (0, 0)) ∧ Below w.heap.size w W0) := ⟨k0, b0⟩
  have exy : y = x := by rw [← hx.out, ← hy.out, hs]
  subst exy
  have c3 : Hid (∀ q, Calls Tryd.prog 43 #[.slice (some ⟨b, o + 40, none⟩) 4 (cap - 40)] (W0.drewN q) fun e w' => e = .returned (.int .u64 0) ∧ w' = W0.drewN q) := fun q => by
    have c := number25 _ 4 _ (W0.drewN q) (rb_piece25 r0 (x := 40) (d := 4) (by omega) hc) (by decide)
    have e : le25 (fun c => F (40 + c)) 4 = 0 := hz
    rw [e] at c
    exact c
  have E1 : (((y : Nat) : Int) == ((y : Nat) : Int)) = true := by simp
  have E2 : (y == y) = true := by simp
  have E3 : (((y : Nat) : Int) != ((y : Nat) : Int)) = false := by simp
  have hF : ∀ c, c < n → F c < 256 := h.2.1
  have c_k : Hid (∀ W, Rb W (.slice (some ⟨b, o, none⟩) n cap) n F → Calls Tryd.prog 43 #[.slice (some ⟨b, o + 6, none⟩) 2 (cap - 6)] W fun e w' => e = .returned (.int .u64 ((rk25 F 6 2 : Nat) : Int)) ∧ w' = W) := fun W hr => number25 _ 2 _ W (rb_piece25 hr (by omega) hc) (by decide)
  have l_k : rk25 F 6 2 < 2 ^ (8 * 2) := le_lt' (fun c hc9 => hF _ (by omega))
  have c_m : Hid (∀ W, Rb W (.slice (some ⟨b, o, none⟩) n cap) n F → Calls Tryd.prog 43 #[.slice (some ⟨b, o + 8, none⟩) 2 (cap - 8)] W fun e w' => e = .returned (.int .u64 ((rk25 F 8 2 : Nat) : Int)) ∧ w' = W) := fun W hr => number25 _ 2 _ W (rb_piece25 hr (by omega) hc) (by decide)
  have l_m : rk25 F 8 2 < 2 ^ (8 * 2) := le_lt' (fun c hc9 => hF _ (by omega))
  have c_i : Hid (∀ W, Rb W (.slice (some ⟨b, o, none⟩) n cap) n F → Calls Tryd.prog 43 #[.slice (some ⟨b, o + 10, none⟩) 2 (cap - 10)] W fun e w' => e = .returned (.int .u64 ((rk25 F 10 2 : Nat) : Int)) ∧ w' = W) := fun W hr => number25 _ 2 _ W (rb_piece25 hr (by omega) hc) (by decide)
  have l_i : rk25 F 10 2 < 2 ^ (8 * 2) := le_lt' (fun c hc9 => hF _ (by omega))
  have c_b9 : Hid (∀ W, Rb W (.slice (some ⟨b, o, none⟩) n cap) n F → Calls Tryd.prog 43 #[.slice (some ⟨b, o + 12, none⟩) 4 (cap - 12)] W fun e w' => e = .returned (.int .u64 ((rk25 F 12 4 : Nat) : Int)) ∧ w' = W) := fun W hr => number25 _ 4 _ W (rb_piece25 hr (by omega) hc) (by decide)
  have l_b9 : rk25 F 12 4 < 2 ^ (8 * 4) := le_lt' (fun c hc9 => hF _ (by omega))
  have c_s : Hid (∀ W, Rb W (.slice (some ⟨b, o, none⟩) n cap) n F → Calls Tryd.prog 43 #[.slice (some ⟨b, o + 16, none⟩) 8 (cap - 16)] W fun e w' => e = .returned (.int .u64 ((rk25 F 16 8 : Nat) : Int)) ∧ w' = W) := fun W hr => number25 _ 8 _ W (rb_piece25 hr (by omega) hc) (by decide)
  have l_s : rk25 F 16 8 < 2 ^ (8 * 8) := le_lt' (fun c hc9 => hF _ (by omega))
  have c_l : Hid (∀ W, Rb W (.slice (some ⟨b, o, none⟩) n cap) n F → Calls Tryd.prog 43 #[.slice (some ⟨b, o + 24, none⟩) 8 (cap - 24)] W fun e w' => e = .returned (.int .u64 ((rk25 F 24 8 : Nat) : Int)) ∧ w' = W) := fun W hr => number25 _ 8 _ W (rb_piece25 hr (by omega) hc) (by decide)
  have l_l : rk25 F 24 8 < 2 ^ (8 * 8) := le_lt' (fun c hc9 => hF _ (by omega))
  have c_st : Hid (∀ W, Rb W (.slice (some ⟨b, o, none⟩) n cap) n F → Calls Tryd.prog 43 #[.slice (some ⟨b, o + 32, none⟩) 8 (cap - 32)] W fun e w' => e = .returned (.int .u64 ((rk25 F 32 8 : Nat) : Int)) ∧ w' = W) := fun W hr => number25 _ 8 _ W (rb_piece25 hr (by omega) hc) (by decide)
  have l_st : rk25 F 32 8 < 2 ^ (8 * 8) := le_lt' (fun c hc9 => hF _ (by omega))
  obtain ⟨ff, hff⟩ : ∃ ff, Hid (F 5 = ff) := ⟨_, rfl⟩
  obtain ⟨k, e_k⟩ : ∃ k, Hid (rk25 F 6 2 = k) := ⟨_, rfl⟩
  rw [e_k.out] at c_k l_k
  obtain ⟨m, e_m⟩ : ∃ m, Hid (rk25 F 8 2 = m) := ⟨_, rfl⟩
  rw [e_m.out] at c_m l_m
  obtain ⟨i, e_i⟩ : ∃ i, Hid (rk25 F 10 2 = i) := ⟨_, rfl⟩
  rw [e_i.out] at c_i l_i
  obtain ⟨b9, e_b9⟩ : ∃ b9, Hid (rk25 F 12 4 = b9) := ⟨_, rfl⟩
  rw [e_b9.out] at c_b9 l_b9
  obtain ⟨s, e_s⟩ : ∃ s, Hid (rk25 F 16 8 = s) := ⟨_, rfl⟩
  rw [e_s.out] at c_s l_s
  obtain ⟨l, e_l⟩ : ∃ l, Hid (rk25 F 24 8 = l) := ⟨_, rfl⟩
  rw [e_l.out] at c_l l_l
  obtain ⟨st, e_st⟩ : ∃ st, Hid (rk25 F 32 8 = st) := ⟨_, rfl⟩
  rw [e_st.out] at c_st l_st
  have q5 : W0.cell? ⟨b, o + 5, none⟩ = some (.int .u8 ((ff : Nat) : Int)) := by
    obtain ⟨-, -, a9, c9, e9, -, -, h9⟩ := r0
    cases e9
    obtain ⟨b8, o8, e8, -, h8⟩ := h9 (by omega)
    cases e8
    rw [h8 5 (by omega), hff.out]
  have lff : ff < 256 := by rw [← hff.out]; exact hF 5 (by omega)
  have HV : Hid (IntKind.i64.wrap ((ff : Nat) : Int) = ((ff : Nat) : Int) ∧ IntKind.i64.wrap ((k : Nat) : Int) = ((k : Nat) : Int) ∧ IntKind.i64.wrap ((m : Nat) : Int) = ((m : Nat) : Int) ∧ IntKind.i64.wrap ((i : Nat) : Int) = ((i : Nat) : Int) ∧ IntKind.i64.wrap ((b9 : Nat) : Int) = ((b9 : Nat) : Int)) := ⟨w64i25 (by omega), w64i25 (by omega), w64i25 (by omega), w64i25 (by omega), w64i25 (by omega)⟩
  obtain ⟨sI, hsI⟩ : ∃ sI, IntKind.i64.wrap ((s : Nat) : Int) = sI := ⟨_, rfl⟩
  obtain ⟨lI, hlI⟩ : ∃ lI, IntKind.i64.wrap ((l : Nat) : Int) = lI := ⟨_, rfl⟩
  have HVS : Hid (IntKind.i64.wrap ((s : Nat) : Int) = sI) := hsI
  have HVL : Hid (IntKind.i64.wrap ((l : Nat) : Int) = lI) := hlI
  have hsI' : sI = ((s : Nat) : Int) := by rw [← hsI]; exact w64i25 (by have := hg.s2; rw [e_s.out] at this; omega)
  have hlI' : lI = ((l : Nat) : Int) := by rw [← hlI]; exact w64i25 (by have := hg.l2; rw [e_l.out] at this; omega)
  rw [hff.out, e_k.out, e_m.out, e_i.out, e_b9.out, e_s.out, e_l.out] at hg
  subst hsI' hlI'
  have cC : Hid (∀ W, Calls Tryd.prog 12 #[hd25 (ff : Nat) (k : Nat) (m : Nat) (i : Nat) (s : Nat) (l : Nat) (b9 : Nat) st] W fun e w' => e = .returned (.int .i64 0) ∧ Below W.heap.size W w') := fun W => check25_yes _ _ _ _ _ _ _ st W hg
  unfold hd25 at cC ⊢
  rw [hff.out, e_k.out, e_m.out, e_i.out, e_b9.out, e_s.out, e_l.out, e_st.out]
  clear hsI hlI
  have HX : Hid (¬ cap = 6 ∧ ¬ cap = 8 ∧ ¬ cap = 10 ∧ ¬ cap = 12 ∧ ¬ cap = 16 ∧ ¬ cap = 24 ∧ ¬ cap = 32) := ⟨by omega, by omega, by omega, by omega, by omega, by omega, by omega⟩
  have HR : Hid (W0.cell? ⟨b, o + 5, none⟩ = some (.int .u8 ((ff : Nat) : Int)) ∧ Rb W0 (.slice (some ⟨b, o, none⟩) n cap) n F) := ⟨q5, r0⟩
  clear h hn h4 hc k0 b0 r0 hx hy hm hbl hcc hs hz q5 hF lff l_k l_m l_i l_b9
  go_enter Tryd.func33, Tryd.ntmps33
  go_wp2
  go_quiet (first | (go_at_call 38; with_reducible exact Calls.quiet_of_same (c1 _)) | (go_at_call 8; with_reducible exact Calls.quiet_of_same (c2 _)))
  have kz : (W0.drewN nq).heap[w.heap.size]? = some (.cells #[.int .i64 0, .int .i64 0, .int .i64 0, .int .i64 0, .int .i64 0, .int .i64 0, .int .i64 0, .int .u64 0] 38 (0, 0)) := HZ.out.1
  have bz : Below w.heap.size w (W0.drewN nq) := below_drewN HZ.out.2 nq
  have d3 := c3.out nq
  have hSX : (W0.drewN nq).cell? ⟨b, o + 5, none⟩ = some (.int .u8 ((ff : Nat) : Int)) ∧ Rb (W0.drewN nq) (.slice (some ⟨b, o, none⟩) n cap) n F := ⟨HR.out.1, HR.out.2.drewN nq⟩
  clear c3 c1 c2
  obtain ⟨X, hX⟩ : ∃ X, W0.drewN nq = X := ⟨_, rfl⟩
  rw [hX] at kz bz d3 hSX ⊢
  clear hX
  go_wp2_with (go_at_call 43; (with_reducible refine d3.mono ?_); rintro e w9 ⟨rfl, hw⟩; have hw := hw.symm; subst hw; clear d3)
  have hSD := keepD25 hSX
  obtain ⟨V0, V1, V2, V3, V4⟩ := HV.out
  have V5 := HVS.out
  have V6 := HVL.out
  obtain ⟨x6, x8, x10, x12, x16, x24, x32⟩ := HX.out
  clear hSX
  refine region_sure2 (fun w' => w'.cell? ⟨b, o + 5, none⟩ = some (.int .u8 ((ff : Nat) : Int)) ∧ Rb w' (.slice (some ⟨b, o, none⟩) n cap) n F) 32 70 [6, 3, 3, 3, 3, 3, 3, 1] _ _ hSD (by kernel_rfl) (by kernel_rfl) rfl (by kernel_rfl) (by kernel_rfl) (by kernel_rfl) (by kernel_rfl) (fun _ a d v _ h => by cases d <;> exact h) ?_
  refine sure_step ?A0 _ rfl (fun w' hS => ?s0) rfl (Sure.call rfl (fun w' => ?e0) (fun w' hS => c_k.out w' hS.2)) ?n0
  case s0 =>
    obtain ⟨u0, u1⟩ := hS
    clear u1
    simp only [List.take_succ_cons, List.take_zero]
    repeat still_step
    exact rfl
  case e0 =>
    simp [execOp, resolve, invoke, Act.eval, Deferred.ofValue, callFunc]
    rw [if_neg num_name25, if_neg num_body25]
  case n0 =>
  refine sure_step ?A1 _ rfl (fun w' hS => ?s1) rfl (Sure.call rfl (fun w' => ?e1) (fun w' hS => c_m.out w' hS.2)) ?n1
  case s1 =>
    obtain ⟨u0, u1⟩ := hS
    clear u1
    simp only [List.take_succ_cons, List.take_zero]
    repeat still_step
    exact rfl
  case e1 =>
    simp [execOp, resolve, invoke, Act.eval, Deferred.ofValue, callFunc]
    rw [if_neg num_name25, if_neg num_body25]
  case n1 =>
  refine sure_step ?A2 _ rfl (fun w' hS => ?s2) rfl (Sure.call rfl (fun w' => ?e2) (fun w' hS => c_i.out w' hS.2)) ?n2
  case s2 =>
    obtain ⟨u0, u1⟩ := hS
    clear u1
    simp only [List.take_succ_cons, List.take_zero]
    repeat still_step
    exact rfl
  case e2 =>
    simp [execOp, resolve, invoke, Act.eval, Deferred.ofValue, callFunc]
    rw [if_neg num_name25, if_neg num_body25]
  case n2 =>
  refine sure_step ?A3 _ rfl (fun w' hS => ?s3) rfl (Sure.call rfl (fun w' => ?e3) (fun w' hS => c_b9.out w' hS.2)) ?n3
  case s3 =>
    obtain ⟨u0, u1⟩ := hS
    clear u1
    simp only [List.take_succ_cons, List.take_zero]
    repeat still_step
    exact rfl
  case e3 =>
    simp [execOp, resolve, invoke, Act.eval, Deferred.ofValue, callFunc]
    rw [if_neg num_name25, if_neg num_body25]
  case n3 =>
  refine sure_step ?A4 _ rfl (fun w' hS => ?s4) rfl (Sure.call rfl (fun w' => ?e4) (fun w' hS => c_s.out w' hS.2)) ?n4
  case s4 =>
    obtain ⟨u0, u1⟩ := hS
    clear u1
    simp only [List.take_succ_cons, List.take_zero]
    repeat still_step
    exact rfl
  case e4 =>
    simp [execOp, resolve, invoke, Act.eval, Deferred.ofValue, callFunc]
    rw [if_neg num_name25, if_neg num_body25]
  case n4 =>
  refine sure_step ?A5 _ rfl (fun w' hS => ?s5) rfl (Sure.call rfl (fun w' => ?e5) (fun w' hS => c_l.out w' hS.2)) ?n5
  case s5 =>
    obtain ⟨u0, u1⟩ := hS
    clear u1
    simp only [List.take_succ_cons, List.take_zero]
    repeat still_step
    exact rfl
  case e5 =>
    simp [execOp, resolve, invoke, Act.eval, Deferred.ofValue, callFunc]
    rw [if_neg num_name25, if_neg num_body25]
  case n5 =>
  refine sure_step ?A6 _ rfl (fun w' hS => ?s6) rfl (Sure.call rfl (fun w' => ?e6) (fun w' hS => c_st.out w' hS.2)) ?n6
  case s6 =>
    obtain ⟨u0, u1⟩ := hS
    clear u1
    simp only [List.take_succ_cons, List.take_zero]
    repeat still_step
    exact rfl
  case e6 =>
    simp [execOp, resolve, invoke, Act.eval, Deferred.ofValue, callFunc]
    rw [if_neg num_name25, if_neg num_body25]
  case n6 =>
  refine sure_last ?A7 rfl (fun w' hS => ?s7) rfl ?n7
  case s7 =>
    obtain ⟨u0, u1⟩ := hS
    clear u1
    simp only [List.take_succ_cons, List.take_zero]
    repeat still_step
    exact rfl
  case n7 =>
  obtain ⟨Y, hY⟩ : ∃ Y, X.drew = Y := ⟨_, rfl⟩
  rw [hY]
  have kz : Y.heap[w.heap.size]? = some (.cells #[.int .i64 0, .int .i64 0, .int .i64 0, .int .i64 0, .int .i64 0, .int .i64 0, .int .i64 0, .int .u64 0] 38 (0, 0)) := by rw [← hY]; exact kz
  have bz : Below w.heap.size w Y := by rw [← hY]; exact bz.drew
  rw [hY] at hSD
  clear hY
  intro K1 hK1
  go_simp
  refine hK1 _ _ (keepA25 hSD) ?_
  clear hK1 K1
  intro K2 hK2
  go_simp
  refine hK2 _ _ (keepA25 hSD) ?_
  clear hK2 K2
  go_wp2_with (go_at_call 12; (with_reducible refine (cC.out _).mono ?_); rintro e w9 ⟨rfl, hb9⟩; clear cC; obtain ⟨kw, bw⟩ := after25 kz bz hb9; have kh := new25 hb9; obtain ⟨q0, q1, q2, q3, q4, q5, q6, q7⟩ := hcells25 kh; obtain ⟨⟨z0, z1, z2, z3, z4, z5, z6, z7⟩, ⟨f0, f1, f2, f3, f4, f5, f6, f7⟩, -⟩ := zero_facts25 kw)
  refine bodyPost_ret (results_crt25 rfl _ _ w.heap.size _ _ _ _ rfl (store8_25 kw _ _ _ _ _ _ _ _).1 Tryd.underlying38 rfl info_head25) rfl ?_
  exact ⟨rfl, bw.trans ((store8_25 kw _ _ _ _ _ _ _ _).2.below (Nat.le_refl _))⟩

end Go.Proofs.YtehbiccpbopkfaaDoor
