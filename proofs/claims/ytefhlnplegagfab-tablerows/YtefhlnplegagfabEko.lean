import Derived.Test.YtefhlnplegagfabEkd
namespace Go.Proofs.Ytefhlnplegagfab
open Go.RowKit Gf2
set_option linter.unusedVariables false

theorem pl_full5 {F S : Nat → Nat} {n i : Nat} (hi : i < n) : pl F 0 n S i = S i := by have := pl_in (F := F) (o := 0) (S := S) hi; rwa [Nat.zero_add] at this
set_option maxHeartbeats 1000000 in
set_option maxRecDepth 100000 in
theorem kmul_lens (p : Addr) (lo hi c n m : Nat) (a x : Option Addr) (ca cx : Nat) (w : World) (hk : Ker w p lo hi) (hnm : n ≠ m) :
    Calls Try.prog 13 #[.pointer (some p), .int .u8 (c : Int), .slice a n ca, .slice x m cx] w fun e w' => e = .returned (.int .i64 6) ∧ w' = w := by
  go_enter Try.func13, Try.ntmps13
  go_wp2
  go_ret
  exact ⟨rfl, rfl⟩
set_option maxHeartbeats 1000000 in
set_option maxRecDepth 100000 in
theorem kmul_nil (c : Int) (u v : Value) (w : World) :
    Calls Try.prog 13 #[.pointer none, .int .u8 c, u, v] w fun e w' => e = .returned (.int .i64 1) ∧ w' = w := by
  go_enter Try.func13, Try.ntmps13
  go_wp2
  go_ret
  exact ⟨rfl, rfl⟩
set_option maxHeartbeats 1000000 in
set_option maxRecDepth 100000 in
theorem kadd_lens (p : Addr) (lo hi c n m : Nat) (a x : Option Addr) (ca cx : Nat) (w : World) (hk : Ker w p lo hi) (hnm : n ≠ m) :
    Calls Try.prog 14 #[.pointer (some p), .int .u8 (c : Int), .slice a n ca, .slice x m cx] w fun e w' => e = .returned (.int .i64 6) ∧ w' = w := by
  go_enter Try.func14, Try.ntmps14
  go_wp2
  go_ret
  exact ⟨rfl, rfl⟩
set_option maxHeartbeats 1000000 in
set_option maxRecDepth 100000 in
theorem kadd_nil (c : Int) (u v : Value) (w : World) :
    Calls Try.prog 14 #[.pointer none, .int .u8 c, u, v] w fun e w' => e = .returned (.int .i64 1) ∧ w' = w := by
  go_enter Try.func14, Try.ntmps14
  go_wp2
  go_ret
  exact ⟨rfl, rfl⟩
set_option maxHeartbeats 1000000 in
set_option maxRecDepth 100000 in
theorem kprod_nil (a b : Int) (w : World) :
    Calls Try.prog 11 #[.pointer none, .int .u8 a, .int .u8 b] w fun e w' => e = .returned (.int .u8 0) ∧ w' = w := by
  go_enter Try.func11, Try.ntmps11
  go_wp2
  go_ret
  exact ⟨rfl, rfl⟩
set_option maxHeartbeats 1000000 in
set_option maxRecDepth 100000 in
theorem krow_nil (c : Int) (w : World) :
    Calls Try.prog 6 #[.pointer none, .int .u8 c] w fun e w' => e = .returned (.tuple #[.slice none 0 0, .int .i64 1]) ∧ w' = w := by
  go_enter Try.func6, Try.ntmps6
  go_wp2
  go_ret2
  exact ⟨rfl, rfl⟩
set_option maxHeartbeats 1000000 in
set_option maxRecDepth 100000 in
theorem kprod_any (p : Addr) (lo hi a b : Nat) (w : World) (hk : Ker w p lo hi) (ha : a < 256) (hb : b < 256) :
    Calls Try.prog 11 #[.pointer (some p), .int .u8 (a : Int), .int .u8 (b : Int)] w fun e w' => e = .returned (.int .u8 (fm 285 a b : Nat)) ∧ ∃ m, w' = w.drewN m := by
  obtain ⟨rfl, hlo, hhi, A, hA, hAs, hT⟩ := hk
  have q := cell_of_row w lo (a * 256 + b) A _ _ hA
  rw [hT a b ha hb] at q
  have i1 : ((a : Nat) : Int) < 256 := by omega
  have i2 : ((b : Nat) : Int) < 256 := by omega
  clear hT ha hb
  go_enter Try.func11, Try.ntmps11
  go_wp2
  go_ret
  exact ⟨rfl, 0, rfl⟩
set_option maxHeartbeats 1000000 in
set_option maxRecDepth 100000 in
theorem krow_any (p : Addr) (lo hi c : Nat) (w : World) (hk : Ker w p lo hi) (hc : c < 256) :
    Calls Try.prog 6 #[.pointer (some p), .int .u8 (c : Int)] w fun e w' => e = .returned (.tuple #[.slice (some ⟨w.heap.size, 0, none⟩) 256 256, .int .i64 0]) ∧ Rw w' w.heap.size 256 (fun i => fm 285 c i) ∧ Below w.heap.size w w' ∧ w'.heap.size = w.heap.size + 1 := by
  obtain ⟨rfl, hlo, hhi, A, hA, hAs, hT⟩ := hk
  have hmk := make_u8 256 (by decide)
  have hmk : ∀ w, (Instr.makeSlice 22 (.int .i64 256) (.int .i64 256)).run Try.prog w = .ok (.slice (some ⟨w.heap.size, 0, none⟩) 256 256) (w.alloc (.cells (madeCells #[.int .u8 0] 256) 5)) := hmk
  have b0 : Below w.heap.size w (w.alloc (.cells (madeCells #[.int .u8 0] 256) 5)) := (Below.refl _ _).alloc (Nat.le_refl _) _
  have hm := made_rw 256 (by decide) w
  obtain ⟨w2, hrun, hr2, ho⟩ := copy8_run (w.alloc (.cells (madeCells #[.int .u8 0] 256) 5)) (g := w.heap.size) (o := 0) (dl := 256) (cap := 256) hm (a := some ⟨lo, c * 256, none⟩) (n := 256) (cap' := 256) (S := fun i => fm 285 c i) (fun i _ => fm8_lt _ _) (fun _ => ⟨lo, c * 256, rfl, fun i hi => by
    rw [b0.cell (p := ⟨lo, c * 256 + i, none⟩) (by show lo < w.heap.size; omega), cell_of_row w lo (c * 256 + i) A _ _ hA]
    exact hT c i hc hi⟩) (by decide) (by decide)
  have i1 : ((c : Nat) : Int) < 256 := by omega
  have HF : Hid (Rw w2 w.heap.size 256 (pl (fun _ => 0) 0 256 (fun i => fm 285 c i)) ∧ Below w.heap.size w w2 ∧ w2.heap.size = w.heap.size + 1) := ⟨hr2, b0.trans (ho.below (Nat.le_refl _)), by rw [ho.2.1]; simp⟩
  clear hT hc b0 hm hr2 ho
  go_enter Try.func6, Try.ntmps6
  go_wp2
  go_ret2
  obtain ⟨h1, h2, h3⟩ := HF.out
  exact ⟨rfl, h1.congr (fun i hi => pl_full5 hi), h2, h3⟩
end Go.Proofs.Ytefhlnplegagfab
