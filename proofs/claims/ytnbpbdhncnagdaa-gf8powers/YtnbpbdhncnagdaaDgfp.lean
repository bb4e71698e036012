import Derived.Test.YtnbpbdhncnagdaaDgfr
import Derived.Deep.RegionHeld
namespace Go.Proofs.Ytnbpbdhncnagdaa
open Go.RowKit Gf2

/-- one step of a script, as a value. -/
def op8 (k on : Int) (a b : Nat) (n : Int) : Value := .agg #[.int .i64 k, .int .i64 on, .int .u8 (a : Int), .int .u8 (b : Int), .int .i64 n]

set_option maxHeartbeats 2000000 in
theorem plain_any (k on : Int) (a b : Nat) (n : Int) (w : World) (ha : a < 256) (hb : b < 256) :
    Calls Try.prog 20 #[.agg #[.int .i64 k, .int .i64 on, .int .u8 (a : Int), .int .u8 (b : Int), .int .i64 n]] w fun e w' => e = .returned (.bool true) ∧ Below w.heap.size w w' := by
  by_cases h1 : k = 1
  · subst h1
    have c1 := fun w => gmul_nat a b w ha hb
    have c2 := fun w => refMul_nat a b w ha hb
    go_enter Try.func20, Try.ntmps20
    go_wp2
    go_quiet (first | (go_at_call 11; with_reducible exact Calls.quiet_of_same (c1 _)) | (go_at_call 28; with_reducible exact Calls.quiet_of_same (c2 _)))
    go_wp2
    go_ret
    exact ⟨ret_bool (by simp), below_drewN' ((Below.refl _ _).alloc (Nat.le_refl _) _) _⟩
  · by_cases h2 : k = 2
    · subst h2
      have c1 := fun w => ginv_all a w ha
      have c2 := fun w => refInv_nat a w ha
      go_enter Try.func20, Try.ntmps20
      go_wp2_with (first | (go_at_call 13; ((with_reducible refine (c1 _).mono ?_); rintro e w' ⟨rfl, rfl⟩)) | (go_at_call 29; ((with_reducible refine (c2 _).mono ?_); rintro e w' ⟨rfl, rfl⟩)))
      go_ret
      exact ⟨ret_bool (by simp), (Below.refl _ _).alloc (Nat.le_refl _) _⟩
    · by_cases h3 : k = 3
      · subst h3
        have c1 := fun w => gdiv_all a b w ha hb
        have c2 := fun w => refDiv_nat a b w ha hb
        go_enter Try.func20, Try.ntmps20
        go_wp2_with (first | (go_at_call 14; ((with_reducible refine (c1 _).mono ?_); rintro e w' ⟨rfl, rfl⟩)) | (go_at_call 30; ((with_reducible refine (c2 _).mono ?_); rintro e w' ⟨rfl, rfl⟩)))
        go_ret
        exact ⟨ret_bool (by simp), (Below.refl _ _).alloc (Nat.le_refl _) _⟩
      · by_cases h4 : k = 4
        · subst h4
          have c1 := fun w => gpow_int a n w ha
          have c2 := fun w => refPow_int a n w ha
          go_enter Try.func20, Try.ntmps20
          go_wp2_with (first | (go_at_call 15; ((with_reducible refine (c1 _).mono ?_); rintro e w' ⟨rfl, rfl⟩)) | (go_at_call 31; ((with_reducible refine (c2 _).mono ?_); rintro e w' ⟨rfl, rfl⟩)))
          go_ret
          exact ⟨ret_bool (by simp), (Below.refl _ _).alloc (Nat.le_refl _) _⟩
        · have T1 : (k == 1) = false := by simpa using h1
          have T2 : (k == 2) = false := by simpa using h2
          have T3 : (k == 3) = false := by simpa using h3
          have T4 : (k == 4) = false := by simpa using h4
          clear h1 h2 h3 h4
          go_enter Try.func20, Try.ntmps20
          go_wp2
          go_ret
          exact ⟨rfl, (Below.refl _ _).alloc (Nat.le_refl _) _⟩

set_option maxHeartbeats 2000000 in
theorem ofNil_any (k on : Int) (a b : Nat) (n : Int) (w : World) :
    Calls Try.prog 21 #[.agg #[.int .i64 k, .int .i64 on, .int .u8 (a : Int), .int .u8 (b : Int), .int .i64 n]] w fun e w' => e = .returned (.bool true) ∧ Below w.heap.size w w' := by
  have c1 := fun w => tmul_nil a b w
  have c2 := fun w => tinv_nil a w
  have c3 := fun w => tdiv_nil a b w
  have c4 := fun w => texp_nil n w
  have c5 := fun w => tlg_nil a w
  have c6 := fun w => trow_nil a w
  by_cases h5 : k = 5
  · subst h5
    go_enter Try.func21, Try.ntmps21
    go_wp2_with (go_at_call 19; ((with_reducible refine (c1 _).mono ?_); rintro e w' ⟨rfl, rfl⟩))
    go_ret
    exact ⟨rfl, (Below.refl _ _).alloc (Nat.le_refl _) _⟩
  · skip
    by_cases h6 : k = 6
    · subst h6
      go_enter Try.func21, Try.ntmps21
      go_wp2_with (go_at_call 32; ((with_reducible refine (c2 _).mono ?_); rintro e w' ⟨rfl, rfl⟩))
      go_ret
      exact ⟨rfl, (Below.refl _ _).alloc (Nat.le_refl _) _⟩
    · skip
      by_cases h7 : k = 7
      · subst h7
        go_enter Try.func21, Try.ntmps21
        go_wp2_with (go_at_call 33; ((with_reducible refine (c3 _).mono ?_); rintro e w' ⟨rfl, rfl⟩))
        go_ret
        exact ⟨rfl, (Below.refl _ _).alloc (Nat.le_refl _) _⟩
      · skip
        by_cases h8 : k = 8
        · subst h8
          go_enter Try.func21, Try.ntmps21
          go_wp2_with (go_at_call 17; ((with_reducible refine (c4 _).mono ?_); rintro e w' ⟨rfl, rfl⟩))
          go_ret
          exact ⟨rfl, (Below.refl _ _).alloc (Nat.le_refl _) _⟩
        · skip
          by_cases h9 : k = 9
          · subst h9
            go_enter Try.func21, Try.ntmps21
            go_wp2_with (go_at_call 18; ((with_reducible refine (c5 _).mono ?_); rintro e w' ⟨rfl, rfl⟩))
            go_ret
            exact ⟨rfl, (Below.refl _ _).alloc (Nat.le_refl _) _⟩
          · skip
            by_cases h10 : k = 10
            · subst h10
              go_enter Try.func21, Try.ntmps21
              go_wp2_with (go_at_call 34; ((with_reducible refine (c6 _).mono ?_); rintro e w' ⟨rfl, rfl⟩))
              go_ret
              exact ⟨rfl, (Below.refl _ _).alloc (Nat.le_refl _) _⟩
            · skip
              have T5 : (k == 5) = false := by simpa using h5
              have T6 : (k == 6) = false := by simpa using h6
              have T7 : (k == 7) = false := by simpa using h7
              have T8 : (k == 8) = false := by simpa using h8
              have T9 : (k == 9) = false := by simpa using h9
              have T10 : (k == 10) = false := by simpa using h10
              clear h5 h6 h7 h8 h9 h10
              go_enter Try.func21, Try.ntmps21
              go_wp2
              go_ret
              exact ⟨rfl, (Below.refl _ _).alloc (Nat.le_refl _) _⟩

theorem bcell8 {W w1 : World} (hb : Below W.heap.size W w1) : (∀ b o, b < W.heap.size → w1.cell? ⟨b, o, none⟩ = W.cell? ⟨b, o, none⟩) ∧ (∀ b o, b < W.heap.size → w1.frozen? ⟨b, o, none⟩ = W.frozen? ⟨b, o, none⟩) :=
  ⟨fun b o h => hb.cell (p := ⟨b, o, none⟩) h, fun b o h => hb.frozen (p := ⟨b, o, none⟩) h⟩

theorem rows_two {W w1 w2 : World} {T : TypeId} {f : Nat → Value} (hr1 : w1.rowIs W.heap.size T 256 f) (hs1 : w1.heap.size = W.heap.size + 1) (hr2 : w2.rowIs w1.heap.size T 256 f) (hb2 : Below w1.heap.size w1 w2)
    {x y : Nat} (hx : W.heap.size = x) (hy : w1.heap.size = y) : (∀ i, i < 256 → w2.cell? ⟨x, i, none⟩ = some (f i)) ∧ (∀ i, i < 256 → w2.cell? ⟨y, i, none⟩ = some (f i)) := by
  subst hx hy
  exact ⟨fun i hi => (hb2.cell (p := ⟨W.heap.size, i, none⟩) (by rw [hs1]; exact Nat.lt_succ_self _)).trans (hr1.cell hi), fun i hi => hr2.cell hi⟩

set_option maxHeartbeats 2000000 in
set_option maxRecDepth 100000 in
theorem byTables_row (t : Nat) (on : Int) (a b : Nat) (n : Int) (w : World) (ht : Tab8 w t) (ha : a < 256) :
    Calls Try.prog 22 #[.pointer (some ⟨t, 0, none⟩), .agg #[.int .i64 10, .int .i64 on, .int .u8 (a : Int), .int .u8 (b : Int), .int .i64 n]] w fun e w' => e = .returned (.bool true) ∧ Below w.heap.size w w' := by
  have ht' : ∀ o, Tab8 (w.alloc o).drew t := fun o => ht.of_heap (Below.heap_alloc w o t ht.lt)
  go_enter Try.func22, Try.ntmps22
  go_wp2
  go_region_held (fun w' => w'.cell? ⟨w.heap.size, 2, none⟩ = some (.int .u8 (a : Int))) (go_keep) (first
    | (go_at_call 34; (with_reducible refine (trow_nat t a _ (ht' _) ha).mono ?_); rintro e w1 ⟨rfl, hr1, hb1, hs1⟩; obtain ⟨hc1, hf1⟩ := bcell8 hb1)
    | (go_at_call 38; (with_reducible refine (refRow_nat a _ ha).mono ?_); rintro e w2 ⟨rfl, hr2, hb2, hs2⟩; have q2 := hb2.cell (p := ⟨w.heap.size, 2, none⟩) (by simp [hs1]; omega); have R : Hid _ := rows_two hr1 hs1 hr2 hb2 (x := w.heap.size + 1) (y := w.heap.size + 1 + 1) (by simp) (by simp [hs1]); have HB : Hid (Below w.heap.size w w2) := ((((Below.refl _ _).alloc (Nat.le_refl _) _).drew).trans (hb1.mono (by simp))).trans (hb2.mono (by simp [hs1]; omega)); clear hr1 hr2 hb2 hs2)
    | (go_at_call 37; (with_reducible refine (same_rows (w.heap.size + 1) (w.heap.size + 1 + 1) (fun x => fm 285 a x) _ R.out.1 R.out.2).mono ?_); rintro e w3 ⟨rfl, m, rfl⟩))
  all_goals
    go_wp2
    go_ret
    exact ⟨rfl, below_drewN' HB.out _⟩

set_option maxHeartbeats 4000000 in
set_option maxRecDepth 100000 in
theorem byTables_any (t : Nat) (k on : Int) (a b : Nat) (n : Int) (w : World) (ht : Tab8 w t) (ha : a < 256) (hb : b < 256) :
    Calls Try.prog 22 #[.pointer (some ⟨t, 0, none⟩), .agg #[.int .i64 k, .int .i64 on, .int .u8 (a : Int), .int .u8 (b : Int), .int .i64 n]] w fun e w' => e = .returned (.bool true) ∧ Below w.heap.size w w' := by
  have ht' : ∀ o, Tab8 (w.alloc o) t := fun o => ht.of_heap (Below.heap_alloc w o t ht.lt)
  have c0 := fun o m => tmul_nat t a b ((w.alloc o).drewN m) ((ht' o).drewN m) ha hb
  have c1 := fun o => tinv_all t a (w.alloc o) (ht' o) ha
  have c2 := fun o => tdiv_all t a b (w.alloc o) (ht' o) ha hb
  have c3 := fun o m => texp_int t n ((w.alloc o).drewN m) ((ht' o).drewN m)
  have c4 := fun o => tlg_all t a (w.alloc o) (ht' o) ha
  have d0 := fun w => refMul_nat a b w ha hb
  have d1 := fun w => refInv_nat a w ha
  have d2 := fun w => refDiv_nat a b w ha hb
  have d3 := fun w => refExp_int n w
  have d4 := fun w => refLog_nat a w ha
  by_cases h10 : k = 10
  · subst h10; exact byTables_row t on a b n w ht ha
  · skip
    clear ht ht'
    by_cases h5 : k = 5
    · subst h5
      go_enter Try.func22, Try.ntmps22
      go_wp2
      go_quiet (first | (go_at_call 19; with_reducible exact Calls.quiet_of (c0 _ _)) | (go_at_call 28; with_reducible exact Calls.quiet_of_same (d0 _)))
      go_wp2
      go_ret
      exact ⟨ret_bool (by simp), below_drewN' ((Below.refl _ _).alloc (Nat.le_refl _) _) _⟩
    · by_cases h8 : k = 8
      · subst h8
        go_enter Try.func22, Try.ntmps22
        go_wp2
        go_quiet (first | (go_at_call 17; with_reducible exact Calls.quiet_of (c3 _ _)) | (go_at_call 35; with_reducible exact Calls.quiet_of_same (d3 _)))
        go_wp2
        go_ret
        exact ⟨ret_bool (by simp), below_drewN' ((Below.refl _ _).alloc (Nat.le_refl _) _) _⟩
      · by_cases h6 : k = 6
        · subst h6
          go_enter Try.func22, Try.ntmps22
          go_wp2_with (first | (go_at_call 32; ((with_reducible refine (c1 _).mono ?_); rintro e w1 ⟨rfl, m, rfl⟩)) | (go_at_call 29; ((with_reducible refine (d1 _).mono ?_); rintro e w' ⟨rfl, rfl⟩)))
          go_ret
          exact ⟨ret_bool (by simp), below_drewN' ((Below.refl _ _).alloc (Nat.le_refl _) _) _⟩
        · by_cases h7 : k = 7
          · subst h7
            go_enter Try.func22, Try.ntmps22
            go_wp2_with (first | (go_at_call 33; ((with_reducible refine (c2 _).mono ?_); rintro e w1 ⟨rfl, m, rfl⟩)) | (go_at_call 30; ((with_reducible refine (d2 _).mono ?_); rintro e w' ⟨rfl, rfl⟩)))
            go_ret
            exact ⟨ret_bool (by simp), below_drewN' ((Below.refl _ _).alloc (Nat.le_refl _) _) _⟩
          · by_cases h9 : k = 9
            · subst h9
              go_enter Try.func22, Try.ntmps22
              go_wp2_with (first | (go_at_call 18; ((with_reducible refine (c4 _).mono ?_); rintro e w1 ⟨rfl, m, rfl⟩)) | (go_at_call 36; ((with_reducible refine (d4 _).mono ?_); rintro e w' ⟨rfl, rfl⟩)))
              go_ret
              exact ⟨ret_bool (by simp), below_drewN' ((Below.refl _ _).alloc (Nat.le_refl _) _) _⟩
            · have T5 : (k == 5) = false := by simpa using h5
              have T6 : (k == 6) = false := by simpa using h6
              have T7 : (k == 7) = false := by simpa using h7
              have T8 : (k == 8) = false := by simpa using h8
              have T9 : (k == 9) = false := by simpa using h9
              have T10 : (k == 10) = false := by simpa using h10
              clear h5 h6 h7 h8 h9 h10
              go_enter Try.func22, Try.ntmps22
              go_wp2
              go_ret
              exact ⟨rfl, (Below.refl _ _).alloc (Nat.le_refl _) _⟩
end Go.Proofs.Ytnbpbdhncnagdaa
