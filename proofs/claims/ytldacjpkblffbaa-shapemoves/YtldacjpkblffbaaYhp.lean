import Derived.Test.YtldacjpkblffbaaYho
namespace Go.Proofs.Ytldacjpkblffbaa
open Go.RowKit Gf2
set_option linter.unusedVariables false

-- layer 16: numbers, step by step
theorem quiet16 {f : Nat} {args : Array Value} {v : Value} {w : World} (h : Calls Try.prog f args w fun e w' => e = .returned v ∧ w' = w) : Calls Try.prog f args w fun e w' => e = .returned v ∧ ∃ m, w' = w.drewN m :=
  h.mono fun e w' ⟨h1, h2⟩ => ⟨h1, 0, h2⟩
set_option maxHeartbeats 4000000 in
set_option maxRecDepth 100000 in
theorem numbers16_pow (f K m n : Int) (vS vF vD : Value) (w : World) :
    Calls Try.prog 15 #[.agg #[.int .i64 1, .int .i64 f, .int .i64 K, .int .i64 m, .int .i64 n, vS, vF, vD]] w fun e w' => e = .returned (.bool true) ∧ Below w.heap.size w w' := by
  have a0 := balloc16 w (.cells #[.int .i64 1, .int .i64 f, .int .i64 K, .int .i64 m, .int .i64 n, vS, vF, vD] 41)
  obtain ⟨y0, y1, y2, y3, y4, y5, y6, y7⟩ := bo16_new w 1 f K m n vS vF vD (Below.refl _ _)
  have c1 := fun x => pow16p n x
  have c2 := fun x => pow16r n x
  generalize p2z n = a at *
  generalize p2e n = b at *
  have HB : Hid _ := a0
  clear a0
  go_enter Try.func15, Try.ntmps15
  go_wp2_with (first | (go_at_call 19; ((with_reducible refine (c1 _).mono ?_); (rintro e w9 ⟨rfl, hw9⟩; have hw9 := hw9.symm; subst hw9))) | (go_at_call 21; ((with_reducible refine (c2 _).mono ?_); (rintro e w9 ⟨rfl, hw9⟩; have hw9 := hw9.symm; subst hw9))))
  go_ret
  exact ⟨rfl, HB.out⟩
set_option maxHeartbeats 4000000 in
set_option maxRecDepth 100000 in
theorem numbers16_params (f K m n : Int) (vS vF vD : Value) (w : World) (hK : I64 K) :
    Calls Try.prog 15 #[.agg #[.int .i64 2, .int .i64 f, .int .i64 K, .int .i64 m, .int .i64 n, vS, vF, vD]] w fun e w' => e = .returned (.bool true) ∧ Below w.heap.size w w' := by
  have a0 := balloc16 w (.cells #[.int .i64 2, .int .i64 f, .int .i64 K, .int .i64 m, .int .i64 n, vS, vF, vD] 41)
  obtain ⟨y0, y1, y2, y3, y4, y5, y6, y7⟩ := bo16_new w 2 f K m n vS vF vD (Below.refl _ _)
  obtain ⟨X, hX⟩ : ∃ X, X = w.alloc (.cells #[.int .i64 2, .int .i64 f, .int .i64 K, .int .i64 m, .int .i64 n, vS, vF, vD] 41) := ⟨_, rfl⟩
  have HX : Hid (X = w.alloc (.cells #[.int .i64 2, .int .i64 f, .int .i64 K, .int .i64 m, .int .i64 n, vS, vF, vD] 41)) := hX
  rw [← hX] at a0 y1 y2 y3 y4
  have c1 := fun q => quiet16 (params16 f K m (X.drewN q) hK)
  have c2 := fun q => quiet16 (rparams16 f K m (X.drewN q))
  generalize prm f K m = a at *
  have HB : Hid _ := a0
  clear a0 hX hK
  go_enter Try.func15, Try.ntmps15
  go_wp2
  rw [← HX.out]
  go_quiet (first | (go_at_call 12; with_reducible exact Calls.quiet_of (c1 _)) | (go_at_call 22; with_reducible exact Calls.quiet_of (c2 _)))
  go_wp2
  go_ret
  exact ⟨rfl, below_drewN HB.out _⟩
set_option maxHeartbeats 4000000 in
set_option maxRecDepth 100000 in
theorem numbers16_uses (f K m n : Int) (vS vF vD : Value) (w : World) :
    Calls Try.prog 15 #[.agg #[.int .i64 3, .int .i64 f, .int .i64 K, .int .i64 m, .int .i64 n, vS, vF, vD]] w fun e w' => e = .returned (.bool true) ∧ Below w.heap.size w w' := by
  have a0 := balloc16 w (.cells #[.int .i64 3, .int .i64 f, .int .i64 K, .int .i64 m, .int .i64 n, vS, vF, vD] 41)
  obtain ⟨y0, y1, y2, y3, y4, y5, y6, y7⟩ := bo16_new w 3 f K m n vS vF vD (Below.refl _ _)
  obtain ⟨X, hX⟩ : ∃ X, X = w.alloc (.cells #[.int .i64 3, .int .i64 f, .int .i64 K, .int .i64 m, .int .i64 n, vS, vF, vD] 41) := ⟨_, rfl⟩
  have HX : Hid (X = w.alloc (.cells #[.int .i64 3, .int .i64 f, .int .i64 K, .int .i64 m, .int .i64 n, vS, vF, vD] 41)) := hX
  rw [← hX] at a0 y1 y2 y3 y4
  have c1 := fun q => quiet16 (uses16 f n (X.drewN q))
  have c2 := fun q => quiet16 (ruses16 f n (X.drewN q))
  generalize us16 f n = a at *
  have HB : Hid _ := a0
  clear a0 hX
  go_enter Try.func15, Try.ntmps15
  go_wp2
  rw [← HX.out]
  go_quiet (first | (go_at_call 23; with_reducible exact Calls.quiet_of (c1 _)) | (go_at_call 24; with_reducible exact Calls.quiet_of (c2 _)))
  go_wp2
  go_ret
  exact ⟨rfl, below_drewN HB.out _⟩
set_option maxHeartbeats 4000000 in
set_option maxRecDepth 100000 in
theorem numbers16_len (f K m n : Int) (vS vF vD : Value) (w : World) (hK : I64 K) :
    Calls Try.prog 15 #[.agg #[.int .i64 4, .int .i64 f, .int .i64 K, .int .i64 m, .int .i64 n, vS, vF, vD]] w fun e w' => e = .returned (.bool true) ∧ Below w.heap.size w w' := by
  have a0 := balloc16 w (.cells #[.int .i64 4, .int .i64 f, .int .i64 K, .int .i64 m, .int .i64 n, vS, vF, vD] 41)
  obtain ⟨y0, y1, y2, y3, y4, y5, y6, y7⟩ := bo16_new w 4 f K m n vS vF vD (Below.refl _ _)
  have c1 := fun x => length16 f K m n x hK
  have c2 := fun x => rlength16 f K m n x
  generalize lnv f K m n = a at *
  generalize lne f K m n = b at *
  have HB : Hid _ := a0
  clear a0 hK
  go_enter Try.func15, Try.ntmps15
  go_wp2_with (first | (go_at_call 13; ((with_reducible refine (c1 _).mono ?_); (rintro e w9 ⟨rfl, hw9⟩; have hw9 := hw9.symm; subst hw9))) | (go_at_call 25; ((with_reducible refine (c2 _).mono ?_); (rintro e w9 ⟨rfl, hw9⟩; have hw9 := hw9.symm; subst hw9))))
  go_ret
  exact ⟨rfl, HB.out⟩
end Go.Proofs.Ytldacjpkblffbaa
