import Derived.Test.YtldacjpkblffbabYme
import Derived.StillTail
import Derived.StillTailTactics
namespace Go.Proofs.Ytldacjpkblffbab
open Go.RowKit Gf2
set_option linter.unusedVariables false

-- layer 16: ShapeMemory (laid by wip/genymw.py)
/-- x[:m] of bytes. -/
theorem head8m (g n C m : Nat) (hm : m ≤ C) : ∀ W : World, (Instr.slice 24 (.slice (some ⟨g, 0, none⟩) n C) none (some (.int .i64 (m : Int))) none).run Try.prog W = .ok (.slice (some ⟨g, 0, none⟩) m C) W := by
  intro W
  have he : Try.prog.elem 24 = 5 := by kernel_rfl
  have hsz : (sizeOf 5).run Try.prog W = .ok 1 W := by
    obtain ⟨i, hi, -, hs, -⟩ := info_u8a
    simp [sizeOf, typeInfo, hi, hs]
  have hu : Try.prog.underlying 24 = some (.slice (Try.prog.elem 24)) := by rw [he]; exact Try.underlying24
  have h := run_slice_h (P := Try.prog) (w := W) 24 (some ⟨g, 0, none⟩) n C hu .i64 (m : Int) (by omega) (by omega)
  rw [h, he, hsz]
  simp only [Result.andThen, sliced, Int.toNat_natCast, Nat.sub_zero]
  split
  · rfl
  · show Result.ok (Value.slice (some ((⟨g, 0, none⟩ : Addr).add (0 * 1))) m C) W = _
    rw [Addr.add_lit]
set_option maxHeartbeats 8000000 in
set_option maxRecDepth 100000 in
theorem memory16_a (f K M : Int) (a : Option Addr) (n cap : Nat) (w : World) (hn : 64 < n) :
    Calls Try.prog 5 #[.agg #[.int .i64 f, .int .i64 K, .int .i64 M], .slice a n cap] w fun e w' => e = .returned (.bool true) ∧ Below w.heap.size w w' := by
  obtain ⟨X0, hX⟩ : ∃ X, X = w.alloc (.cells #[.int .i64 f, .int .i64 K, .int .i64 M] 23) := ⟨_, rfl⟩
  have hh := heap_alloc_new w (.cells #[.int .i64 f, .int .i64 K, .int .i64 M] 23)
  have b0 : Below w.heap.size w X0 := by rw [hX]; exact balloc16 _ _
  have hlt : w.heap.size < X0.heap.size := by rw [hX]; simp
  rw [← hX] at hh
  have HC : Hid (∀ x, Below X0.heap.size X0 x → x.cell? ⟨w.heap.size, 0, none⟩ = some (.int .i64 f) ∧ x.cell? ⟨w.heap.size, 1, none⟩ = some (.int .i64 K) ∧ x.cell? ⟨w.heap.size, 2, none⟩ = some (.int .i64 M)) := fun x hx => by
    have c : ∀ q v, (#[.int .i64 f, .int .i64 K, .int .i64 M] : Array Value)[q]? = some v → x.cell? ⟨w.heap.size, q, none⟩ = some v := fun q v hq => by
      rw [hx.cell (p := ⟨w.heap.size, q, none⟩) hlt, cell_of_row _ _ _ _ _ _ hh]
      exact hq
    exact ⟨c 0 _ rfl, c 1 _ rfl, c 2 _ rfl⟩
  have c0 := awake16 X0
  have HX : Hid (X0 = w.alloc (.cells #[.int .i64 f, .int .i64 K, .int .i64 M] 23)) := hX
  rw [hX] at c0
  have HD : Hid (Below w.heap.size w X0) := b0
  have D1 : decide ((64 : Int) < (n : Int)) = true := by simp; omega
  clear hX hh b0 hlt hn
  go_enter Try.func5, Try.ntmps5
  go_wp2_with (go_at_call 6; ((with_reducible refine (c0).mono ?_); (rintro e X1 ⟨rfl, hb⟩; have hb : Below X0.heap.size X0 X1 := (by rw [HX.out]; exact hb); obtain ⟨z0, z1, z2⟩ := HC.out X1 hb; have H1 : Hid (Below X0.heap.size X0 X1) := hb; clear hb)))
  go_quiet (fail)
  go_wp2
  go_ret
  exact ⟨rfl, bthen16 HD.out (below_drewN H1.out _)⟩
set_option maxHeartbeats 8000000 in
set_option maxRecDepth 100000 in
theorem memory16_b (f K M : Int) (a : Option Addr) (n cap : Nat) (w : World) (hn : ¬ 64 < n) (h1 : 40 < K) :
    Calls Try.prog 5 #[.agg #[.int .i64 f, .int .i64 K, .int .i64 M], .slice a n cap] w fun e w' => e = .returned (.bool true) ∧ Below w.heap.size w w' := by
  obtain ⟨X0, hX⟩ : ∃ X, X = w.alloc (.cells #[.int .i64 f, .int .i64 K, .int .i64 M] 23) := ⟨_, rfl⟩
  have hh := heap_alloc_new w (.cells #[.int .i64 f, .int .i64 K, .int .i64 M] 23)
  have b0 : Below w.heap.size w X0 := by rw [hX]; exact balloc16 _ _
  have hlt : w.heap.size < X0.heap.size := by rw [hX]; simp
  rw [← hX] at hh
  have HC : Hid (∀ x, Below X0.heap.size X0 x → x.cell? ⟨w.heap.size, 0, none⟩ = some (.int .i64 f) ∧ x.cell? ⟨w.heap.size, 1, none⟩ = some (.int .i64 K) ∧ x.cell? ⟨w.heap.size, 2, none⟩ = some (.int .i64 M)) := fun x hx => by
    have c : ∀ q v, (#[.int .i64 f, .int .i64 K, .int .i64 M] : Array Value)[q]? = some v → x.cell? ⟨w.heap.size, q, none⟩ = some v := fun q v hq => by
      rw [hx.cell (p := ⟨w.heap.size, q, none⟩) hlt, cell_of_row _ _ _ _ _ _ hh]
      exact hq
    exact ⟨c 0 _ rfl, c 1 _ rfl, c 2 _ rfl⟩
  have c0 := awake16 X0
  have HX : Hid (X0 = w.alloc (.cells #[.int .i64 f, .int .i64 K, .int .i64 M] 23)) := hX
  rw [hX] at c0
  have HD : Hid (Below w.heap.size w X0) := b0
  have D1 : decide ((64 : Int) < (n : Int)) = false := by simp; omega
  have D2 : decide ((40 : Int) < K) = true := by simp; omega
  clear hX hh b0 hlt hn h1
  go_enter Try.func5, Try.ntmps5
  go_wp2_with (go_at_call 6; ((with_reducible refine (c0).mono ?_); (rintro e X1 ⟨rfl, hb⟩; have hb : Below X0.heap.size X0 X1 := (by rw [HX.out]; exact hb); obtain ⟨z0, z1, z2⟩ := HC.out X1 hb; have H1 : Hid (Below X0.heap.size X0 X1) := hb; clear hb)))
  go_quiet (fail)
  go_wp2
  go_ret
  exact ⟨rfl, bthen16 HD.out (below_drewN H1.out _)⟩
set_option maxHeartbeats 8000000 in
set_option maxRecDepth 100000 in
theorem memory16_c (f K M : Int) (a : Option Addr) (n cap : Nat) (w : World) (hn : ¬ 64 < n) (h1 : ¬ 40 < K) (h2 : 40 < M) :
    Calls Try.prog 5 #[.agg #[.int .i64 f, .int .i64 K, .int .i64 M], .slice a n cap] w fun e w' => e = .returned (.bool true) ∧ Below w.heap.size w w' := by
  obtain ⟨X0, hX⟩ : ∃ X, X = w.alloc (.cells #[.int .i64 f, .int .i64 K, .int .i64 M] 23) := ⟨_, rfl⟩
  have hh := heap_alloc_new w (.cells #[.int .i64 f, .int .i64 K, .int .i64 M] 23)
  have b0 : Below w.heap.size w X0 := by rw [hX]; exact balloc16 _ _
  have hlt : w.heap.size < X0.heap.size := by rw [hX]; simp
  rw [← hX] at hh
  have HC : Hid (∀ x, Below X0.heap.size X0 x → x.cell? ⟨w.heap.size, 0, none⟩ = some (.int .i64 f) ∧ x.cell? ⟨w.heap.size, 1, none⟩ = some (.int .i64 K) ∧ x.cell? ⟨w.heap.size, 2, none⟩ = some (.int .i64 M)) := fun x hx => by
    have c : ∀ q v, (#[.int .i64 f, .int .i64 K, .int .i64 M] : Array Value)[q]? = some v → x.cell? ⟨w.heap.size, q, none⟩ = some v := fun q v hq => by
      rw [hx.cell (p := ⟨w.heap.size, q, none⟩) hlt, cell_of_row _ _ _ _ _ _ hh]
      exact hq
    exact ⟨c 0 _ rfl, c 1 _ rfl, c 2 _ rfl⟩
  have c0 := awake16 X0
  have HX : Hid (X0 = w.alloc (.cells #[.int .i64 f, .int .i64 K, .int .i64 M] 23)) := hX
  rw [hX] at c0
  have HD : Hid (Below w.heap.size w X0) := b0
  have D1 : decide ((64 : Int) < (n : Int)) = false := by simp; omega
  have D2 : decide ((40 : Int) < K) = false := by simp; omega
  have D3 : decide ((40 : Int) < M) = true := by simp; omega
  clear hX hh b0 hlt hn h1 h2
  go_enter Try.func5, Try.ntmps5
  go_wp2_with (go_at_call 6; ((with_reducible refine (c0).mono ?_); (rintro e X1 ⟨rfl, hb⟩; have hb : Below X0.heap.size X0 X1 := (by rw [HX.out]; exact hb); obtain ⟨z0, z1, z2⟩ := HC.out X1 hb; have H1 : Hid (Below X0.heap.size X0 X1) := hb; clear hb)))
  go_quiet (fail)
  go_wp2
  go_ret
  exact ⟨rfl, bthen16 HD.out (below_drewN H1.out _)⟩
set_option maxHeartbeats 8000000 in
set_option maxRecDepth 100000 in
theorem memory16_d (f K M : Int) (a : Option Addr) (n cap : Nat) (w : World) (hn : ¬ 64 < n) (h1 : ¬ 40 < K) (h2 : ¬ 40 < M) (h3 : prm f K M ≠ 0) :
    Calls Try.prog 5 #[.agg #[.int .i64 f, .int .i64 K, .int .i64 M], .slice a n cap] w fun e w' => e = .returned (.bool true) ∧ Below w.heap.size w w' := by
  obtain ⟨X0, hX⟩ : ∃ X, X = w.alloc (.cells #[.int .i64 f, .int .i64 K, .int .i64 M] 23) := ⟨_, rfl⟩
  have hh := heap_alloc_new w (.cells #[.int .i64 f, .int .i64 K, .int .i64 M] 23)
  have b0 : Below w.heap.size w X0 := by rw [hX]; exact balloc16 _ _
  have hlt : w.heap.size < X0.heap.size := by rw [hX]; simp
  rw [← hX] at hh
  have HC : Hid (∀ x, Below X0.heap.size X0 x → x.cell? ⟨w.heap.size, 0, none⟩ = some (.int .i64 f) ∧ x.cell? ⟨w.heap.size, 1, none⟩ = some (.int .i64 K) ∧ x.cell? ⟨w.heap.size, 2, none⟩ = some (.int .i64 M)) := fun x hx => by
    have c : ∀ q v, (#[.int .i64 f, .int .i64 K, .int .i64 M] : Array Value)[q]? = some v → x.cell? ⟨w.heap.size, q, none⟩ = some v := fun q v hq => by
      rw [hx.cell (p := ⟨w.heap.size, q, none⟩) hlt, cell_of_row _ _ _ _ _ _ hh]
      exact hq
    exact ⟨c 0 _ rfl, c 1 _ rfl, c 2 _ rfl⟩
  have c0 := awake16 X0
  have HX : Hid (X0 = w.alloc (.cells #[.int .i64 f, .int .i64 K, .int .i64 M] 23)) := hX
  rw [hX] at c0
  have HD : Hid (Below w.heap.size w X0) := b0
  have D1 : decide ((64 : Int) < (n : Int)) = false := by simp; omega
  have D2 : decide ((40 : Int) < K) = false := by simp; omega
  have D3 : decide ((40 : Int) < M) = false := by simp; omega
  have c1 := fun x => rparams16 f K M x
  generalize prm f K M = z at *
  have D4 : (z != 0) = true := by simpa using h3
  have D5 : (z == 0) = false := by simpa using h3
  clear hX hh b0 hlt hn h1 h2 h3
  go_enter Try.func5, Try.ntmps5
  go_wp2_with (go_at_call 6; ((with_reducible refine (c0).mono ?_); (rintro e X1 ⟨rfl, hb⟩; have hb : Below X0.heap.size X0 X1 := (by rw [HX.out]; exact hb); obtain ⟨z0, z1, z2⟩ := HC.out X1 hb; have H1 : Hid (Below X0.heap.size X0 X1) := hb; clear hb)))
  go_quiet (fail)
  go_wp2_with (go_at_call 15; (with_reducible refine (c1 _).mono ?_); rintro e w9 ⟨rfl, hw9⟩; have hw9 := hw9.symm; subst hw9; clear c1)
  go_ret
  exact ⟨rfl, bthen16 HD.out (below_drewN H1.out _)⟩
set_option maxHeartbeats 8000000 in
set_option maxRecDepth 100000 in
theorem memory16_e (f K M : Int) (a : Option Addr) (n cap : Nat) (w : World) (hn : n = 0) (h1 : ¬ 40 < K) (h2 : ¬ 40 < M) (h3 : prm f K M = 0) :
    Calls Try.prog 5 #[.agg #[.int .i64 f, .int .i64 K, .int .i64 M], .slice a n cap] w fun e w' => e = .returned (.bool true) ∧ Below w.heap.size w w' := by
  obtain ⟨X0, hX⟩ : ∃ X, X = w.alloc (.cells #[.int .i64 f, .int .i64 K, .int .i64 M] 23) := ⟨_, rfl⟩
  have hh := heap_alloc_new w (.cells #[.int .i64 f, .int .i64 K, .int .i64 M] 23)
  have b0 : Below w.heap.size w X0 := by rw [hX]; exact balloc16 _ _
  have hlt : w.heap.size < X0.heap.size := by rw [hX]; simp
  rw [← hX] at hh
  have HC : Hid (∀ x, Below X0.heap.size X0 x → x.cell? ⟨w.heap.size, 0, none⟩ = some (.int .i64 f) ∧ x.cell? ⟨w.heap.size, 1, none⟩ = some (.int .i64 K) ∧ x.cell? ⟨w.heap.size, 2, none⟩ = some (.int .i64 M)) := fun x hx => by
    have c : ∀ q v, (#[.int .i64 f, .int .i64 K, .int .i64 M] : Array Value)[q]? = some v → x.cell? ⟨w.heap.size, q, none⟩ = some v := fun q v hq => by
      rw [hx.cell (p := ⟨w.heap.size, q, none⟩) hlt, cell_of_row _ _ _ _ _ _ hh]
      exact hq
    exact ⟨c 0 _ rfl, c 1 _ rfl, c 2 _ rfl⟩
  have c0 := awake16 X0
  have HX : Hid (X0 = w.alloc (.cells #[.int .i64 f, .int .i64 K, .int .i64 M] 23)) := hX
  rw [hX] at c0
  have HD : Hid (Below w.heap.size w X0) := b0
  subst hn
  have D2 : decide ((40 : Int) < K) = false := by simp; omega
  have D3 : decide ((40 : Int) < M) = false := by simp; omega
  have c1 := fun x => rparams16 f K M x
  rw [h3] at c1
  clear hX hh b0 hlt h1 h2 h3
  go_enter Try.func5, Try.ntmps5
  go_wp2_with (go_at_call 6; ((with_reducible refine (c0).mono ?_); (rintro e X1 ⟨rfl, hb⟩; have hb : Below X0.heap.size X0 X1 := (by rw [HX.out]; exact hb); obtain ⟨z0, z1, z2⟩ := HC.out X1 hb; have H1 : Hid (Below X0.heap.size X0 X1) := hb; clear hb)))
  go_quiet (fail)
  go_wp2_with (go_at_call 15; (with_reducible refine (c1 _).mono ?_); rintro e w9 ⟨rfl, hw9⟩; have hw9 := hw9.symm; subst hw9; clear c1)
  go_ret
  exact ⟨rfl, bthen16 HD.out (below_drewN H1.out _)⟩
set_option maxHeartbeats 32000000 in
set_option maxRecDepth 100000 in
theorem memory16_yes (f : Int) (K M : Nat) (a : Option Addr) (n l s cap : Nat) (D : Nat → Nat) (w : World) (X : Fx16 f K M n l s) (hD : Rb w (.slice a n cap) n D) :
    Calls Try.prog 5 #[.agg #[.int .i64 f, .int .i64 (K : Int), .int .i64 (M : Int)], .slice a n cap] w fun e w' => e = .returned (.bool true) ∧ Below w.heap.size w w' := by
  obtain ⟨X0, hX⟩ : ∃ X, X = w.alloc (.cells #[.int .i64 f, .int .i64 (K : Int), .int .i64 (M : Int)] 23) := ⟨_, rfl⟩
  have hh := heap_alloc_new w (.cells #[.int .i64 f, .int .i64 (K : Int), .int .i64 (M : Int)] 23)
  have b0 : Below w.heap.size w X0 := by rw [hX]; exact balloc16 _ _
  have hlt : w.heap.size < X0.heap.size := by rw [hX]; simp
  rw [← hX] at hh
  have HC : Hid (∀ x, Below X0.heap.size X0 x → x.cell? ⟨w.heap.size, 0, none⟩ = some (.int .i64 f) ∧ x.cell? ⟨w.heap.size, 1, none⟩ = some (.int .i64 (K : Int)) ∧ x.cell? ⟨w.heap.size, 2, none⟩ = some (.int .i64 (M : Int))) := fun x hx => by
    have c : ∀ q v, (#[.int .i64 f, .int .i64 (K : Int), .int .i64 (M : Int)] : Array Value)[q]? = some v → x.cell? ⟨w.heap.size, q, none⟩ = some v := fun q v hq => by
      rw [hx.cell (p := ⟨w.heap.size, q, none⟩) hlt, cell_of_row _ _ _ _ _ _ hh]
      exact hq
    exact ⟨c 0 _ rfl, c 1 _ rfl, c 2 _ rfl⟩
  have c0 := awake16 X0
  have HX : Hid (X0 = w.alloc (.cells #[.int .i64 f, .int .i64 (K : Int), .int .i64 (M : Int)] 23)) := hX
  rw [hX] at c0
  have HB : Hid (Below w.heap.size w X0) := b0
  have HD : Hid (Rb X0 (.slice a n cap) n D) := hD.below b0
  have HF : Hid (Fx16 f K M n l s) := X
  have D1 : decide ((64 : Int) < (n : Int)) = false := by have := X.n2; simp; omega
  have D2 : decide ((40 : Int) < (K : Int)) = false := by have := X.k2; simp; omega
  have D3 : decide ((40 : Int) < (M : Int)) = false := by have := X.m2; simp; omega
  have D4 : ((n : Int) == 0) = false := by have := X.n1; simp; omega
  have D5 : decide ((n : Int) = 0) = false := by have := X.n1; simp; omega
  have c1 : ∀ x, Below X0.heap.size X0 x → Calls Try.prog 15 #[.int .i64 f, .int .i64 (K : Int), .int .i64 (M : Int)] x fun e w' => e = .returned (.int .i64 0) ∧ Below X0.heap.size X0 w' := fun x hx => (rparams16 f K M x).mono fun e w' ⟨h1, h2⟩ => ⟨by rw [h1, X.p], by rw [h2]; exact hx⟩
  clear hX hh b0 hlt hD X
  go_enter Try.func5, Try.ntmps5
  go_wp2_with (go_at_call 6; ((with_reducible refine (c0).mono ?_); (rintro e X1 ⟨rfl, hb⟩; have hb : Below X0.heap.size X0 X1 := (by rw [HX.out]; exact hb); obtain ⟨z0, z1, z2⟩ := HC.out X1 hb; have H1 : Hid (Below X0.heap.size X0 X1) := hb; clear hb)))
  go_quiet (fail)
  go_wp2_with (first
    | (go_at_call 15; (with_reducible refine (c1 _ (below_drewN H1.out _)).mono ?_); rintro e w9 ⟨rfl, hb9⟩; obtain ⟨w1, g1, C1, w2, gw, Cw, t1, hr1, hr2, hS⟩ := mem_whole HF.out HD.out hb9 (spl l n D); have H2 : Hid _ := hS; clear hb9 hS c1 H1 HC)
    | (at_builtin; refine Lib.wpList_append_run _ rfl _ _ _ _ rfl _ _ rfl rfl _ _ hr1 ?_; clear hr1)
    | (at_builtin; refine Lib.wpList_append_run _ rfl _ _ _ _ rfl _ _ rfl rfl _ _ hr2 ?_; clear hr2; obtain ⟨w3, ge, Ce, t2, hr3, hS⟩ := mem_app2 HF.out H2.out; have hsl := head8m gw (n + 8) Cw n (Nat.le_trans (Nat.le_add_right _ _) H2.out.ob.le); have H3 : Hid _ := hS; clear hS H2)
    | (at_builtin; refine Lib.wpList_append_run _ rfl _ _ _ _ rfl _ _ rfl rfl _ _ hr3 ?_; clear hr3; have c2 := mem_want HF.out HD.out H3.out)
    | (go_at_call 16; (with_reducible refine c2.mono ?_); rintro e w9 ⟨u3, t3, rfl, h9⟩; clear c2; have H4 : Hid _ := h9; have c3 := mem_a HF.out HD.out h9; clear h9 H3 hsl)
    | (go_at_call 9; (with_reducible refine c3.mono ?_); rintro e w9 ⟨ga, Ba, t4, rfl, h9⟩; clear c3; have H5 : Hid _ := h9; have c4 := mem_b HF.out HD.out h9; clear h9 H4)
    | (go_at_call 9; (with_reducible refine c4.mono ?_); rintro e w9 ⟨gb, Bb, t5, rfl, h9⟩; clear c4; have c5 := ck5a HF.out HD.out h9; clear h9 H5)
    | (go_at_call 17; (with_reducible refine c5.mono ?_); rintro e w9 ⟨rfl, h9⟩; clear c5; have c6 := ck5b HF.out HD.out h9; clear h9)
    | (go_at_call 17; (with_reducible refine c6.mono ?_); rintro e w9 ⟨rfl, h9⟩; clear c6; have c7 := ck5w HF.out HD.out h9; clear h9)
    | (go_at_call 12; (with_reducible refine c7.mono ?_); rintro e w9 ⟨rfl, h9⟩; clear c7; have c8 := mem_x HF.out HD.out h9; clear h9)
    | (go_at_call 11; (with_reducible refine c8.mono ?_); rintro e w9 ⟨gx, t6, rfl, h9⟩; clear c8; have c9 := mem_y HF.out HD.out h9; clear h9)
    | (go_at_call 11; (with_reducible refine c9.mono ?_); rintro e w9 ⟨gy, t7, rfl, h9⟩; clear c9; have c10 := ck7x HF.out HD.out h9; clear h9)
    | (go_at_call 12; (with_reducible refine c10.mono ?_); rintro e w9 ⟨rfl, h9⟩; clear c10; have c11 := ck7y HF.out HD.out h9; clear h9)
    | (go_at_call 12; (with_reducible refine c11.mono ?_); rintro e w9 ⟨rfl, h9⟩; clear c11; have c12 := ck7a HF.out HD.out h9; clear h9)
    | (go_at_call 17; (with_reducible refine c12.mono ?_); rintro e w9 ⟨rfl, h9⟩; clear c12; have H7 : Hid _ := h9; clear h9))
  go_loopw [21] (fun iv wr => ∃ i : Nat, i ≤ n ∧ iv = .int .i64 i ∧ Sm7 X0 n l s D (tw16 n D i) (spl l n D) t1 gw Cw t2 ge Ce t3 u3 t4 ga Ba t5 gb Bb t6 gx t7 gy wr) (fun iv _ => n - (intOf iv).toNat)
  case atStart => exact ⟨0, Nat.zero_le _, rfl, Sm7.cw H7.out (fun j _ => tw16_none j)⟩
  case round =>
    obtain ⟨i, hi, rfl, hS⟩ := hrel
    clear H7
    by_cases hlt : i < n
    · have ib : ((i : Nat) : Int) < (n : Int) := by omega
      obtain ⟨q1, q2⟩ := hS.prev.prev.prev.prev.prev.prev.ob.cell (i := i) (by omega)
      have e1 : tw16 n D i i = D i := by unfold tw16; rw [if_neg (Nat.lt_irrefl _), fw16_lo hlt]
      rw [e1] at q1
      have hs : 0 < s := by have := HF.out.hs; have := HF.out.k1; omega
      have hS2 := (hS.wset hs i (tr16 D i) (tr16_lt _ _)).cw (fun j _ => tw16_next j)
      obtain ⟨z, hz⟩ : ∃ z, z = tr16 D i := ⟨_, rfl⟩
      rw [← hz] at hS2
      have m1 : IntKind.u8.wrap (IntKind.u8.wrap ((D i : Int) * 3) + 1) = (z : Int) := by rw [IntKind.wrap_u8, IntKind.wrap_u8, hz]; unfold tr16; omega
      have m2 : (((D i : Int) * 3) % 256 + 1) % 256 = (z : Int) := by rw [hz]; unfold tr16; omega
      have m3 : ((D i : Int) * 3 + 1) % 256 = (z : Int) := by rw [hz]; unfold tr16; omega
      have HS : Hid _ := hS2
      have W1 := wrap_succ8 (j := i) (by have := HF.out.n2; unfold big; omega)
      clear hS hS2 e1 hs hz
      go_wp2
      go_roundw
      case rel => exact ⟨i + 1, hlt, by first | rfl | (rw [W1]; rfl), HS.out⟩
      case measure => first | exact meas_lt8 hlt | (rw [W1]; exact meas_lt8 hlt)
    · have ib : ¬ ((i : Nat) : Int) < (n : Int) := by omega
      obtain rfl : n = i := by omega
      have hT := hS.cw (fun j _ => tw16_all j)
      obtain ⟨w3, gt, Ct, t8, hr4, hS8⟩ := mem_app8 HF.out hT
      have H8 : Hid _ := hS8
      clear hS hT hS8 hi hlt
      go_wp2_with (first
        | (at_builtin; refine Lib.wpList_append_run _ rfl _ _ _ _ rfl _ _ rfl rfl _ _ hr4 ?_; clear hr4; have c13 := mem_later HF.out HD.out H8.out; clear H8 ib)
        | (go_at_call 16; (with_reducible refine c13.mono ?_); rintro e w9 ⟨u9, t9, rfl, h9⟩; clear c13; have c14 := mem_c HF.out HD.out h9; clear h9)
        | (go_at_call 9; (with_reducible refine c14.mono ?_); rintro e w9 ⟨gc, Bc, t10, rfl, h9⟩; clear c14; have c15 := ck10c HF.out HD.out h9; clear h9)
        | (go_at_call 17; (with_reducible refine c15.mono ?_); rintro e w9 ⟨rfl, h9⟩; clear c15; have c16 := ck10a HF.out HD.out h9; clear h9)
        | (go_at_call 17; (with_reducible refine c16.mono ?_); rintro e w9 ⟨rfl, h9⟩; clear c16; have c17 := ck10b HF.out HD.out h9; clear h9)
        | (go_at_call 17; (with_reducible refine c17.mono ?_); rintro e w9 ⟨rfl, h9⟩; clear c17; have c18 := ck10x HF.out HD.out h9; clear h9)
        | (go_at_call 12; (with_reducible refine c18.mono ?_); rintro e w9 ⟨rfl, h9⟩; clear c18; have c19 := ck10w HF.out HD.out h9; clear h9)
        | (go_at_call 12; (with_reducible refine c19.mono ?_); rintro e w9 ⟨rfl, h9⟩; clear c19; have H10 : Hid _ := h9; clear h9))
      go_loopw [27] (fun iv wr => ∃ p : Nat, p ≤ K ∧ iv = .int .i64 p ∧ Sm10 X0 n l s D (fw16 n (tr16 D)) (ta16 l n D p 0) t1 gw Cw t2 ge Ce t3 u3 t4 ga Ba t5 gb Bb t6 gx t7 gy t8 gt Ct t9 u9 t10 gc Bc wr) (fun iv _ => K - (intOf iv).toNat)
      case atStart => exact ⟨0, Nat.zero_le _, rfl, Sm10.ca H10.out (fun r _ x _ => ta16_none r x)⟩
      case round =>
        obtain ⟨p, hp, rfl, hS⟩ := hrel
        clear H10
        by_cases hlt : p < K
        · have ib : ((p : Nat) : Int) < (K : Int) := by omega
          have W1 := wrap_succ8 (j := p) (by have := HF.out.k2; unfold big; omega)
          have HS : Hid _ := hS
          clear hS
          go_wp2
          go_loopw [28] (fun jv wq => ∃ q : Nat, q ≤ l ∧ jv = .int .i64 q ∧ Sm10 X0 n l s D (fw16 n (tr16 D)) (ta16 l n D p q) t1 gw Cw t2 ge Ce t3 u3 t4 ga Ba t5 gb Bb t6 gx t7 gy t8 gt Ct t9 u9 t10 gc Bc wq) (fun jv _ => l - (intOf jv).toNat)
          case atStart => exact ⟨0, Nat.zero_le _, rfl, HS.out⟩
          case round =>
            obtain ⟨q, hq, rfl, hS⟩ := hrel
            clear HS
            have hps : p < s := by have := HF.out.hs; omega
            have ips : ((p : Nat) : Int) < (s : Int) := by omega
            have r1 := hS.prev.prev.prev.prev.prev.prev.ob.list.cell hps
            by_cases hlq : q < l
            · have iq : ((q : Nat) : Int) < (l : Int) := by omega
              have W2 := wrap_succ8 (j := q) (by have := HF.out.l2; unfold big; omega)
              have r2 := hS.ob.list.cell hps
              have r3 := (hS.ob.row p hps).2.2.2.2.2.cell (i := q) hlq
              have r4 := (hS.ob.row p hps).2.2.2.2.1 q hlq
              have r5 := (hS.prev.prev.prev.prev.prev.prev.ob.row p hps).2.2.2.2.2.cell (i := q) hlq
              have r6 := (hS.prev.prev.prev.prev.prev.prev.ob.row p hps).2.2.2.2.2.frozen q
              have hs : 0 < s := by omega
              have hS2 := (hS.aset hs p q _ hps r4).ca (fun r _ x _ => ta16_step r x)
              have hS2 := hS2.below (below_drewN (Below.refl _ _) 1)
              obtain ⟨z, hz⟩ : ∃ z, z = spl l n (tr16 D) p q := ⟨_, rfl⟩
              rw [← hz] at hS2 r3
              have HS : Hid _ := hS2
              clear hS hS2 hz r4 hs hps
              go_wp2
              refine region_tail8 12 (by kernel_rfl) (by kernel_rfl) ?_
              simp only [List.take_succ_cons, List.take_zero, List.drop_succ_cons, List.drop_zero]
              repeat still_step
              refine wpStill_nil ?_
              go_wp2
              go_roundw
              case rel => exact ⟨q + 1, hlq, by first | rfl | (rw [W2]; rfl), HS.out⟩
              case measure => first | exact meas_lt8 hlq | (rw [W2]; exact meas_lt8 hlq)
            · have iq : ¬ ((q : Nat) : Int) < (l : Int) := by omega
              obtain rfl : l = q := by omega
              have HS : Hid _ := hS.ca (fun r _ x hx => ta16_next hx)
              clear hS
              go_wp2
              go_roundw
              case rel => exact ⟨p + 1, hlt, by first | rfl | (rw [W1]; rfl), HS.out⟩
              case measure => first | exact meas_lt8 hlt | (rw [W1]; exact meas_lt8 hlt)
        · have ib : ¬ ((p : Nat) : Int) < (K : Int) := by omega
          obtain rfl : K = p := by omega
          have c20 := mem_z HF.out HD.out hS
          clear hS hp hlt
          have HS0 : Hid (0 < s) := by have := HF.out.hs; have := HF.out.k1; show 0 < s; omega
          have hsb : ((0 : Nat) : Int) < (s : Int) := by have := HS0.out; omega
          go_wp2_with (first
            | (go_at_call 11; (with_reducible refine c20.mono ?_); rintro e w9 ⟨gz, t11, rfl, h9⟩; clear c20; have c21 := ck11z HF.out HD.out h9; clear h9 ib)
            | (go_at_call 12; (with_reducible refine c21.mono ?_); rintro e w9 ⟨rfl, h9⟩; clear c21; have c22 := ck11x HF.out HD.out h9; clear h9)
            | (go_at_call 12; (with_reducible refine c22.mono ?_); rintro e w9 ⟨rfl, h9⟩; clear c22; have c23 := ck11y HF.out HD.out h9; clear h9)
            | (go_at_call 12; (with_reducible refine c23.mono ?_); rintro e w9 ⟨rfl, h9⟩; clear c23; obtain ⟨v1, g1, C1, v2, g2, C2, v3, lb, C3, hr5, hr6, hr7, h11, hM⟩ := mem_lists HF.out h9; have c24 := mem_apart (C3 := C3) HF.out h11 hM; clear h9 h11 hM)
            | (at_builtin; refine Lib.wpList_append_run _ rfl _ _ _ _ rfl _ _ rfl rfl _ _ hr5 ?_; clear hr5)
            | (at_builtin; refine Lib.wpList_append_run _ rfl _ _ _ _ rfl _ _ rfl rfl _ _ hr6 ?_; clear hr6)
            | (at_builtin; refine Lib.wpList_append_run _ rfl _ _ _ _ rfl _ _ rfl rfl _ _ hr7 ?_; clear hr7)
            | (go_at_call 18; (with_reducible refine c24.mono ?_); rintro e w9 ⟨rfl, h9⟩; clear c24; have c25 := ckEw h9; clear h9)
            | (go_at_call 12; (with_reducible refine c25.mono ?_); rintro e w9 ⟨rfl, h9⟩; clear c25; have p1 := h9.list.cell (i := 0) HS0.out; have p2 := h9.list.frozen 0; have c26 := mem_partial HF.out (h9.nil HF.out); have HL : Hid _ := (h9.nil HF.out); clear h9)
            | (go_at_call 13; (with_reducible refine c26.mono ?_); rintro e w9 ⟨gs, Cs, rfl, h9, hb9, o9⟩; clear c26; have c27 := mem_partial HF.out h9; have H12 : Hid _ := And.intro (And.intro h9.bel hb9) (And.intro o9 (Nat.le_trans HL.out.bel.size (Nat.le_refl _))); clear h9 hb9 o9)
            | (go_at_call 13; (with_reducible refine c27.mono ?_); rintro e w9 ⟨gr, Cr, rfl, h9, hb9, o9⟩; clear c27; obtain ⟨y1, a1, A1, y2, a2, A2, hr8, hr9, hbe, hq1, hq2, p3, p4⟩ := mem_end h9.bel (H12.out.2.1.below hb9) o9 H12.out.2.2 H12.out.2.1.lt; have c28 := si16_true _ _ 1 _ _ _ hq1 hq2 (fun _ _ => rfl); have H13 : Hid _ := hbe; clear h9 hb9 o9 hbe hq1 hq2 H12 HL)
            | (at_builtin; refine Lib.wpList_append_run _ rfl _ _ _ _ rfl _ _ rfl rfl _ _ hr8 ?_; clear hr8)
            | (at_builtin; refine Lib.wpList_append_run _ rfl _ _ _ _ rfl _ _ rfl rfl _ _ hr9 ?_; clear hr9)
            | (go_at_call 19; (with_reducible refine c28.mono ?_); rintro e w9 ⟨rfl, mm, hw9⟩; subst hw9; clear c28))
          go_ret
          exact ⟨rfl, bthen16 HB.out (below_drewN H13.out _)⟩
theorem memory16 (f K M : Int) (a : Option Addr) (n cap : Nat) (w : World) (hf : I64 f) (hk : I64 K) (hm : I64 M) (h : Rbm w a n cap) :
    Calls Try.prog 5 #[.agg #[.int .i64 f, .int .i64 K, .int .i64 M], .slice a n cap] w fun e w' => e = .returned (.bool true) ∧ Below w.heap.size w w' := by
  obtain ⟨-, D, hD⟩ := h
  by_cases h0 : 64 < n
  · exact memory16_a f K M a n cap w h0
  by_cases h1 : 40 < K
  · exact memory16_b f K M a n cap w h0 h1
  by_cases h2 : 40 < M
  · exact memory16_c f K M a n cap w h0 h1 h2
  by_cases h3 : prm f K M = 0
  · by_cases h4 : n = 0
    · exact memory16_e f K M a n cap w h4 h1 h2 h3
    obtain ⟨k, m, rfl, rfl⟩ := prm_nat h3
    have hv := prm_ok.1 h3
    have k1 : 1 ≤ k := by have := hv.hk; omega
    have m1 : 1 ≤ m := by have := hv.hm; omega
    have hge := ln16_ge f (k := k) (n := n) k1
    have hle := ln16_le f (k := k) (n := n) k1
    have he : lne f k m n = 0 := by
      unfold lne
      rw [if_pos h3, if_neg (by omega), if_neg (by omega)]
    refine memory16_yes f k m a n (ln16 f k n) (k + m) cap D w ⟨h3, he, rfl, rfl, k1, by omega, m1, by omega, by omega, by omega, ?_, by omega, hge, fun e => ?_⟩ hD
    · rcases Nat.eq_zero_or_pos (ln16 f k n) with e | e
      · rw [e, Nat.mul_zero] at hge; omega
      · exact e
    · unfold ln16; rw [if_pos e]; omega
  · exact memory16_d f K M a n cap w h0 h1 h2 h3
end Go.Proofs.Ytldacjpkblffbab
