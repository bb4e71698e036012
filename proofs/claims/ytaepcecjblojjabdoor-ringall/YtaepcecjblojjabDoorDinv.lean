import Derived.Test.YtaepcecjblojjabDoorDbez
import Derived.Test.YtaepcecjblojjabDoorDall
namespace Go.Proofs.YtaepcecjblojjabDoor
open Go.RowKit Gf2

theorem comb_inv {a p : Nat} (hp0 : p ≠ 0) (h2 : 2 ≤ len p) (h33 : len p ≤ 33) (hg : pgcd (pmod a p) p = 1) : (comb a 1 p (len p - 1)).1 = 0 ∧ (comb a 1 p (len p - 1)).2 = cof (pmod a p) p := by
  obtain ⟨h1, h3⟩ := inv_exists hp0 (by omega) hg
  have h4 : pmod (mul (cof (pmod a p) p) a) p = pmod 1 p := by
    rw [← pmod_mul_right _ _ hp0]; exact (pmod_eq_iff hp0).2 h1
  have h0 := comb_finds (a := a) (want := 1) (n := len p - 1) hp0 (by omega) h4
  refine ⟨h0, ?_⟩
  have h5 := comb_solves (a := a) (want := 1) (n := len p - 1) hp0 h0
  have h6 := (comb_fits (a := a) (want := 1) (n := len p - 1) hp0).2
  apply cof_unique hp0 (by omega)
  · rw [hg, len_one]; omega
  · rw [hg]; apply (pmod_eq_iff hp0).1; rw [pmod_mul_right _ _ hp0]; exact h5
theorem comb_noinv {a p : Nat} (hp0 : p ≠ 0) (hg : pgcd (pmod a p) p ≠ 1) (n : Nat) : (comb a 1 p n).1 ≠ 0 := by
  intro h0
  have h5 := (pmod_eq_iff hp0).1 (comb_solves (a := a) (want := 1) (n := n) hp0 h0)
  apply hg
  rw [pgcd_pmod hp0]
  obtain ⟨d1, d2⟩ := pgcd_dv a p
  have h6 := dv_xor (dv_trans d2 h5) (dv_mul_left (comb a 1 p n).2 d1)
  have e : mul (comb a 1 p n).2 a ^^^ 1 ^^^ mul (comb a 1 p n).2 a = 1 ^^^ (mul (comb a 1 p n).2 a ^^^ mul (comb a 1 p n).2 a) := by ac_rfl
  rw [e, Nat.xor_self, Nat.xor_zero] at h6
  exact dv_one h6

set_option maxHeartbeats 1000000 in
theorem refInvMod_yes (a p : Nat) (w : World) (ha : a < 18446744073709551616) (hp : p < 18446744073709551616) (h : isMod p 32 = true) (hg : pgcd (pmod a p) p = 1) :
    Calls Tryd.prog 33 #[.int .u64 (a : Int), .int .u64 (p : Int)] w fun e w' => e = .returned (.tuple #[.int .u64 (cof (pmod a p) p : Nat), .int .i64 0]) ∧ Below w.heap.size w w' := by
  have hp0 := isMod_ne h
  have hm := isMod_true h
  obtain ⟨k1, k2⟩ := comb_inv hp0 hm.1 hm.2 hg
  have c1 := fun w => combine_nat a 1 p (len p - 1) w ha (by decide) hp hp0 hm.2 (by omega)
  rw [k1, k2] at c1
  have c3 : ∀ w, Calls Tryd.prog 47 #[.int .u64 (a : Int), .int .u64 1, .int .u64 (p : Int), .int .i64 ((len p - 1 : Nat) : Int)] w fun e w' => e = .returned (.tuple #[.int .u64 (cof (pmod a p) p : Nat), .bool true]) ∧ Below w.heap.size w w' := c1
  have hd : ((len p : Int) - 1) = ((len p - 1 : Nat) : Int) := by omega
  clear k1 k2 hg c1
  go_enter Tryd.func33, Tryd.ntmps33
  go_wp2_with (first | (go_at_call 48; refine (modulus_nat _ 32 _ hp).mono ?_; rw [h]; rintro e w' ⟨rfl, rfl⟩) | (go_at_call 22; refine (refDegree_nat _ _ hp).mono ?_; rintro e w' ⟨rfl, rfl⟩) | (go_at_call 47; with_reducible refine (c3 _).mono ?_; rintro e w1 ⟨rfl, hb1⟩))
  go_ret2
  exact ⟨rfl, hb1⟩
set_option maxHeartbeats 1000000 in
theorem refInvMod_none (a p : Nat) (w : World) (ha : a < 18446744073709551616) (hp : p < 18446744073709551616) (h : isMod p 32 = true) (hg : pgcd (pmod a p) p ≠ 1) :
    Calls Tryd.prog 33 #[.int .u64 (a : Int), .int .u64 (p : Int)] w fun e w' => e = .returned (.tuple #[.int .u64 0, .int .i64 12]) ∧ Below w.heap.size w w' := by
  have hp0 := isMod_ne h
  have hm := isMod_true h
  have k1 := comb_noinv (a := a) hp0 hg (len p - 1)
  have c1 := fun w => combine_nat a 1 p (len p - 1) w ha (by decide) hp hp0 hm.2 (by omega)
  rw [show decide ((comb a 1 p (len p - 1)).1 = 0) = false by simpa using k1] at c1
  have c3 : ∀ w, Calls Tryd.prog 47 #[.int .u64 (a : Int), .int .u64 1, .int .u64 (p : Int), .int .i64 ((len p - 1 : Nat) : Int)] w fun e w' => e = .returned (.tuple #[.int .u64 ((comb a 1 p (len p - 1)).2 : Nat), .bool false]) ∧ Below w.heap.size w w' := c1
  have hd : ((len p : Int) - 1) = ((len p - 1 : Nat) : Int) := by omega
  clear k1 hg c1
  go_enter Tryd.func33, Tryd.ntmps33
  go_wp2_with (first | (go_at_call 48; refine (modulus_nat _ 32 _ hp).mono ?_; rw [h]; rintro e w' ⟨rfl, rfl⟩) | (go_at_call 22; refine (refDegree_nat _ _ hp).mono ?_; rintro e w' ⟨rfl, rfl⟩) | (go_at_call 47; with_reducible refine (c3 _).mono ?_; rintro e w1 ⟨rfl, hb1⟩))
  go_ret2
  exact ⟨rfl, hb1⟩
set_option maxHeartbeats 400000 in
theorem refInvMod_no (a p : Nat) (w : World) (hp : p < 18446744073709551616) (h : isMod p 32 = false) :
    Calls Tryd.prog 33 #[.int .u64 (a : Int), .int .u64 (p : Int)] w fun e w' => e = .returned (.tuple #[.int .u64 0, .int .i64 11]) ∧ Below w.heap.size w w' := by
  go_enter Tryd.func33, Tryd.ntmps33
  go_wp2_with (go_at_call 48; refine (modulus_nat _ 32 _ hp).mono ?_; rw [h]; rintro e w' ⟨rfl, rfl⟩)
  go_ret2
  exact ⟨rfl, Below.refl _ _⟩
set_option maxHeartbeats 400000 in
theorem invmod_no (a p : Nat) (w : World) (hp : p < 18446744073709551616) (h : isMod p 32 = false) :
    Calls Tryd.prog 32 #[.int .u64 (a : Int), .int .u64 (p : Int)] w fun e w' => e = .returned (.tuple #[.int .u64 0, .int .i64 11]) ∧ w' = w := by
  go_enter Tryd.func32, Tryd.ntmps32
  go_wp2_with (go_at_call 12; refine (isModulus_nat _ 32 _ hp (by decide)).mono ?_; rw [h]; rintro e w' ⟨rfl, rfl⟩)
  go_ret2
  exact ⟨rfl, rfl⟩
set_option maxHeartbeats 400000 in
theorem mulmod_no (a b p : Nat) (w : World) (hp : p < 18446744073709551616) (h : isMod p 32 = false) :
    Calls Tryd.prog 7 #[.int .u64 (a : Int), .int .u64 (b : Int), .int .u64 (p : Int)] w fun e w' => e = .returned (.tuple #[.int .u64 0, .int .i64 11]) ∧ w' = w := by
  go_enter Tryd.func7, Tryd.ntmps7
  go_wp2_with (go_at_call 12; refine (isModulus_nat _ 32 _ hp (by decide)).mono ?_; rw [h]; rintro e w' ⟨rfl, rfl⟩)
  go_ret2
  exact ⟨rfl, rfl⟩
set_option maxHeartbeats 400000 in
theorem powmod_no (a n p : Nat) (w : World) (hp : p < 18446744073709551616) (h : isMod p 32 = false) :
    Calls Tryd.prog 30 #[.int .u64 (a : Int), .int .u64 (n : Int), .int .u64 (p : Int)] w fun e w' => e = .returned (.tuple #[.int .u64 0, .int .i64 11]) ∧ w' = w := by
  go_enter Tryd.func30, Tryd.ntmps30
  go_wp2_with (go_at_call 12; refine (isModulus_nat _ 32 _ hp (by decide)).mono ?_; rw [h]; rintro e w' ⟨rfl, rfl⟩)
  go_ret2
  exact ⟨rfl, rfl⟩

/-- both answer alike, whatever the arguments are. -/
theorem mulmod_both (a b p : Nat) (ha : a < 18446744073709551616) (hb : b < 18446744073709551616) (hp : p < 18446744073709551616) : ∃ (x e : Nat),
    (∀ w, Calls Tryd.prog 7 #[.int .u64 (a : Int), .int .u64 (b : Int), .int .u64 (p : Int)] w fun r w' => r = .returned (.tuple #[.int .u64 (x : Int), .int .i64 (e : Int)]) ∧ w' = w) ∧
    (∀ w, Calls Tryd.prog 29 #[.int .u64 (a : Int), .int .u64 (b : Int), .int .u64 (p : Int)] w fun r w' => r = .returned (.tuple #[.int .u64 (x : Int), .int .i64 (e : Int)]) ∧ w' = w) ∧ e < 100 := by
  cases h : isMod p 32 with
  | false => exact ⟨0, 11, fun w => mulmod_no a b p w hp h, fun w => refMulMod_no a b p w hp h, by decide⟩
  | true =>
    have hp0 := isMod_ne h
    have hm := isMod_true h
    have e : pmod (prod (pmod a p) (pmod b p)) p = pmod (mul a b) p := by
      have := tm_eq hm.2 (len_pmod a hp0) (len_pmod b hp0)
      unfold tm at this
      rw [this, pmod_mul_both _ _ hp0]
    refine ⟨pmod (mul a b) p, 0, fun w => ?_, fun w => refMulMod_yes a b p w ha hb hp h, by decide⟩
    have := mulmod_yes a b p w ha hb hp h
    rw [e] at this
    exact this
theorem powmod_both (a n p : Nat) (ha : a < 18446744073709551616) (hn : n < 18446744073709551616) (hp : p < 18446744073709551616) : ∃ (x e : Nat),
    (∀ w, Calls Tryd.prog 30 #[.int .u64 (a : Int), .int .u64 (n : Int), .int .u64 (p : Int)] w fun r w' => r = .returned (.tuple #[.int .u64 (x : Int), .int .i64 (e : Int)]) ∧ w' = w) ∧
    (∀ w, Calls Tryd.prog 31 #[.int .u64 (a : Int), .int .u64 (n : Int), .int .u64 (p : Int)] w fun r w' => r = .returned (.tuple #[.int .u64 (x : Int), .int .i64 (e : Int)]) ∧ w' = w) ∧ e < 100 := by
  cases h : isMod p 32 with
  | false => exact ⟨0, 11, fun w => powmod_no a n p w hp h, fun w => refPowMod_no a n p w hp h, by decide⟩
  | true =>
    have hm := isMod_true h
    refine ⟨pmod (pw a n) p, 0, fun w => ?_, fun w => refPowMod_yes a n p w ha hn hp h, by decide⟩
    have := powmod_yes a n p w ha hn hp h
    rw [powM_spec hm.1 hm.2] at this
    exact this
theorem invmod_both (a p : Nat) (ha : a < 18446744073709551616) (hp : p < 18446744073709551616) : ∃ (x e : Nat),
    (∀ w, Calls Tryd.prog 32 #[.int .u64 (a : Int), .int .u64 (p : Int)] w fun r w' => r = .returned (.tuple #[.int .u64 (x : Int), .int .i64 (e : Int)]) ∧ w' = w) ∧
    (∀ w, Calls Tryd.prog 33 #[.int .u64 (a : Int), .int .u64 (p : Int)] w fun r w' => r = .returned (.tuple #[.int .u64 (x : Int), .int .i64 (e : Int)]) ∧ Below w.heap.size w w') ∧ e < 100 := by
  cases h : isMod p 32 with
  | false => exact ⟨0, 11, fun w => invmod_no a p w hp h, fun w => refInvMod_no a p w hp h, by decide⟩
  | true =>
    by_cases hg : pgcd (pmod a p) p = 1
    · exact ⟨_, 0, fun w => invmod_yes a p w ha hp h hg, fun w => refInvMod_yes a p w ha hp h hg, by decide⟩
    · exact ⟨0, 12, fun w => invmod_none a p w ha hp h hg, fun w => refInvMod_none a p w ha hp h hg, by decide⟩

set_option maxHeartbeats 1000000 in
theorem residues_any (k : Int) (x y z : Nat) (s : ByteArray) (w : World) (hx : x < 18446744073709551616) (hy : y < 18446744073709551616) (hz : z < 18446744073709551616) (hk : k = 6 ∨ k = 7 ∨ k = 8) :
    Calls Tryd.prog 19 #[.agg #[.int .i64 k, .int .u64 (x : Int), .int .u64 (y : Int), .int .u64 (z : Int), .string s]] w fun e w' => e = .returned (.bool true) ∧ Below w.heap.size w w' := by
  rcases hk with rfl | rfl | rfl
  · obtain ⟨v, e, c1, c2, he⟩ := mulmod_both x y z hx hy hz
    go_enter Tryd.func19, Tryd.ntmps19
    go_wp2_with (first | (go_at_call 7; with_reducible refine (c1 _).mono ?_; rintro e w1 ⟨rfl, rfl⟩) | (go_at_call 29; with_reducible refine (c2 _).mono ?_; rintro e w1 ⟨rfl, rfl⟩))
    go_ret
    exact ⟨ret_bool (by simp), (Below.refl _ _).alloc (Nat.le_refl _) _⟩
  · obtain ⟨v, e, c1, c2, he⟩ := powmod_both x y z hx hy hz
    go_enter Tryd.func19, Tryd.ntmps19
    go_wp2_with (first | (go_at_call 30; with_reducible refine (c1 _).mono ?_; rintro e w1 ⟨rfl, rfl⟩) | (go_at_call 31; with_reducible refine (c2 _).mono ?_; rintro e w1 ⟨rfl, rfl⟩))
    go_ret
    exact ⟨ret_bool (by simp), (Below.refl _ _).alloc (Nat.le_refl _) _⟩
  · obtain ⟨v, e, c1, c2, he⟩ := invmod_both x z hx hz
    go_enter Tryd.func19, Tryd.ntmps19
    go_wp2_with (first | (go_at_call 32; with_reducible refine (c1 _).mono ?_; rintro e w1 ⟨rfl, rfl⟩) | (go_at_call 33; with_reducible refine (c2 _).mono ?_; rintro e w1 ⟨rfl, hb1⟩))
    go_ret
    exact ⟨ret_bool (by simp), ((Below.refl _ _).alloc (Nat.le_refl _) _).trans (hb1.mono (by simp))⟩

set_option maxHeartbeats 1000000 in
theorem plays_residues : PlaysOk 6 8 := by
  intro k x y z s w h1 h2 hx hy hz hs
  have hk : k = 6 ∨ k = 7 ∨ k = 8 := by omega
  have c1 := fun w => residues_any k x y z s w hx hy hz hk
  rcases hk with rfl | rfl | rfl
  all_goals
    go_enter Tryd.func10, Tryd.ntmps10
    go_wp2_with (go_at_call 19; with_reducible refine (c1 _).mono ?_; rintro e w1 ⟨rfl, hb1⟩)
    go_ret
    exact ⟨rfl, ((Below.refl _ _).alloc (Nat.le_refl _) _).trans (hb1.mono (by simp))⟩

end Go.Proofs.YtaepcecjblojjabDoor
