import Derived.Test.YtaepcecjblojjabDoorDkin
namespace Go.Proofs.YtaepcecjblojjabDoor
open Go.RowKit Gf2

set_option maxHeartbeats 400000 in
theorem refOrder_no (a p : Nat) (w : World) (hp : p < 18446744073709551616) (h : isMod p 16 = false) :
    Calls Tryd.prog 37 #[.int .u64 (a : Int), .int .u64 (p : Int)] w fun e w' => e = .returned (.tuple #[.int .i64 0, .int .i64 11]) ∧ w' = w := by
  go_enter Tryd.func37, Tryd.ntmps37
  go_wp2_with (go_at_call 48; refine (modulus_nat _ 16 _ hp).mono ?_; rw [h]; rintro e w' ⟨rfl, rfl⟩)
  go_ret2
  exact ⟨rfl, rfl⟩
set_option maxHeartbeats 400000 in
theorem refOrder_none (a p : Nat) (w : World) (ha : a < 18446744073709551616) (hp : p < 18446744073709551616) (h : isMod p 16 = true) (hg : pgcd a p ≠ 1) :
    Calls Tryd.prog 37 #[.int .u64 (a : Int), .int .u64 (p : Int)] w fun e w' => e = .returned (.tuple #[.int .i64 0, .int .i64 12]) ∧ w' = w := by
  have T : (((pgcd a p : Nat) : Int) != 1) = true := by simp; omega
  clear hg
  go_enter Tryd.func37, Tryd.ntmps37
  go_wp2_with (first | (go_at_call 48; refine (modulus_nat _ 16 _ hp).mono ?_; rw [h]; rintro e w' ⟨rfl, rfl⟩) | (go_at_call 26; refine (refGcd_nat _ _ _ ha hp).mono ?_; rintro e w' ⟨rfl, rfl⟩))
  go_ret2
  exact ⟨rfl, rfl⟩
set_option maxHeartbeats 400000 in
theorem refOrder_yes (a p n : Nat) (w : World) (ha : a < 18446744073709551616) (hp : p < 18446744073709551616) (h : isMod p 16 = true) (hg : pgcd a p = 1) (hn : IsOrd a p n) (hb : n ≤ 65535) :
    Calls Tryd.prog 37 #[.int .u64 (a : Int), .int .u64 (p : Int)] w fun e w' => e = .returned (.tuple #[.int .i64 (n : Int), .int .i64 0]) ∧ w' = w := by
  have c1 := fun w => refGcd_nat a p w ha hp
  rw [hg] at c1
  have c3 : ∀ w, Calls Tryd.prog 26 #[.int .u64 (a : Int), .int .u64 (p : Int)] w fun e w' => e = .returned (.int .u64 1) ∧ w' = w := c1
  have c2 := fun w => refOrd_yes a p n w ha hp h hn hb
  clear c1 hg
  go_enter Tryd.func37, Tryd.ntmps37
  go_wp2_with (first | (go_at_call 48; refine (modulus_nat _ 16 _ hp).mono ?_; rw [h]; rintro e w' ⟨rfl, rfl⟩) | (go_at_call 26; with_reducible refine (c3 _).mono ?_; rintro e w' ⟨rfl, rfl⟩) | (go_at_call 51; with_reducible refine (c2 _).mono ?_; rintro e w' ⟨rfl, rfl⟩))
  go_ret2
  exact ⟨rfl, rfl⟩

theorem order_both (a p : Nat) (ha : a < 18446744073709551616) (hp : p < 18446744073709551616) : ∃ (x e : Nat),
    (∀ w, Calls Tryd.prog 36 #[.int .u64 (a : Int), .int .u64 (p : Int)] w fun r w' => r = .returned (.tuple #[.int .i64 (x : Int), .int .i64 (e : Int)]) ∧ w' = w) ∧
    (∀ w, Calls Tryd.prog 37 #[.int .u64 (a : Int), .int .u64 (p : Int)] w fun r w' => r = .returned (.tuple #[.int .i64 (x : Int), .int .i64 (e : Int)]) ∧ w' = w) ∧ e < 100 := by
  cases h : isMod p 16 with
  | false => exact ⟨0, 11, fun w => order_no a p w hp h, fun w => refOrder_no a p w hp h, by decide⟩
  | true =>
    have hm := isMod_true h
    by_cases hg : pgcd a p = 1
    · obtain ⟨n, hn, hb⟩ := ord_exists hm.1 (by omega) hg
      have := pow_bound hm.1 hm.2
      exact ⟨n, 0, fun w => order_yes a p n w ha hp h hg hn (by omega), fun w => refOrder_yes a p n w ha hp h hg hn (by omega), by decide⟩
    · exact ⟨0, 12, fun w => order_none a p w ha hp h hg, fun w => refOrder_none a p w ha hp h hg, by decide⟩

theorem irreducible_both (p : Nat) (hp : p < 18446744073709551616) : ∃ (x : Bool) (e : Nat),
    (∀ w, Calls Tryd.prog 34 #[.int .u64 (p : Int)] w fun r w' => r = .returned (.tuple #[.bool x, .int .i64 (e : Int)]) ∧ w' = w) ∧
    (∀ w, Calls Tryd.prog 35 #[.int .u64 (p : Int)] w fun r w' => r = .returned (.tuple #[.bool x, .int .i64 (e : Int)]) ∧ w' = w) ∧ e < 100 := by
  cases h : isMod p 32 with
  | false => exact ⟨false, 11, fun w => irreducible_no p w hp h, fun w => refIrreducible_no p w hp h, by decide⟩
  | true => exact ⟨irr p, 0, fun w => irreducible_yes p w hp h, fun w => refIrreducible_yes p w hp h, by decide⟩

/-- x's order by both, where p is irreducible. -/
theorem ord2_both (p : Nat) (hp : p < 18446744073709551616) (h : isMod p 16 = true) (hi : irr p = true) : ∃ (o e : Nat),
    (∀ w, Calls Tryd.prog 36 #[.int .u64 2, .int .u64 (p : Int)] w fun r w' => r = .returned (.tuple #[.int .i64 (o : Int), .int .i64 (e : Int)]) ∧ w' = w) ∧
    (∀ w, Calls Tryd.prog 51 #[.int .u64 2, .int .u64 (p : Int)] w fun r w' => r = .returned (.int .i64 (o : Int)) ∧ w' = w) := by
  have hm := isMod_true h
  have hI := irr_sound hm.1 (by omega) hi
  have hp0 := hI.ne
  by_cases hg : pgcd 2 p = 1
  · obtain ⟨n, hn, hb⟩ := ord_exists hm.1 (by omega) hg
    have := pow_bound hm.1 hm.2
    exact ⟨n, 0, fun w => order_yes 2 p n w (by decide) hp h hg hn (by omega), fun w => refOrd_yes 2 p n w (by decide) hp h hn (by omega)⟩
  · refine ⟨0, 12, fun w => order_none 2 p w (by decide) hp h hg, fun w => refOrd_none 2 p w (by decide) hp h ?_⟩
    intro n hn e
    rcases irr_gcd hI 2 with g | g
    · exact hg g
    · obtain ⟨m, rfl⟩ : ∃ m, n = m + 1 := ⟨n - 1, by omega⟩
      have : pmod (pw 2 (m + 1)) p = 0 := (pmod_eq_zero hp0).2 (dv_mul_right _ g)
      rw [this] at e; cases e

set_option maxHeartbeats 400000 in
theorem refPrimitive_no (p : Nat) (w : World) (hp : p < 18446744073709551616) (h : isMod p 16 = false) :
    Calls Tryd.prog 39 #[.int .u64 (p : Int)] w fun e w' => e = .returned (.tuple #[.bool false, .int .i64 11]) ∧ w' = w := by
  go_enter Tryd.func39, Tryd.ntmps39
  go_wp2_with (go_at_call 48; refine (modulus_nat _ 16 _ hp).mono ?_; rw [h]; rintro e w' ⟨rfl, rfl⟩)
  go_ret2
  exact ⟨rfl, rfl⟩
set_option maxHeartbeats 400000 in
theorem refPrimitive_red (p : Nat) (w : World) (hp : p < 18446744073709551616) (h : isMod p 16 = true) (hi : irr p = false) :
    Calls Tryd.prog 39 #[.int .u64 (p : Int)] w fun e w' => e = .returned (.tuple #[.bool false, .int .i64 0]) ∧ w' = w := by
  have c1 := fun w => refIrr_nat p w hp (isMod_16_32 h)
  rw [hi] at c1
  go_enter Tryd.func39, Tryd.ntmps39
  go_wp2_with (first | (go_at_call 48; refine (modulus_nat _ 16 _ hp).mono ?_; rw [h]; rintro e w' ⟨rfl, rfl⟩) | (go_at_call 50; with_reducible refine (c1 _).mono ?_; rintro e w' ⟨rfl, rfl⟩))
  go_ret2
  exact ⟨rfl, rfl⟩
set_option maxHeartbeats 400000 in
theorem refPrimitive_irr (p o : Nat) (w : World) (hp : p < 18446744073709551616) (h : isMod p 16 = true) (hi : irr p = true)
    (c2 : ∀ w, Calls Tryd.prog 51 #[.int .u64 2, .int .u64 (p : Int)] w fun r w' => r = .returned (.int .i64 (o : Int)) ∧ w' = w) :
    Calls Tryd.prog 39 #[.int .u64 (p : Int)] w fun e w' => e = .returned (.tuple #[.bool (primB p o), .int .i64 0]) ∧ w' = w := by
  have c1 := fun w => refIrr_nat p w hp (isMod_16_32 h)
  rw [hi] at c1
  have hm := isMod_true h
  go_enter Tryd.func39, Tryd.ntmps39
  go_wp2_with (first | (go_at_call 48; refine (modulus_nat _ 16 _ hp).mono ?_; rw [h]; rintro e w' ⟨rfl, rfl⟩) | (go_at_call 50; with_reducible refine (c1 _).mono ?_; rintro e w' ⟨rfl, rfl⟩) | (go_at_call 51; with_reducible refine (c2 _).mono ?_; rintro e w' ⟨rfl, rfl⟩) | (go_at_call 22; refine (refDegree_nat _ _ hp).mono ?_; rintro e w' ⟨rfl, rfl⟩))
  go_ret2
  exact ⟨ret2_bool (primB_eq hm.1 hm.2), rfl⟩

theorem primitive_both (p : Nat) (hp : p < 18446744073709551616) : ∃ (x : Bool) (e : Nat),
    (∀ w, Calls Tryd.prog 38 #[.int .u64 (p : Int)] w fun r w' => r = .returned (.tuple #[.bool x, .int .i64 (e : Int)]) ∧ w' = w) ∧
    (∀ w, Calls Tryd.prog 39 #[.int .u64 (p : Int)] w fun r w' => r = .returned (.tuple #[.bool x, .int .i64 (e : Int)]) ∧ w' = w) ∧ e < 100 := by
  cases h : isMod p 16 with
  | false => exact ⟨false, 11, fun w => primitive_no p w hp h, fun w => refPrimitive_no p w hp h, by decide⟩
  | true =>
    cases hi : irr p with
    | false => exact ⟨false, 0, fun w => primitive_red p w hp h hi, fun w => refPrimitive_red p w hp h hi, by decide⟩
    | true =>
      obtain ⟨o, e, c1, c2⟩ := ord2_both p hp h hi
      exact ⟨primB p o, 0, fun w => primitive_irr p o e w hp h hi (c1 w), fun w => refPrimitive_irr p o w hp h hi c2, by decide⟩

set_option maxHeartbeats 1000000 in
theorem kinds_any (k : Int) (x y z : Nat) (s : ByteArray) (w : World) (hx : x < 18446744073709551616) (hz : z < 18446744073709551616) (hk : k = 9 ∨ k = 10 ∨ k = 11) :
    Calls Tryd.prog 20 #[.agg #[.int .i64 k, .int .u64 (x : Int), .int .u64 (y : Int), .int .u64 (z : Int), .string s]] w fun e w' => e = .returned (.bool true) ∧ Below w.heap.size w w' := by
  rcases hk with rfl | rfl | rfl
  · obtain ⟨v, e, c1, c2, he⟩ := irreducible_both z hz
    go_enter Tryd.func20, Tryd.ntmps20
    go_wp2_with (first | (go_at_call 34; with_reducible refine (c1 _).mono ?_; rintro e w1 ⟨rfl, rfl⟩) | (go_at_call 35; with_reducible refine (c2 _).mono ?_; rintro e w1 ⟨rfl, rfl⟩))
    go_ret
    exact ⟨ret_bool (by simp), (Below.refl _ _).alloc (Nat.le_refl _) _⟩
  · obtain ⟨v, e, c1, c2, he⟩ := order_both x z hx hz
    go_enter Tryd.func20, Tryd.ntmps20
    go_wp2_with (first | (go_at_call 36; with_reducible refine (c1 _).mono ?_; rintro e w1 ⟨rfl, rfl⟩) | (go_at_call 37; with_reducible refine (c2 _).mono ?_; rintro e w1 ⟨rfl, rfl⟩))
    go_ret
    exact ⟨ret_bool (by simp), (Below.refl _ _).alloc (Nat.le_refl _) _⟩
  · obtain ⟨v, e, c1, c2, he⟩ := primitive_both z hz
    go_enter Tryd.func20, Tryd.ntmps20
    go_wp2_with (first | (go_at_call 38; with_reducible refine (c1 _).mono ?_; rintro e w1 ⟨rfl, rfl⟩) | (go_at_call 39; with_reducible refine (c2 _).mono ?_; rintro e w1 ⟨rfl, rfl⟩))
    go_ret
    exact ⟨ret_bool (by simp), (Below.refl _ _).alloc (Nat.le_refl _) _⟩

set_option maxHeartbeats 1000000 in
theorem plays_kinds : PlaysOk 9 11 := by
  intro k x y z s w h1 h2 hx hy hz hs
  have hk : k = 9 ∨ k = 10 ∨ k = 11 := by omega
  have c1 := fun w => kinds_any k x y z s w hx hz hk
  rcases hk with rfl | rfl | rfl
  all_goals
    go_enter Tryd.func10, Tryd.ntmps10
    go_wp2_with (go_at_call 20; with_reducible refine (c1 _).mono ?_; rintro e w1 ⟨rfl, hb1⟩)
    go_ret
    exact ⟨rfl, ((Below.refl _ _).alloc (Nat.le_refl _) _).trans (hb1.mono (by simp))⟩

end Go.Proofs.YtaepcecjblojjabDoor
