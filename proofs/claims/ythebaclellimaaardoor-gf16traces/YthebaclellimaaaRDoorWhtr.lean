import Derived.Test.YthebaclellimaaaRDoorWhfi
import Derived.Test.YthebaclellimaaaRDoorWalki
namespace Go.Proofs.YthebaclellimaaaRDoor
open Go.RowKit Gf2

theorem rr_hs {a : Nat} (ha : a < 65536) : rr (hs 65581 a) = a / 2 * 2 ∧ re (hs 65581 a) = 0 := by
  have ht := fld16.tr_hs ha
  obtain ⟨h1, h2⟩ := rr_yes ht
  refine ⟨?_, h2⟩
  rw [h1]
  refine (root16_only (by omega) (by omega) ?_).symm
  rcases Nat.mod_two_eq_zero_or_one a with e | e
  · rw [show a / 2 * 2 = a by omega]
  · have h3 : (a ^^^ 1) % 2 = 0 := by rw [xor_one_mod, e]
    have h4 : (a ^^^ 1) / 2 = a / 2 := by rw [half_xor]; simp
    rw [show a / 2 * 2 = a ^^^ 1 by omega, fld16.hs_xor, fld16.hs_one, Nat.xor_zero]
theorem and_fffe {a : Nat} (ha : a < 65536) : bits BinOp.and IntKind.u16 (a : Int) 65534 = ((a / 2 * 2 : Nat) : Int) := by
  have h := u16_and_nat a 65534 ha (by decide)
  have e : a &&& 65534 = a / 2 * 2 := by
    have := nat_hi16_1 a
    rw [this]; omega
  rw [e] at h
  exact h

set_option maxHeartbeats 4000000 in
set_option maxRecDepth 10000 in
theorem rooted_nat (a : Nat) (w : World) (ha : a < 65536) (hC : Cant w) :
    Calls Tryd.prog 11 #[.int .u16 (a : Int)] w fun e w' => e = .returned (.bool true) ∧ w' = w := by
  have c1 := hroot_nat a w ha hC
  have c2 := htrace_nat a w ha
  have c3 := hmul_nat a a w ha ha
  have lh : fm 65581 a a ^^^ a < 65536 := xor16_lt (fm16_lt _ _) ha
  have X1 := u16_xor_nat (fm 65581 a a) a (fm16_lt _ _) ha
  have c4 := hroot_nat (fm 65581 a a ^^^ a) w lh hC
  obtain ⟨r1, r2⟩ := rr_hs ha
  have r1 : rr (fm 65581 a a ^^^ a) = a / 2 * 2 := r1
  have r2 : re (fm 65581 a a ^^^ a) = 0 := r2
  rw [r1, r2] at c4
  have A1 := and_fffe ha
  have l1 := fm16_lt a a
  clear r1 r2
  obtain ⟨q, hq⟩ : ∃ q, q = a / 2 * 2 := ⟨_, rfl⟩
  rw [← hq] at c4 A1
  clear hq
  rcases fld16.tr_bit ha with ht | ht
  · obtain ⟨y1, y2⟩ := rr_yes ht
    rw [ht] at c2
    rw [y1, y2] at c1
    have ly := rt16_lt a
    have hev := rt16_even a
    have hr : fm 65581 (rt16 a) (rt16 a) ^^^ rt16 a = a := root16 ha ht
    have c5 := hmul_nat (rt16 a) (rt16 a) w ly ly
    have X2 := u16_xor_nat (fm 65581 (rt16 a) (rt16 a)) (rt16 a) (fm16_lt _ _) ly
    rw [hr] at X2
    have l2 := fm16_lt (rt16 a) (rt16 a)
    have E2 : ((rt16 a : Nat) : Int) % 2 = 0 := by omega
    clear hr y1 y2 ht hev
    go_enter Tryd.func11, Tryd.ntmps11
    go_wp2_with (first | (go_at_call 18; first | ((with_reducible refine (c1).mono ?_); rintro e w' ⟨rfl, rfl⟩) | ((with_reducible refine (c4).mono ?_); rintro e w' ⟨rfl, rfl⟩)) | (go_at_call 10; ((with_reducible refine (c2).mono ?_); rintro e w' ⟨rfl, rfl⟩)) | (go_at_call 12; first | ((with_reducible refine (c3).mono ?_); rintro e w' ⟨rfl, rfl⟩) | ((with_reducible refine (c5).mono ?_); rintro e w' ⟨rfl, rfl⟩)))
    go_ret
    exact ⟨ret_bool (by simp), rfl⟩
  · obtain ⟨y1, y2⟩ := rr_no ht
    rw [ht] at c2
    rw [y1, y2] at c1
    clear y1 y2 ht
    go_enter Tryd.func11, Tryd.ntmps11
    go_wp2_with (first | (go_at_call 18; first | ((with_reducible refine (c1).mono ?_); rintro e w' ⟨rfl, rfl⟩) | ((with_reducible refine (c4).mono ?_); rintro e w' ⟨rfl, rfl⟩)) | (go_at_call 10; ((with_reducible refine (c2).mono ?_); rintro e w' ⟨rfl, rfl⟩)) | (go_at_call 12; ((with_reducible refine (c3).mono ?_); rintro e w' ⟨rfl, rfl⟩)))
    go_ret
    exact ⟨ret_bool (by simp), rfl⟩

set_option maxHeartbeats 4000000 in
set_option maxRecDepth 100000 in
theorem gf16Traces_any (a b : Nat) (w : World) (ha : a < 65536) (hb : b < 65536) (hC : Cant w) :
    Calls Tryd.prog 4 #[.int .u16 (a : Int), .int .u16 (b : Int)] w fun e w' => e = .returned (.bool true) ∧ w' = w := by
  have c0 := fixed_any w
  have ct : Calls Tryd.prog 10 #[.int .u16 39198] w fun e w' => e = .returned (.int .i64 1) ∧ w' = w := by
    have h := htrace_nat 39198 w (by decide)
    rw [show tr 65581 16 39198 = 1 by decide +kernel] at h
    exact h
  have cr1 := rooted_nat a w ha hC
  have cr2 := rooted_nat b w hb hC
  have c1 := hmul_nat a a w ha ha
  have c2 := hmul_nat b b w hb hb
  have hx := xor16_lt ha hb
  have c3 := hmul_nat (a ^^^ b) (a ^^^ b) w hx hx
  rw [fld16.sq_add] at c3
  have X1 := u16_xor_nat a b ha hb
  have X2 := u16_xor_nat (fm 65581 a a) (fm 65581 b b) (fm16_lt _ _) (fm16_lt _ _)
  have c4 := htrace_nat a w ha
  have c5 := htrace_nat b w hb
  have c6 := htrace_nat (a ^^^ b) w hx
  rw [fld16.tr_xor] at c6
  have c7 := htrace_nat (fm 65581 a a) w (fm16_lt _ _)
  rw [fld16.tr_of_sq ha] at c7
  rcases fld16.tr_bit ha with t1 | t1 <;> rcases fld16.tr_bit hb with t2 | t2
  all_goals
    rw [t1] at c4 c7
    rw [t2] at c5
    rw [t1, t2] at c6
    have x00 : bits BinOp.xor IntKind.i64 0 0 = 0 := by decide
    have x01 : bits BinOp.xor IntKind.i64 0 1 = 1 := by decide
    have x10 : bits BinOp.xor IntKind.i64 1 0 = 1 := by decide
    have x11 : bits BinOp.xor IntKind.i64 1 1 = 0 := by decide
    simp only [Nat.xor_self, Nat.xor_zero, Nat.zero_xor, Int.natCast_zero, Int.natCast_one] at c4 c5 c6 c7
    clear t1 t2
    go_enter Tryd.func4, Tryd.ntmps4
    go_wp2_with (first | (go_at_call 9; ((with_reducible refine (c0).mono ?_); rintro e w' ⟨rfl, rfl⟩)) | (go_at_call 10; first | ((with_reducible refine (ct).mono ?_); rintro e w' ⟨rfl, rfl⟩) | ((with_reducible refine (c4).mono ?_); rintro e w' ⟨rfl, rfl⟩) | ((with_reducible refine (c5).mono ?_); rintro e w' ⟨rfl, rfl⟩) | ((with_reducible refine (c6).mono ?_); rintro e w' ⟨rfl, rfl⟩) | ((with_reducible refine (c7).mono ?_); rintro e w' ⟨rfl, rfl⟩)) | (go_at_call 11; first | ((with_reducible refine (cr2).mono ?_); rintro e w' ⟨rfl, rfl⟩) | ((with_reducible refine (cr1).mono ?_); rintro e w' ⟨rfl, rfl⟩)) | (go_at_call 12; first | ((with_reducible refine (c1).mono ?_); rintro e w' ⟨rfl, rfl⟩) | ((with_reducible refine (c2).mono ?_); rintro e w' ⟨rfl, rfl⟩) | ((with_reducible refine (c3).mono ?_); rintro e w' ⟨rfl, rfl⟩)))
    go_ret
    exact ⟨rfl, rfl⟩
end Go.Proofs.YthebaclellimaaaRDoor
