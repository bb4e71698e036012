import Derived.Test.YthebaclellimaaaRDoorWalkh
namespace Go.Proofs.YthebaclellimaaaRDoor
open Go.RowKit Gf2

theorem xor16_lt {a b : Nat} (ha : a < 65536) (hb : b < 65536) : a ^^^ b < 65536 := Nat.xor_lt_two_pow (n := 16) ha hb

set_option maxHeartbeats 400000 in
set_option maxRecDepth 10000 in
theorem fixed_any (w : World) :
    Calls Tryd.prog 9 #[] w fun e w' => e = .returned (.bool true) ∧ w' = w := by
  have c1 : ∀ w, Calls Tryd.prog 24 #[.int .u16 2] w fun e w' => e = .returned (.tuple #[.int .u16 32790, .int .i64 0]) ∧ w' = w := fun w => by
    have h := hinv_nat 2 w (by decide)
    rw [show hi 2 = 32790 by decide +kernel, show he 2 = 0 by decide] at h
    exact h
  have c2 : ∀ w, Calls Tryd.prog 12 #[.int .u16 32768, .int .u16 2] w fun e w' => e = .returned (.int .u16 45) ∧ w' = w := fun w => by
    have h := hmul_nat 32768 2 w (by decide) (by decide)
    rw [show fm 65581 32768 2 = 45 by decide +kernel] at h
    exact h
  go_enter Tryd.func9, Tryd.ntmps9
  go_wp2_with (first | (go_at_call 24; ((with_reducible refine (c1 _).mono ?_); rintro e w' ⟨rfl, rfl⟩)) | (go_at_call 12; ((with_reducible refine (c2 _).mono ?_); rintro e w' ⟨rfl, rfl⟩)))
  go_ret
  exact ⟨rfl, rfl⟩

end Go.Proofs.YthebaclellimaaaRDoor
