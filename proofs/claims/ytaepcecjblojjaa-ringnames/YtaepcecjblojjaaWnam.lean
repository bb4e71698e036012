import Derived.Test.YtaepcecjblojjaaWalke
namespace Go.Proofs.Ytaepcecjblojjaa
open Go.RowKit Gf2

theorem irr_285 : irr 285 = true := by decide +kernel
theorem irr_65581 : irr 65581 = true := by decide +kernel

set_option maxHeartbeats 1000000 in
theorem ringNames_any (w : World) :
    Calls Try.prog 3 #[] w fun e w' => e = .returned (.bool true) ∧ w' = w := by
  have c1 : Calls Try.prog 4 #[.int .u64 285] w fun e w' => e = .returned (.tuple #[.bool true, .int .i64 0]) ∧ w' = w := by
    have h := irreducible_yes 285 w (by decide) (by decide)
    rw [irr_285] at h; exact h
  have c2 : Calls Try.prog 4 #[.int .u64 65581] w fun e w' => e = .returned (.tuple #[.bool true, .int .i64 0]) ∧ w' = w := by
    have h := irreducible_yes 65581 w (by decide) (by decide)
    rw [irr_65581] at h; exact h
  have c3 : Calls Try.prog 6 #[.int .u64 2, .int .u64 285] w fun e w' => e = .returned (.tuple #[.int .i64 255, .int .i64 0]) ∧ w' = w :=
    order_yes 2 285 255 w (by decide) (by decide) (by decide) (by decide) ord_8 (by decide)
  have c4 : Calls Try.prog 6 #[.int .u64 2, .int .u64 65581] w fun e w' => e = .returned (.tuple #[.int .i64 65535, .int .i64 0]) ∧ w' = w :=
    order_yes 2 65581 65535 w (by decide) (by decide) (by decide) (by decide) ord_16 (by decide)
  have c5 : Calls Try.prog 5 #[.int .u64 285] w fun e w' => e = .returned (.tuple #[.bool true, .int .i64 0]) ∧ w' = w := by
    have h := primitive_irr 285 255 0 w (by decide) (by decide) irr_285 c3
    rw [show primB 285 255 = true by decide +kernel] at h; exact h
  have c6 : Calls Try.prog 5 #[.int .u64 65581] w fun e w' => e = .returned (.tuple #[.bool true, .int .i64 0]) ∧ w' = w := by
    have h := primitive_irr 65581 65535 0 w (by decide) (by decide) irr_65581 c4
    rw [show primB 65581 65535 = true by decide +kernel] at h; exact h
  go_enter Try.func3, Try.ntmps3
  go_wp2_with (first | (go_at_call 4; first | (with_reducible refine c1.mono ?_; rintro e w' ⟨rfl, rfl⟩) | (with_reducible refine c2.mono ?_; rintro e w' ⟨rfl, rfl⟩)) | (go_at_call 6; first | (with_reducible refine c3.mono ?_; rintro e w' ⟨rfl, rfl⟩) | (with_reducible refine c4.mono ?_; rintro e w' ⟨rfl, rfl⟩)) | (go_at_call 5; first | (with_reducible refine c5.mono ?_; rintro e w' ⟨rfl, rfl⟩) | (with_reducible refine c6.mono ?_; rintro e w' ⟨rfl, rfl⟩)))
  go_ret
  exact ⟨rfl, rfl⟩
end Go.Proofs.Ytaepcecjblojjaa
