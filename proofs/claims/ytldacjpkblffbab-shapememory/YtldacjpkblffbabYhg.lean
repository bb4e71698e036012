import Derived.Test.YtldacjpkblffbabYhe
namespace Go.Proofs.Ytldacjpkblffbab
open Go.RowKit Gf2
set_option linter.unusedVariables false

-- layer 16: the document's Length
set_option maxHeartbeats 2000000 in
set_option maxRecDepth 100000 in
theorem rlength16 (f k m n : Int) (w : World) :
    Calls Try.prog 21 #[.int .i64 f, .int .i64 k, .int .i64 m, .int .i64 n] w fun e w' => e = .returned (.tuple #[.int .i64 (lnv f k m n), .int .i64 (lne f k m n)]) ∧ w' = w := by
  have c1 := fun x => rparams16 f k m x
  unfold lnv
  by_cases h : lne f k m n = 0
  · rw [if_pos h, h]
    obtain ⟨h1, h2, h3⟩ := lne_ok h
    have hv := prm_ok.1 h1
    obtain ⟨a, rfl⟩ := Int.eq_ofNat_of_zero_le (show 0 ≤ k by have := hv.hk; omega)
    obtain ⟨b, rfl⟩ := Int.eq_ofNat_of_zero_le (show 0 ≤ n by omega)
    rw [h1] at c1
    have c2 := fun x => rlength16a f a b x (by have := hv.hk; omega) (by have := hv.sum; have := hv.hm; omega) (by omega)
    have D1 : decide ((b : Int) < 1) = false := by simp; omega
    have D2 : decide ((1099511627776 : Int) < (b : Int)) = false := by simp; omega
    show Calls _ _ _ _ fun e w' => e = .returned (.tuple #[.int .i64 (ln16 f a b : Nat), .int .i64 0]) ∧ w' = w
    generalize ln16 f a b = z at c2
    clear h h1 hv h2 h3
    go_enter Try.func21, Try.ntmps21
    go_wp2_with (first | (go_at_call 15; ((with_reducible refine (c1 _).mono ?_); rintro e w' ⟨rfl, rfl⟩)) | (go_at_call 29; ((with_reducible refine (c2 _).mono ?_); rintro e w' ⟨rfl, rfl⟩)))
    go_ret2
    exact ⟨rfl, rfl⟩
  · rw [if_neg h]
    obtain ⟨z, hz⟩ : ∃ z, lne f k m n = z := ⟨_, rfl⟩
    rw [hz] at h ⊢
    have h0 := hz
    clear hz
    unfold lne at h0
    by_cases hp : prm f k m = 0
    · rw [hp] at c1
      rw [if_pos hp] at h0
      clear hp
      by_cases h1 : n < 1
      · rw [if_pos h1] at h0
        have D1 : decide (n < 1) = true := by simpa using h1
        subst h0
        clear h1 h
        go_enter Try.func21, Try.ntmps21
        go_wp2_with (go_at_call 15; ((with_reducible refine (c1 _).mono ?_); rintro e w' ⟨rfl, rfl⟩))
        go_ret2
        exact ⟨rfl, rfl⟩
      · rw [if_neg h1] at h0
        have D1 : decide (n < 1) = false := by simpa using h1
        by_cases h2 : 1099511627776 < n
        · rw [if_pos h2] at h0
          have D2 : decide (1099511627776 < n) = true := by simpa using h2
          subst h0
          clear h1 h2 h
          go_enter Try.func21, Try.ntmps21
          go_wp2_with (go_at_call 15; ((with_reducible refine (c1 _).mono ?_); rintro e w' ⟨rfl, rfl⟩))
          go_ret2
          exact ⟨rfl, rfl⟩
        · rw [if_neg h2] at h0
          exact absurd h0.symm h
    · rw [if_neg hp] at h0
      rw [h0] at c1
      clear hp h0
      have D1 : (z != 0) = true := by simpa using h
      have D2 : (z == 0) = false := by simpa using h
      clear h
      go_enter Try.func21, Try.ntmps21
      go_wp2_with (go_at_call 15; ((with_reducible refine (c1 _).mono ?_); rintro e w' ⟨rfl, rfl⟩))
      go_ret2
      exact ⟨rfl, rfl⟩
end Go.Proofs.Ytldacjpkblffbab
