import Derived.Test.YtnbpbdhncnagdabDtas
namespace Go.Proofs.Ytnbpbdhncnagdab
open Go.RowKit Gf2

set_option maxHeartbeats 4000000 in
set_option maxRecDepth 100000 in
theorem gf8Agree_any (a b : Nat) (n : Int) (w : World) (ha : a < 256) (hb : b < 256) :
    Calls Try.prog 3 #[.int .u8 (a : Int), .int .u8 (b : Int), .int .i64 n] w fun e w' => e = .returned (.bool true) ∧ Below w.heap.size w w' := by
  have c0 := new_tab w
  have c1 := fun w => awake2_any w
  have c3 := fun w => gmul_nat a b w ha hb
  have c4 := fun w => ginv_all a w ha
  have c5 := fun w => gdiv_all a b w ha hb
  have c10 : ∀ w, Calls Try.prog 13 #[.int .u8 2, .int .i64 n] w fun e w' => e = .returned (.tuple #[.int .u8 (fp 285 2 (er n) : Nat), .int .i64 0]) ∧ w' = w := by
    intro w
    have h := gpow_int 2 n w (by decide)
    rw [gp_ne n (by decide), ge_ne n (by decide)] at h
    exact h
  have c11 := fun w => twice_nat a w ha
  have l1 := fm8_lt a b
  have ib : ((b : Nat) : Int) < 256 := by omega
  have l2 := tw_lt ha
  have l3 := ti_lt ha
  have l4 := td_lt a b
  have e2 : fm 285 a 2 = tw a := by rw [fm_comm, tw_fm ha]
  have E2 : Hid (fm 285 a 2 = tw a) := e2
  clear e2
  go_enter Try.func3, Try.ntmps3
  go_wp2_with (first | (go_at_call 5; ((with_reducible refine (c0).mono ?_); rintro e w' ⟨rfl, w0, rfl, hs0, ht, hb0⟩)) | (go_at_call 6; ((with_reducible refine (c1 _).mono ?_); rintro e w' ⟨rfl, rfl⟩)) | (go_at_call 7; ((with_reducible refine (tmul_nat _ a b _ (ht.drewN _) ha hb).mono ?_); rintro e w' ⟨rfl, m1, rfl⟩)) | (go_at_call 8; ((with_reducible refine (c3 _).mono ?_); rintro e w' ⟨rfl, rfl⟩)) | (go_at_call 9; ((with_reducible refine (tinv_all _ a _ (ht.drewN _) ha).mono ?_); rintro e w' ⟨rfl, m2, rfl⟩)) | (go_at_call 10; ((with_reducible refine (c4 _).mono ?_); rintro e w' ⟨rfl, rfl⟩)) | (go_at_call 11; ((with_reducible refine (tdiv_all _ a b _ (ht.drewN _) ha hb).mono ?_); rintro e w' ⟨rfl, m3, rfl⟩)) | (go_at_call 12; ((with_reducible refine (c5 _).mono ?_); rintro e w' ⟨rfl, rfl⟩)) | (go_at_call 13; ((with_reducible refine (c10 _).mono ?_); rintro e w' ⟨rfl, rfl⟩)) | (go_at_call 14; ((with_reducible refine (texp_int _ n _ (ht.drewN _)).mono ?_); rintro e w' ⟨rfl, m4, rfl⟩)) | (go_at_call 16; ((with_reducible refine (c11 _).mono ?_); rintro e w' ⟨rfl, rfl⟩)) | (go_at_call 15; ((with_reducible refine (trow_nat _ a _ (ht.drewN _) ha).mono ?_); (rintro e w' ⟨rfl, hrow, hb2, hs2⟩; have q1 := hrow.cell hb; have q2 := hrow.cell (i := 2) (by decide); rw [E2.out] at q2; simp only [World.heap_drewN] at q1 q2 hb2; rw [hs0] at q1 q2; clear hrow))))
  go_quiet (first | (go_at_call 8; with_reducible exact Calls.quiet_of_same (c3 _)) | (go_at_call 16; with_reducible exact Calls.quiet_of_same (c11 _)))
  go_wp2
  go_ret
  refine ⟨ret_bool (by simp), below_drewN' ?_ _⟩
  exact (below_drewN' hb0 _).trans (hb2.mono (by omega))
end Go.Proofs.Ytnbpbdhncnagdab
