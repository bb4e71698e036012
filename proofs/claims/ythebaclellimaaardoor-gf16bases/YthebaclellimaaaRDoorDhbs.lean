import Derived.Test.YthebaclellimaaaRDoorDhpl
import Derived.Test.YthebaclellimaaaRDoorWalki
import Derived.Deep.RegionHeld
namespace Go.Proofs.YthebaclellimaaaRDoor
open Go.RowKit Gf2

theorem below_then {w a b : World} (h : Below w.heap.size w a) (k : Below a.heap.size a b) : Below w.heap.size w b := h.trans (k.mono h.size)

set_option maxHeartbeats 2000000 in
set_option maxRecDepth 100000 in
theorem sameH_rows (x y cx cy : Nat) (f : Nat → Nat) (w : World) (hx : ∀ i, i < 16 → w.cell? ⟨x, i, none⟩ = some (.int .u16 (f i : Nat))) (hy : ∀ i, i < 16 → w.cell? ⟨y, i, none⟩ = some (.int .u16 (f i : Nat))) :
    Calls Tryd.prog 20 #[.slice (some ⟨x, 0, none⟩) 16 cx, .slice (some ⟨y, 0, none⟩) 16 cy] w fun e w' => e = .returned (.bool true) ∧ ∃ m, w' = w.drewN m := by
  go_enter Tryd.func20, Tryd.ntmps20
  go_wp2
  go_loopw [13] (fun i wr => ∃ k m : Nat, k ≤ 16 ∧ i = .int .i64 k ∧ wr = w.drewN m) (fun i _ => 16 - (intOf i).toNat)
  case atStart => exact ⟨0, 0, by decide, rfl, rfl⟩
  case round =>
    obtain ⟨k, m, hk, rfl, hw⟩ := hrel
    by_cases hlt : k < 16
    · have q1 : wr.cell? ⟨x, k, none⟩ = some (.int .u16 (f k : Nat)) := by rw [hw]; exact hx k hlt
      have q2 : wr.cell? ⟨y, k, none⟩ = some (.int .u16 (f k : Nat)) := by rw [hw]; exact hy k hlt
      have HW : Hid (wr = w.drewN m) := hw
      have ib : ((k : Nat) : Int) < 16 := by omega
      clear hx hy hw
      go_wp2
      go_quiet (fail)
      go_wp2
      go_roundw
      case rel => exact ⟨k + 1, m + nq, by omega, by go_num, by rw [HW.out, World.drewN_drewN]⟩
      case measure => simp [intOf]; omega
    · have hk5 : k = 16 := by omega
      subst hk5
      subst hw
      go_wp2
      go_ret
      exact ⟨rfl, _, rfl⟩

theorem afterB_all {w w' : World} (h : w' = afterB w) : Below w.heap.size w w' ∧ w'.heap[w.heap.size]? = some (.cells rB 39 (0, 0)) ∧ w.heap.size < w'.heap.size := by
  subst h
  exact ⟨afterB_below _, afterB_new _, by rw [afterB_size]; exact Nat.lt_succ_self _⟩

set_option maxHeartbeats 4000000 in
set_option maxRecDepth 100000 in
theorem based_any (k : Int) (a b : Nat) (n : Int) (w : World) (ha : a < 65536) (hC : Cant w) :
    Calls Tryd.prog 8 #[.agg #[.int .i64 k, .int .u16 (a : Int), .int .u16 (b : Int), .int .i64 n]] w fun e w' => e = .returned (.bool true) ∧ Below w.heap.size w w' := by
  have hA : ∀ o, Cant (w.alloc o) := fun o => hC.below ((Below.refl _ _).alloc (Nat.le_refl _) _)
  have hD : ∀ o, Cant (w.alloc o).drew := fun o => hA o
  clear hC
  by_cases h0 : k = 0
  · subst h0
    have c1 := fun w => htrace_nat a w ha
    have c2 := fun w => refTrace_nat a w ha
    go_enter Tryd.func8, Tryd.ntmps8
    go_wp2
    go_quiet (first | (go_at_call 10; with_reducible exact Calls.quiet_of_same (c1 _)) | (go_at_call 17; with_reducible exact Calls.quiet_of_same (c2 _)))
    go_wp2
    go_ret
    exact ⟨ret_bool (by simp), bdrew ((Below.refl _ _).alloc (Nat.le_refl _) _) _⟩
  · by_cases h1 : k = 1
    · subst h1
      have c1 := fun o => hroot_nat a (w.alloc o) ha (hA o)
      have c2 := fun w => refRoot_nat a w ha
      go_enter Tryd.func8, Tryd.ntmps8
      go_wp2_with (first | (go_at_call 18; ((with_reducible refine (c1 _).mono ?_); (rintro e w1 ⟨rfl, hw1⟩; subst hw1))) | (go_at_call 19; ((with_reducible refine (c2 _).mono ?_); (rintro e w2 ⟨rfl, hb2⟩))))
      go_ret
      exact ⟨ret_bool (by simp), below_then ((Below.refl _ _).alloc (Nat.le_refl _) _) hb2⟩
    · by_cases h2 : k = 2
      · subst h2
        have c1 := fun o => hbasis_any (w.alloc o) (hA o)
        have c2 := fun w => refBasis_any w
        go_enter Tryd.func8, Tryd.ntmps8
        go_wp2_with (first | (go_at_call 15; ((with_reducible refine (c1 _).mono ?_); (rintro e w1 ⟨rfl, hw1⟩; obtain ⟨hb1, n1, s1⟩ := afterB_all hw1; clear hw1; simp at n1 s1))) | (go_at_call 21; ((with_reducible refine (c2 _).mono ?_); (rintro e w2 ⟨g2, cp2, rfl, own2, hg2, hb2⟩))) | (go_at_call 20; ((with_reducible refine (sameH_rows _ g2 16 cp2 cbn w2 (fun i hi => (hb2.cell s1).trans (cellB n1 hi)) (fun i hi => by rw [own2.cellAt i (by omega), vU_get (cbt_get hi)])).mono ?_); (rintro e w3 ⟨rfl, m, rfl⟩))))
        go_ret
        exact ⟨rfl, bdrew (below_then (below_then ((Below.refl _ _).alloc (Nat.le_refl _) _) hb1) hb2) _⟩
      · by_cases h3 : k = 3
        · subst h3
          have c1 := fun o => helement_int n (w.alloc o) (hA o)
          have c2 := fun w => refElement_int n w
          go_enter Tryd.func8, Tryd.ntmps8
          go_wp2_with (first | (go_at_call 14; ((with_reducible refine (c1 _).mono ?_); (rintro e w1 ⟨rfl, hw1⟩; subst hw1))) | (go_at_call 22; ((with_reducible refine (c2 _).mono ?_); (rintro e w2 ⟨rfl, hb2⟩))))
          go_ret
          exact ⟨ret_bool (by simp), below_then ((Below.refl _ _).alloc (Nat.le_refl _) _) hb2⟩
        · by_cases h4 : k = 4
          · subst h4
            have c1 := fun o => hindex_nat a (w.alloc o).drew ha (hD o)
            have c2 := fun w => refIndex_nat a w ha
            go_enter Tryd.func8, Tryd.ntmps8
            go_wp2
            go_region_held (fun w' => w'.cell? ⟨w.heap.size, 1, none⟩ = some (.int .u16 (a : Int))) (go_keep) (first
              | (go_at_call 6; (with_reducible refine (c1 _).mono ?_); rintro e w1 ⟨rfl, hw1⟩; subst hw1)
              | (go_at_call 23; (with_reducible refine (c2 _).mono ?_); rintro e w2 ⟨rfl, hb2⟩; have p2 := hb2.cell (p := ⟨w.heap.size, 1, none⟩) (by simp)))
            all_goals
              go_wp2
              go_ret
              exact ⟨ret_bool (by simp), below_then (((Below.refl _ _).alloc (Nat.le_refl _) _).drew) hb2⟩
          · have T0 : (k == 0) = false := by simpa using h0
            have T1 : (k == 1) = false := by simpa using h1
            have T2 : (k == 2) = false := by simpa using h2
            have T3 : (k == 3) = false := by simpa using h3
            have T4 : (k == 4) = false := by simpa using h4
            clear h0 h1 h2 h3 h4
            go_enter Tryd.func8, Tryd.ntmps8
            go_wp2
            go_ret
            exact ⟨rfl, (Below.refl _ _).alloc (Nat.le_refl _) _⟩
end Go.Proofs.YthebaclellimaaaRDoor
