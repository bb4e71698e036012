import Derived.Test.YthebaclellimaaaRDoph
import Derived.Deep.QuietTactic
import Derived.BigQuiet
namespace Go.Proofs.YthebaclellimaaaR
open Go.RowKit Gf2

theorem bdrew {N : Nat} {a w : World} (h : Below N a w) (n : Nat) : Below N a (w.drewN n) := ⟨h.os, h.tape, h.output, h.size, h.block⟩

set_option maxHeartbeats 2000000 in
theorem plainH_any (k : Int) (a b : Nat) (n : Int) (w : World) (ha : a < 65536) (hb : b < 65536) :
    Calls Try.prog 6 #[.agg #[.int .i64 k, .int .u16 (a : Int), .int .u16 (b : Int), .int .i64 n]] w fun e w' => e = .returned (.bool true) ∧ Below w.heap.size w w' := by
  by_cases h1 : k = 0
  · subst h1
    have c1 := fun w => hmul_nat a b w ha hb
    have c2 := fun w => refMulH_nat a b w ha hb
    go_enter Try.func6, Try.ntmps6
    go_wp2
    go_quiet (first | (go_at_call 7; with_reducible exact Calls.quiet_of_same (c1 _)) | (go_at_call 10; with_reducible exact Calls.quiet_of_same (c2 _)))
    go_wp2
    go_ret
    exact ⟨ret_bool (by simp), bdrew ((Below.refl _ _).alloc (Nat.le_refl _) _) _⟩
  · by_cases h2 : k = 1
    · subst h2
      have c1 := fun w => hinv_nat a w ha
      have c2 := fun w => refInvH_nat a w ha
      go_enter Try.func6, Try.ntmps6
      go_wp2_with (first | (go_at_call 8; ((with_reducible refine (c1 _).mono ?_); rintro e w' ⟨rfl, rfl⟩)) | (go_at_call 11; ((with_reducible refine (c2 _).mono ?_); rintro e w' ⟨rfl, rfl⟩)))
      go_ret
      exact ⟨ret_bool (by simp), (Below.refl _ _).alloc (Nat.le_refl _) _⟩
    · by_cases h3 : k = 2
      · subst h3
        have c1 := fun w => hdiv_nat a b w ha hb
        have c2 := fun w => refDivH_nat a b w ha hb
        go_enter Try.func6, Try.ntmps6
        go_wp2_with (first | (go_at_call 9; ((with_reducible refine (c1 _).mono ?_); rintro e w' ⟨rfl, rfl⟩)) | (go_at_call 12; ((with_reducible refine (c2 _).mono ?_); rintro e w' ⟨rfl, rfl⟩)))
        go_ret
        exact ⟨ret_bool (by simp), (Below.refl _ _).alloc (Nat.le_refl _) _⟩
      · by_cases h4 : k = 3
        · subst h4
          have c1 := fun w => hpow_int a n w ha
          have c2 := fun w => refPowH_int a n w ha
          go_enter Try.func6, Try.ntmps6
          go_wp2_with (first | (go_at_call 13; ((with_reducible refine (c1 _).mono ?_); rintro e w' ⟨rfl, rfl⟩)) | (go_at_call 14; ((with_reducible refine (c2 _).mono ?_); rintro e w' ⟨rfl, rfl⟩)))
          go_ret
          exact ⟨ret_bool (by simp), (Below.refl _ _).alloc (Nat.le_refl _) _⟩
        · have T1 : (k == 0) = false := by simpa using h1
          have T2 : (k == 1) = false := by simpa using h2
          have T3 : (k == 2) = false := by simpa using h3
          have T4 : (k == 3) = false := by simpa using h4
          clear h1 h2 h3 h4
          go_enter Try.func6, Try.ntmps6
          go_wp2
          go_ret
          exact ⟨rfl, (Below.refl _ _).alloc (Nat.le_refl _) _⟩

set_option maxHeartbeats 4000000 in
set_option maxRecDepth 100000 in
theorem gf16Calls_any (a : Option Addr) (len cap : Nat) (w : World) (h : IsOpsH w a len cap) :
    Calls Try.prog 3 #[.slice a len cap] w fun e w' => e = .returned (.bool true) ∧ Below w.heap.size w w' := by
  obtain ⟨hml, h⟩ := h
  unfold maxLen at hml
  have c0 := fun w => fixed_any w
  go_enter Try.func3, Try.ntmps3
  go_wp2_with (go_at_call 5; ((with_reducible refine (c0 _).mono ?_); (rintro e w9 ⟨rfl, hw9⟩; have hw9 := hw9.symm; subst hw9)))
  go_loopw [9] (fun x wr => ∃ i : Nat, i ≤ len ∧ x = .int .i64 i ∧ Below w.heap.size w wr) (fun x _ => len - (intOf x).toNat)
  case atStart => exact ⟨0, Nat.zero_le _, rfl, Below.refl _ _⟩
  case round =>
    obtain ⟨i, hi2, rfl, hb⟩ := hrel
    by_cases hlt : i < len
    · rcases h with h | ⟨b, off, rfl, hlc, hcm, hbs, hops⟩
      · omega
      · obtain ⟨k, x, y, n, z0, z1, z2, z3, bx, by'⟩ := hops i hlt
        have y0 := (hb.cell (p := ⟨b, off + i * 4, none⟩) hbs).trans z0
        have y1 := (hb.cell (p := ⟨b, off + i * 4 + 1, none⟩) hbs).trans z1
        have y2 := (hb.cell (p := ⟨b, off + i * 4 + 2, none⟩) hbs).trans z2
        have y3 := (hb.cell (p := ⟨b, off + i * 4 + 3, none⟩) hbs).trans z3
        have hil : ((i : Nat) : Int) < (len : Int) := by omega
        have c2 := fun w => plainH_any k x y n w bx by'
        have bA : ∀ o, Below w.heap.size w (wr.alloc o) := fun o => hb.alloc hb.size o
        have hs := hb.size
        clear z0 z1 z2 z3 hops
        go_wp2_with (go_at_call 6; ((with_reducible refine (c2 _).mono ?_); (rintro e w1 ⟨rfl, hb1⟩)))
        go_roundw
        case rel => exact ⟨i + 1, by omega, by go_num, (bA _).trans (hb1.mono (by simp; omega))⟩
        case measure => simp [intOf]; omega
    · have hil : ¬ ((i : Nat) : Int) < (len : Int) := by omega
      go_wp2
      go_ret
      exact ⟨rfl, hb⟩
end Go.Proofs.YthebaclellimaaaR
