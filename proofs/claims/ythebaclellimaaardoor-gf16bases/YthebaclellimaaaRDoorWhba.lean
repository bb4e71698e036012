import Derived.Test.YthebaclellimaaaRDoorDhbs
import Derived.Test.YthebaclellimaaaRDoorDfre
namespace Go.Proofs.YthebaclellimaaaRDoor
open Go.RowKit Gf2

set_option maxHeartbeats 4000000 in
set_option maxRecDepth 100000 in
theorem gf16Bases_any (a : Option Addr) (len cap : Nat) (w : World) (h : IsOpsH w a len cap) (hC : Cant w) :
    Calls Tryd.prog 3 #[.slice a len cap] w fun e w' => e = .returned (.bool true) ∧ Below w.heap.size w w' := by
  obtain ⟨hml, h⟩ := h
  unfold maxLen at hml
  have ci : Calls Tryd.prog 6 #[.int .u16 2] w fun e w' => e = .returned (.int .i64 18064) ∧ w' = w := by
    have h := hindex_nat 2 w (by decide) hC
    rw [show wi 2 = 18064 by decide +kernel] at h
    exact h
  have cf := fresh_any w hC
  go_enter Tryd.func3, Tryd.ntmps3
  go_wp2_with (first | (go_at_call 6; ((with_reducible refine (ci).mono ?_); (rintro e w9 ⟨rfl, hw9⟩; have hw9 := hw9.symm; subst hw9))) | (go_at_call 7; ((with_reducible refine (cf).mono ?_); (rintro e wF ⟨rfl, hbF⟩))))
  have HF : Hid (Below w.heap.size w wF) := hbF
  clear ci cf hbF
  go_loopw [13] (fun x wr => ∃ i : Nat, i ≤ len ∧ x = .int .i64 i ∧ Below w.heap.size w wr) (fun x _ => len - (intOf x).toNat)
  case atStart => exact ⟨0, Nat.zero_le _, rfl, HF.out⟩
  case round =>
    obtain ⟨i, hi2, rfl, hb⟩ := hrel
    by_cases hlt : i < len
    · rcases h with h | ⟨b, off, rfl, hlc, hcm, hbs, hops⟩
      · omega
      · obtain ⟨k, x, y, n, z0, z1, z2, z3, bx, by'⟩ := hops i hlt
        have y0 := (hb.cell (p := ⟨b, off + i * 4, none⟩) hbs).trans z0
        have y1 := (hb.cell (p := ⟨b, off + i * 4 + 1, none⟩) hbs).trans z1
        have y2 := (hb.cell (p := ⟨b, off + i * 4 + 2, none⟩) hbs).trans z2
        have y3 := (hb.cell (p := ⟨b, off + i * 4 + 3, none⟩) hbs).trans z3
        have hil : ((i : Nat) : Int) < (len : Int) := by omega
        have bA : ∀ o, Below w.heap.size w (wr.alloc o) := fun o => hb.alloc hb.size o
        have c2 := fun o => based_any k x y n (wr.alloc o) bx (hC.below (bA o))
        have hs := hb.size
        clear z0 z1 z2 z3 hops hC
        go_wp2_with (go_at_call 8; ((with_reducible refine (c2 _).mono ?_); (rintro e w1 ⟨rfl, hb1⟩)))
        go_roundw
        case rel => exact ⟨i + 1, by omega, by go_num, (bA _).trans (hb1.mono (by simp; omega))⟩
        case measure => simp [intOf]; omega
    · have hil : ¬ ((i : Nat) : Int) < (len : Int) := by omega
      go_wp2
      go_ret
      exact ⟨rfl, hb⟩
end Go.Proofs.YthebaclellimaaaRDoor
