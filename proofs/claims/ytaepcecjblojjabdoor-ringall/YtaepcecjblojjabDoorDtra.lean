import Derived.Test.YtaepcecjblojjabDoorDpar
namespace Go.Proofs.YtaepcecjblojjabDoor
open Go.RowKit Gf2

/-- the library's table, as the program's start lays it. -/
def Tab (w : World) : Prop := ∀ j, j < 64 → w.cell? ⟨0, j, none⟩ = some (.int .u8 ((deB.getD j 99 : Nat) : Int))

theorem neg_u64 (x : Nat) (h0 : x ≠ 0) (hx : x < 18446744073709551616) : IntKind.u64.wrap (-(x : Int)) = ((18446744073709551616 - x : Nat) : Int) := by
  rw [IntKind.wrap_u64]; omega
theorem mul_u64 (e : Nat) : IntKind.u64.wrap (((2 ^ e : Nat) : Int) * 285870213051353865) = ((2 ^ e * 285870213051353865 % 18446744073709551616 : Nat) : Int) := by
  rw [IntKind.wrap_u64]
  generalize 2 ^ e = q
  omega

set_option maxHeartbeats 1000000 in
theorem trailing_nat (x : Nat) (w : World) (hx : x < 18446744073709551616) (ht : Tab w) :
    Calls Tryd.prog 59 #[.int .u64 (x : Int)] w fun r w' => r = .returned (.int .i64 ((tz64 x : Nat) : Int)) ∧ w' = w := by
  by_cases h0 : x = 0
  · subst h0
    go_enter Tryd.func59, Tryd.ntmps59
    go_wp2
    go_ret
    exact ⟨ret_int (by rw [tz64_zero]; rfl), rfl⟩
  · obtain ⟨e, q, he, hq, hz⟩ := tz_form (x := x) hx h0
    have hl := low_bit (x := x) hx hq he
    have T0 : ((x : Int) == 0) = false := by simp; omega
    have n1 := neg_u64 x h0 hx
    have a1 := u64_and_nat x (18446744073709551616 - x) hx (by omega)
    rw [show (2 : Nat) ^ 64 = 18446744073709551616 from rfl] at hl
    rw [hl, ← n1] at a1
    obtain ⟨d1, d2⟩ := deB_at ⟨e, he⟩
    simp only at d1 d2
    have m1 := mul_u64 e
    rw [← a1] at m1
    have hc := ht _ d2
    rw [d1] at hc
    rw [hz]
    clear hl hq hz a1 d1 n1
    generalize 2 ^ e * 285870213051353865 % 18446744073709551616 = M at *
    have b1 : 0 ≤ (M : Int) / 288230376151711744 := by omega
    have b2 : (M : Int) / 288230376151711744 < 64 := by omega
    clear d2 ht
    go_enter Tryd.func59, Tryd.ntmps59
    go_wp2
    go_ret
    exact ⟨rfl, rfl⟩
end Go.Proofs.YtaepcecjblojjabDoor
