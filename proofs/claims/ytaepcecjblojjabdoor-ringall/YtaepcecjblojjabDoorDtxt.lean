import Derived.Test.YtaepcecjblojjabDoorDres
import Derived.Lib.Strings
import Derived.RegionTactic
import Derived.BigRegion
import Derived.ChangeAlike
namespace Go.Proofs.YtaepcecjblojjabDoor
open Go.RowKit Gf2

/-- a number from 0 to 99 in the base ten. -/
def decB (e : Nat) : ByteArray := if e < 10 then ⟨#[(48 + e).toUInt8]⟩ else ⟨#[(48 + e / 10).toUInt8, (48 + e % 10).toUInt8]⟩
/-- one term. -/
def termB (e : Nat) : ByteArray := if e = 0 then ⟨#[49]⟩ else if e = 1 then ⟨#[120]⟩ else (⟨#[120, 94]⟩ : ByteArray) ++ decB e

theorem small_one : ∀ k : Fin 10, (⟨#[48, 49, 50, 51, 52, 53, 54, 55, 56, 57, 97, 98, 99, 100, 101, 102, 103, 104, 105, 106, 107, 108, 109, 110, 111, 112, 113, 114, 115, 116, 117, 118, 119, 120, 121, 122]⟩ : ByteArray).extract k.val (k.val + 1) = decB k.val := by decide +kernel
set_option maxRecDepth 100000 in
theorem small_two : ∀ k : Fin 100, 10 ≤ k.val → (⟨#[48, 48, 48, 49, 48, 50, 48, 51, 48, 52, 48, 53, 48, 54, 48, 55, 48, 56, 48, 57, 49, 48, 49, 49, 49, 50, 49, 51, 49, 52, 49, 53, 49, 54, 49, 55, 49, 56, 49, 57, 50, 48, 50, 49, 50, 50, 50, 51, 50, 52, 50, 53, 50, 54, 50, 55, 50, 56, 50, 57, 51, 48, 51, 49, 51, 50, 51, 51, 51, 52, 51, 53, 51, 54, 51, 55, 51, 56, 51, 57, 52, 48, 52, 49, 52, 50, 52, 51, 52, 52, 52, 53, 52, 54, 52, 55, 52, 56, 52, 57, 53, 48, 53, 49, 53, 50, 53, 51, 53, 52, 53, 53, 53, 54, 53, 55, 53, 56, 53, 57, 54, 48, 54, 49, 54, 50, 54, 51, 54, 52, 54, 53, 54, 54, 54, 55, 54, 56, 54, 57, 55, 48, 55, 49, 55, 50, 55, 51, 55, 52, 55, 53, 55, 54, 55, 55, 55, 56, 55, 57, 56, 48, 56, 49, 56, 50, 56, 51, 56, 52, 56, 53, 56, 54, 56, 55, 56, 56, 56, 57, 57, 48, 57, 49, 57, 50, 57, 51, 57, 52, 57, 53, 57, 54, 57, 55, 57, 56, 57, 57]⟩ : ByteArray).extract (k.val * 2) (k.val * 2 + 2) = decB k.val := by decide +kernel
set_option maxRecDepth 100000 in
set_option maxHeartbeats 1000000 in
theorem small_nat (e : Nat) (w : World) (h : e < 100) :
    Calls Tryd.prog 62 #[.int .i64 (e : Int)] w fun r w' => r = .returned (.string (decB e)) ∧ w' = w := by
  by_cases h10 : e < 10
  · go_enter Tryd.func62, Tryd.ntmps62
    go_wp2
    go_ret
    exact ⟨congrArg (fun s => Ending.returned (Value.string s)) (small_one ⟨e, h10⟩), rfl⟩
  · go_enter Tryd.func62, Tryd.ntmps62
    go_wp2
    go_ret
    exact ⟨congrArg (fun s => Ending.returned (Value.string s)) (small_two ⟨e, h⟩ (by simp only; omega)), rfl⟩

set_option maxRecDepth 100000 in
set_option maxHeartbeats 1000000 in
theorem itoa_nat (e : Nat) (w : World) (h : e < 100) :
    Calls Tryd.prog 57 #[.int .i64 (e : Int)] w fun r w' => r = .returned (.string (decB e)) ∧ w' = w := by
  have c1 := fun w => small_nat e w h
  have c2 : ∀ w, Calls Tryd.prog 61 #[.int .i64 (e : Int), .int .i64 10] w fun r w' => r = .returned (.string (decB e)) ∧ w' = w := by
    intro w
    go_enter Tryd.func61, Tryd.ntmps61
    go_wp2_with (go_at_call 62; with_reducible refine (c1 _).mono ?_; rintro e w1 ⟨rfl, rfl⟩)
    go_ret
    exact ⟨rfl, rfl⟩
  have c3 : ∀ w, Calls Tryd.prog 60 #[.int .i64 (e : Int)] w fun r w' => r = .returned (.string (decB e)) ∧ w' = w := by
    intro w
    go_enter Tryd.func60, Tryd.ntmps60
    go_wp2_with (go_at_call 61; with_reducible refine (c2 _).mono ?_; rintro e w1 ⟨rfl, rfl⟩)
    go_ret
    exact ⟨rfl, rfl⟩
  go_enter Tryd.func57, Tryd.ntmps57
  go_wp2_with (go_at_call 60; with_reducible refine (c3 _).mono ?_; rintro e w1 ⟨rfl, rfl⟩)
  go_ret
  exact ⟨rfl, rfl⟩

theorem termB_big {e : Nat} (h : 2 ≤ e) : (⟨#[120, 94]⟩ : ByteArray) ++ decB e = termB e := by
  unfold termB
  rw [if_neg (by omega), if_neg (by omega)]
theorem decB_size (e : Nat) : (decB e).size ≤ 2 := by
  unfold decB; split
  · show 1 ≤ 2; decide
  · show 2 ≤ 2; decide
theorem termB_size (e : Nat) : 1 ≤ (termB e).size ∧ (termB e).size ≤ 4 := by
  unfold termB; split
  · exact ⟨Nat.le_refl 1, show 1 ≤ 4 by decide⟩
  · split
    · exact ⟨Nat.le_refl 1, show 1 ≤ 4 by decide⟩
    · rw [ByteArray.size_append]
      have := decB_size e
      have e2 : (⟨#[120, 94]⟩ : ByteArray).size = 2 := rfl
      omega

set_option maxRecDepth 100000 in
set_option maxHeartbeats 1000000 in
theorem term_nat (e : Nat) (w : World) (h : e < 64) :
    Calls Tryd.prog 52 #[.int .i64 (e : Int)] w fun r w' => r = .returned (.string (termB e)) ∧ w' = w := by
  by_cases h0 : e = 0
  · subst h0
    go_enter Tryd.func52, Tryd.ntmps52
    go_wp2
    go_ret
    exact ⟨rfl, rfl⟩
  · by_cases h1 : e = 1
    · subst h1
      go_enter Tryd.func52, Tryd.ntmps52
      go_wp2
      go_ret
      exact ⟨rfl, rfl⟩
    · have T0 : ((e : Int) == 0) = false := by simp; omega
      have T1 : ((e : Int) == 1) = false := by simp; omega
      have c1 := fun w => itoa_nat e w (by omega)
      have hds := decB_size e
      go_enter Tryd.func52, Tryd.ntmps52
      go_wp2_with (go_at_call 57; with_reducible refine (c1 _).mono ?_; rintro e w1 ⟨rfl, rfl⟩)
      go_ret
      exact ⟨congrArg (fun s => Ending.returned (Value.string s)) (termB_big (by omega)), rfl⟩

theorem digits_one : ∀ k : Fin 10, (⟨#[48, 49, 50, 51, 52, 53, 54, 55, 56, 57]⟩ : ByteArray).extract k.val (k.val + 1) = decB k.val := by decide +kernel
theorem digits_two : ∀ k : Fin 100, 10 ≤ k.val → (⟨#[48, 49, 50, 51, 52, 53, 54, 55, 56, 57]⟩ : ByteArray).extract (k.val / 10) (k.val / 10 + 1) ++ (⟨#[48, 49, 50, 51, 52, 53, 54, 55, 56, 57]⟩ : ByteArray).extract (k.val % 10) (k.val % 10 + 1) = decB k.val := by decide +kernel

set_option maxRecDepth 100000 in
set_option maxHeartbeats 1000000 in
theorem digits_nat (e : Nat) (w : World) (h : e < 100) :
    Calls Tryd.prog 58 #[.int .i64 (e : Int)] w fun r w' => r = .returned (.string (decB e)) ∧ Below w.heap.size w w' := by
  by_cases h10 : e < 10
  · go_enter Tryd.func58, Tryd.ntmps58
    go_wp2
    go_ret
    exact ⟨congrArg (fun s => Ending.returned (Value.string s)) (digits_one ⟨e, h10⟩), Below.refl _ _⟩
  · go_enter Tryd.func58, Tryd.ntmps58
    go_wp2
    go_region
    all_goals
      go_wp2
      go_ret
      exact ⟨congrArg (fun s => Ending.returned (Value.string s)) (digits_two ⟨e, h⟩ (by simp only; omega)), (Below.refl _ _).drew⟩

set_option maxRecDepth 100000 in
set_option maxHeartbeats 1000000 in
theorem refTerm_nat (e : Nat) (w : World) (h : e < 64) :
    Calls Tryd.prog 53 #[.int .i64 (e : Int)] w fun r w' => r = .returned (.string (termB e)) ∧ Below w.heap.size w w' := by
  by_cases h0 : e = 0
  · subst h0
    go_enter Tryd.func53, Tryd.ntmps53
    go_wp2
    go_ret
    exact ⟨rfl, Below.refl _ _⟩
  · by_cases h1 : e = 1
    · subst h1
      go_enter Tryd.func53, Tryd.ntmps53
      go_wp2
      go_ret
      exact ⟨rfl, Below.refl _ _⟩
    · have T0 : ((e : Int) == 0) = false := by simp; omega
      have T1 : ((e : Int) == 1) = false := by simp; omega
      have c1 := fun w => digits_nat e w (by omega)
      have hds := decB_size e
      go_enter Tryd.func53, Tryd.ntmps53
      go_wp2_with (go_at_call 58; with_reducible refine (c1 _).mono ?_; rintro e w1 ⟨rfl, hb1⟩)
      go_ret
      exact ⟨congrArg (fun s => Ending.returned (Value.string s)) (termB_big (by omega)), hb1⟩
end Go.Proofs.YtaepcecjblojjabDoor
