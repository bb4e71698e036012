import Derived.Test.YtaepcecjblojjabDoorDdiv
import Derived.Test.YtaepcecjblojjabDoorWgcd
import Derived.Test.YtaepcecjblojjabDoorDops
import Derived.Deep.RegionHeld
namespace Go.Proofs.YtaepcecjblojjabDoor
open Go.RowKit Gf2

/-- one step, as a value. -/
def opV (k : Int) (x y z : Nat) (s : ByteArray) : Value := .agg #[.int .i64 k, .int .u64 (x : Int), .int .u64 (y : Int), .int .u64 (z : Int), .string s]

theorem u32_of (x : Nat) : IntKind.u32.wrap (x : Int) = ((x % 4294967296 : Nat) : Int) := by
  rw [IntKind.wrap_u32']; omega

set_option maxHeartbeats 1000000 in
theorem products_degree (x y z : Nat) (s : ByteArray) (w : World) (hx : x < 18446744073709551616) :
    Calls Tryd.prog 17 #[.agg #[.int .i64 1, .int .u64 (x : Int), .int .u64 (y : Int), .int .u64 (z : Int), .string s]] w fun e w' => e = .returned (.bool true) ∧ Below w.heap.size w w' := by
  go_enter Tryd.func17, Tryd.ntmps17
  go_wp2
  go_region_with (first | (go_at_call 8; refine (degree_nat _ _ hx).mono ?_; rintro e w1 ⟨rfl, rfl⟩) | (go_at_call 22; refine (refDegree_nat _ _ hx).mono ?_; rintro e w1 ⟨rfl, rfl⟩))
  all_goals
    go_wp2
    go_ret
    exact ⟨ret_bool (by simp), ((Below.refl _ _).alloc (Nat.le_refl _) _).drew⟩

theorem bcell {W w1 : World} (hb : Below W.heap.size W w1) : (∀ b o, b < W.heap.size → w1.cell? ⟨b, o, none⟩ = W.cell? ⟨b, o, none⟩) ∧ (∀ b o, b < W.heap.size → w1.frozen? ⟨b, o, none⟩ = W.frozen? ⟨b, o, none⟩) :=
  ⟨fun b o h => hb.cell (p := ⟨b, o, none⟩) h, fun b o h => hb.frozen (p := ⟨b, o, none⟩) h⟩

set_option maxHeartbeats 1000000 in
theorem products_mul (x y z : Nat) (s : ByteArray) (w : World) :
    Calls Tryd.prog 17 #[.agg #[.int .i64 2, .int .u64 (x : Int), .int .u64 (y : Int), .int .u64 (z : Int), .string s]] w fun e w' => e = .returned (.bool true) ∧ Below w.heap.size w w' := by
  have hx : x % 4294967296 < 4294967296 := Nat.mod_lt _ (by decide)
  have hy : y % 4294967296 < 4294967296 := Nat.mod_lt _ (by decide)
  have ex := u32_of x
  have ey := u32_of y
  generalize hxx : x % 4294967296 = x' at *
  generalize hyy : y % 4294967296 = y' at *
  clear hxx hyy
  go_enter Tryd.func17, Tryd.ntmps17
  go_wp2
  go_region_held (fun w' => w'.cell? ⟨w.heap.size, 1, none⟩ = some (.int .u64 (x : Int)) ∧ w'.cell? ⟨w.heap.size, 2, none⟩ = some (.int .u64 (y : Int))) (go_keep) (first | (go_at_call 9; with_reducible refine (mul_nat _ _ _ hx hy).mono ?_; rintro e w1 ⟨rfl, rfl⟩) | (go_at_call 23; with_reducible refine (refMul_nat _ _ _ hx hy).mono ?_; rintro e w1 ⟨rfl, hb1⟩; obtain ⟨hc1, hf1⟩ := bcell hb1))
  all_goals
    go_wp2
    go_ret
    exact ⟨rfl, (((Below.refl _ _).alloc (Nat.le_refl _) _).drew).trans (hb1.mono (by simp))⟩

set_option maxHeartbeats 1000000 in
theorem products_div (k : Int) (x y z : Nat) (s : ByteArray) (w : World) (hx : x < 18446744073709551616) (hy : y < 18446744073709551616) (h1 : (k == 1) = false) (h2 : (k == 2) = false) (hy0 : y ≠ 0) :
    Calls Tryd.prog 17 #[.agg #[.int .i64 k, .int .u64 (x : Int), .int .u64 (y : Int), .int .u64 (z : Int), .string s]] w fun e w' => e = .returned (.bool true) ∧ Below w.heap.size w w' := by
  go_enter Tryd.func17, Tryd.ntmps17
  go_wp2_with (first | (go_at_call 6; with_reducible refine (divmod_nat _ _ _ hx hy hy0).mono ?_; rintro e w1 ⟨rfl, rfl⟩) | (go_at_call 24; with_reducible refine (refDivMod_nat _ _ _ hx hy hy0).mono ?_; rintro e w1 ⟨rfl, hb1⟩; obtain ⟨hc1, hf1⟩ := bcell hb1))
  go_ret
  exact ⟨ret_bool (by simp), ((Below.refl _ _).alloc (Nat.le_refl _) _).trans (hb1.mono (by simp))⟩

set_option maxHeartbeats 1000000 in
theorem products_zero (k : Int) (x z : Nat) (s : ByteArray) (w : World) (h1 : (k == 1) = false) (h2 : (k == 2) = false) :
    Calls Tryd.prog 17 #[.agg #[.int .i64 k, .int .u64 (x : Int), .int .u64 0, .int .u64 (z : Int), .string s]] w fun e w' => e = .returned (.bool true) ∧ Below w.heap.size w w' := by
  go_enter Tryd.func17, Tryd.ntmps17
  go_wp2_with (first | (go_at_call 6; with_reducible refine (divmod_zero _ _).mono ?_; rintro e w1 ⟨rfl, rfl⟩) | (go_at_call 24; with_reducible refine (refDivMod_zero _ _).mono ?_; rintro e w1 ⟨rfl, rfl⟩))
  go_ret
  exact ⟨rfl, (Below.refl _ _).alloc (Nat.le_refl _) _⟩

theorem products_any (k : Int) (x y z : Nat) (s : ByteArray) (w : World) (hx : x < 18446744073709551616) (hy : y < 18446744073709551616) :
    Calls Tryd.prog 17 #[.agg #[.int .i64 k, .int .u64 (x : Int), .int .u64 (y : Int), .int .u64 (z : Int), .string s]] w fun e w' => e = .returned (.bool true) ∧ Below w.heap.size w w' := by
  by_cases h1 : k = 1
  · subst h1; exact products_degree x y z s w hx
  · by_cases h2 : k = 2
    · subst h2; exact products_mul x y z s w
    · have h1' : (k == 1) = false := by simpa using h1
      have h2' : (k == 2) = false := by simpa using h2
      by_cases h0 : y = 0
      · subst h0; exact products_zero k x z s w h1' h2'
      · exact products_div k x y z s w hx hy h1' h2' h0
end Go.Proofs.YtaepcecjblojjabDoor
