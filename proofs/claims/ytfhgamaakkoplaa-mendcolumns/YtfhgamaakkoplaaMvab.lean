import Derived.Test.YtfhgamaakkoplaaRows
import Derived.Lib.Strings
import Derived.Lib.Slices
import Derived.Lib.Small
import Derived.Lib.Walk
import Derived.Lib.BitFns
import Derived.Test.YtfhgamaakkoplaaMvaa
namespace Go.Proofs.Ytfhgamaakkoplaa
open Gf2

theorem bitLenAux_eq (n : Nat) : ∀ x, len x ≤ n → Lib.bitLenAux n x = len x := by
  induction n with
  | zero => intro x h; simp only [Lib.bitLenAux]; omega
  | succ n ih =>
    intro x h
    simp only [Lib.bitLenAux]
    split
    · rename_i h0; rw [h0]; rfl
    · rename_i h0
      have := len_pos.2 h0
      have hh := @len_half x
      rw [ih (x / 2) (by omega)]; omega
theorem bitLen_eq {x : Nat} (h : x < 2 ^ 64) : Lib.bitLen x = len x := bitLenAux_eq 64 x (len_le.2 h)

theorem len_shift {x : Nat} : ∀ k, 2 ^ k ≤ x → len x = k + len (x / 2 ^ k) := by
  intro k
  induction k with
  | zero => intro _; simp
  | succ k ih =>
    intro h
    have hk : 2 ^ k ≤ x := by rw [Nat.pow_succ] at h; omega
    have e : x / 2 ^ (k + 1) = x / 2 ^ k / 2 := by rw [Nat.div_div_eq_div_mul, Nat.pow_succ]
    have hp : 0 < x / 2 ^ k := Nat.div_pos hk (Nat.two_pow_pos k)
    have := len_pos.2 (show x / 2 ^ k ≠ 0 by omega)
    have hh := @len_half (x / 2 ^ k)
    rw [ih hk, e]; omega

/-- what the table says of what is left of x behind k places. -/
theorem tab (x k y : Nat) (hy : y = x / 2 ^ k) (h1 : y < 256) (h2 : k = 0 ∨ 2 ^ k ≤ x) : Lib.bitLen y + k = len x ∧ Lib.bitLen y ≤ 8 := by
  have l8 : len y ≤ 8 := len_le.2 h1
  rw [bitLen_eq (Nat.lt_of_lt_of_le h1 (by decide))]
  rcases h2 with h2 | h2
  · subst h2; rw [Nat.pow_zero, Nat.div_one] at hy; subst hy; omega
  · have := len_shift k h2
    rw [← hy] at this; omega

set_option maxHeartbeats 4000000 in
set_option maxRecDepth 100000 in
theorem len64_int (x : Int) (w : World) (h0 : 0 ≤ x) (h1 : x ≤ 18446744073709551615) :
    Calls Try.prog 86 #[.int .u64 x] w fun e w' => e = .returned (.int .i64 ((len x.toNat : Nat) : Int)) ∧ w' = w := by
  go_enter Try.func86, Try.ntmps86
  go_wp2
  all_goals (go_ret; refine ⟨congrArg (fun n => Ending.returned (Value.int IntKind.i64 n)) ?_, rfl⟩)
  all_goals first
    | (rw [Lib.len8_of (x / 4294967296 / 65536 / 256 % 256) (by omega) (by omega)]; have t := tab x.toNat 56 (x / 4294967296 / 65536 / 256 % 256).toNat (by omega) (by omega) (by omega); omega)
    | (rw [Lib.len8_of (x / 4294967296 / 65536 % 256) (by omega) (by omega)]; have t := tab x.toNat 48 (x / 4294967296 / 65536 % 256).toNat (by omega) (by omega) (by omega); omega)
    | (rw [Lib.len8_of (x / 4294967296 / 256 % 256) (by omega) (by omega)]; have t := tab x.toNat 40 (x / 4294967296 / 256 % 256).toNat (by omega) (by omega) (by omega); omega)
    | (rw [Lib.len8_of (x / 4294967296 % 256) (by omega) (by omega)]; have t := tab x.toNat 32 (x / 4294967296 % 256).toNat (by omega) (by omega) (by omega); omega)
    | (rw [Lib.len8_of (x / 65536 / 256 % 256) (by omega) (by omega)]; have t := tab x.toNat 24 (x / 65536 / 256 % 256).toNat (by omega) (by omega) (by omega); omega)
    | (rw [Lib.len8_of (x / 65536 % 256) (by omega) (by omega)]; have t := tab x.toNat 16 (x / 65536 % 256).toNat (by omega) (by omega) (by omega); omega)
    | (rw [Lib.len8_of (x / 256 % 256) (by omega) (by omega)]; have t := tab x.toNat 8 (x / 256 % 256).toNat (by omega) (by omega) (by omega); omega)
    | (rw [Lib.len8_of (x % 256) (by omega) (by omega)]; have t := tab x.toNat 0 (x % 256).toNat (by omega) (by omega) (by omega); omega)
end Go.Proofs.Ytfhgamaakkoplaa
