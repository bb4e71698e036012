import Derived.Test.YtfbgcednodnioabDoorWalkd
namespace Go.Proofs.YtfbgcednodnioabDoor
open Go.RowKit Gf2

theorem pgcd_lt32 {a b : Nat} (ha : a < 4294967296) (hb : b < 4294967296) : pgcd a b < 4294967296 := by
  have h1 : len a ≤ 32 := len_le.2 ha
  have h2 : len b ≤ 32 := len_le.2 hb
  apply (len_le (n := 32)).1
  by_cases h : a = 0
  · subst h
    by_cases h' : b = 0
    · subst h'; decide
    · have := (dv_len (pgcd_dv 0 b).2 h').2; omega
  · have := (dv_len (pgcd_dv a b).1 h).2; omega
theorem mul_lt64 {a b : Nat} (ha : a < 4294967296) (hb : b < 4294967296) : mul a b < 18446744073709551616 := by
  have h1 : len a ≤ 32 := len_le.2 ha
  have h2 : len b ≤ 32 := len_le.2 hb
  have := len_mul_le a b
  exact (len_le (n := 64)).1 (by omega)

end Go.Proofs.YtfbgcednodnioabDoor
