import Derived.Test.YtldacjpkblffbaaYhd
namespace Go.Proofs.Ytldacjpkblffbaa
open Go.RowKit Gf2
set_option linter.unusedVariables false

-- layer 16: Uses
set_option maxHeartbeats 2000000 in
set_option maxRecDepth 100000 in
theorem uses16 (f b : Int) (w : World) :
    Calls Try.prog 23 #[.int .i64 f, .int .i64 b] w fun e w' => e = .returned (.int .i64 (us16 f b)) ∧ w' = w := by
  unfold us16
  by_cases h0 : f = 0
  · subst h0
    go_enter Try.func23, Try.ntmps23
    go_wp2
    all_goals (go_ret; simp_all)
  by_cases h1 : f = 1
  · subst h1
    go_enter Try.func23, Try.ntmps23
    go_wp2
    all_goals (go_ret; simp_all)
  by_cases h2 : f = 2
  · subst h2
    go_enter Try.func23, Try.ntmps23
    go_wp2
    all_goals (go_ret; simp_all)
  have D0 : (f == 0) = false := by simpa using h0
  have D1 : (f == 1) = false := by simpa using h1
  have D2 : (f == 2) = false := by simpa using h2
  rw [if_neg (by omega), if_neg h2]
  go_enter Try.func23, Try.ntmps23
  go_wp2
  go_ret
  exact ⟨rfl, rfl⟩
set_option maxHeartbeats 2000000 in
set_option maxRecDepth 100000 in
theorem ruses16 (f b : Int) (w : World) :
    Calls Try.prog 24 #[.int .i64 f, .int .i64 b] w fun e w' => e = .returned (.int .i64 (us16 f b)) ∧ w' = w := by
  unfold us16
  by_cases h0 : f = 0
  · subst h0
    go_enter Try.func24, Try.ntmps24
    go_wp2
    all_goals (go_ret; simp_all)
  by_cases h1 : f = 1
  · subst h1
    go_enter Try.func24, Try.ntmps24
    go_wp2
    all_goals (go_ret; simp_all)
  by_cases h2 : f = 2
  · subst h2
    go_enter Try.func24, Try.ntmps24
    go_wp2
    all_goals (go_ret; simp_all)
  have D0 : (f == 0) = false := by simpa using h0
  have D1 : (f == 1) = false := by simpa using h1
  have D2 : (f == 2) = false := by simpa using h2
  rw [if_neg (by omega), if_neg h2]
  go_enter Try.func24, Try.ntmps24
  go_wp2
  go_ret
  exact ⟨rfl, rfl⟩
end Go.Proofs.Ytldacjpkblffbaa
