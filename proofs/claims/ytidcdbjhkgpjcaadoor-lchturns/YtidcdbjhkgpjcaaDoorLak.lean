import Derived.Test.YtidcdbjhkgpjcaaDoorLtb
namespace Go.Proofs.YtidcdbjhkgpjcaaDoor
open Go.RowKit Gf2
set_option linter.unusedVariables false

set_option maxHeartbeats 2000000 in
set_option maxRecDepth 100000 in
theorem asked13_7 (v u : Value) (er : Int) (w : World) (Q : World → Prop) (c1 : Calls Tryd.prog 37 #[v] w fun e w' => e = .returned (.tuple #[u, .int .i64 er]) ∧ Q w') :
    Calls Tryd.prog 21 #[.int .i64 7, v] w fun e w' => e = .returned (.tuple #[u, .int .i64 er]) ∧ Q w' := by
  go_enter Tryd.func21, Tryd.ntmps21
  go_wp2_with (go_at_call 37; ((with_reducible refine (c1).mono ?_); (rintro e w9 ⟨rfl, hq⟩)))
  go_ret2
  exact ⟨rfl, hq⟩
set_option maxHeartbeats 2000000 in
set_option maxRecDepth 100000 in
theorem asked13_8 (v u : Value) (er : Int) (w : World) (Q : World → Prop) (c1 : Calls Tryd.prog 38 #[v] w fun e w' => e = .returned (.tuple #[u, .int .i64 er]) ∧ Q w') :
    Calls Tryd.prog 21 #[.int .i64 8, v] w fun e w' => e = .returned (.tuple #[u, .int .i64 er]) ∧ Q w' := by
  go_enter Tryd.func21, Tryd.ntmps21
  go_wp2_with (go_at_call 38; ((with_reducible refine (c1).mono ?_); (rintro e w9 ⟨rfl, hq⟩)))
  go_ret2
  exact ⟨rfl, hq⟩
end Go.Proofs.YtidcdbjhkgpjcaaDoor
