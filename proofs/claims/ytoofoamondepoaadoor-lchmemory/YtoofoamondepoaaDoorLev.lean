import Derived.Test.YtoofoamondepoaaDoorLeb
namespace Go.Proofs.YtoofoamondepoaaDoor
open Go.RowKit Gf2
set_option linter.unusedVariables false

theorem eval13_size2 (a : Option Addr) (n cap : Nat) (x : Int) (w : World) (hn : 65536 < n) :
    Calls Tryd.prog 11 #[.slice a n cap, .int .u16 x] w fun e w' => e = .returned (.tuple #[.int .u16 0, .int .i64 5]) ∧ w' = w := by
  have D1 : decide ((65536 : Int) < (n : Int)) = true := by simp; omega
  clear hn
  go_enter Tryd.func11, Tryd.ntmps11
  go_wp2
  go_ret2
  exact ⟨rfl, rfl⟩
/-- what Eval answers. -/
def evn (n x : Nat) (F : Nat → Nat) : Nat := if n ≤ 65536 then sxx x F n else 0
def eve (n : Nat) : Nat := if n ≤ 65536 then 0 else 5
theorem evn_lt (n x : Nat) (F : Nat → Nat) : evn n x F < 65536 := by
  unfold evn; split
  · exact sxx_lt _ _ _
  · decide
theorem eval13_any (v : Value) (n x : Nat) (F : Nat → Nat) (w : World) (h : Q6 w v n F) (hx : x < 65536) (hC : Cant w) :
    Calls Tryd.prog 11 #[v, .int .u16 (x : Int)] w fun e w' => e = .returned (.tuple #[.int .u16 (evn n x F : Nat), .int .i64 (eve n : Nat)]) ∧ Below w.heap.size w w' := by
  unfold evn eve
  by_cases hn : n ≤ 65536
  · rw [if_pos hn, if_pos hn]
    exact eval13_yes v n x F w h hn hx hC
  · rw [if_neg hn, if_neg hn]
    obtain ⟨-, -, a, cap, rfl, -⟩ := h
    exact (eval13_size2 a n cap x w (by omega)).mono fun e w' ⟨h1, h2⟩ => ⟨h1, by rw [h2]; exact Below.refl _ _⟩
set_option maxHeartbeats 2000000 in
set_option maxRecDepth 100000 in
theorem asked13_6 (v u : Value) (er : Int) (w : World) (Q : World → Prop) (c1 : Calls Tryd.prog 12 #[v] w fun e w' => e = .returned (.tuple #[u, .int .i64 er]) ∧ Q w') :
    Calls Tryd.prog 21 #[.int .i64 6, v] w fun e w' => e = .returned (.tuple #[u, .int .i64 er]) ∧ Q w' := by
  go_enter Tryd.func21, Tryd.ntmps21
  go_wp2_with (go_at_call 12; ((with_reducible refine (c1).mono ?_); (rintro e w9 ⟨rfl, hq⟩)))
  go_ret2
  exact ⟨rfl, hq⟩
theorem q6_nil (w : World) : Q6 w (.slice none 0 0) 0 (fun _ => 0) := ⟨by decide, fun i hi => absurd hi (Nat.not_lt_zero _), none, 0, rfl, Nat.le_refl _, by decide, fun h => absurd h (Nat.lt_irrefl _)⟩
end Go.Proofs.YtoofoamondepoaaDoor
