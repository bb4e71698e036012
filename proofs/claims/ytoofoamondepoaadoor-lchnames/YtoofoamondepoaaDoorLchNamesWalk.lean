import Derived.Test.YtoofoamondepoaaDoorLtb
namespace Go.Proofs.YtoofoamondepoaaDoor
open Go.RowKit Gf2
set_option linter.unusedVariables false

/-- a new list of noughts. -/
def mk6 (n : Nat) (w : World) : World := w.alloc (.cells (madeCells #[.int .u16 0] n) 26)
theorem mk6_r6 (n : Nat) (hn : n ≤ 140737488355328) (w : World) : R6 (mk6 n w) w.heap.size n (fun _ => 0) := made_r6 n hn w
theorem mk6_q6 (n : Nat) (hn : n ≤ 140737488355328) (w : World) : Q6 (mk6 n w) (.slice (some ⟨w.heap.size, 0, none⟩) n n) n (fun _ => 0) := (mk6_r6 n hn w).all
theorem mk6_b (n : Nat) (w : World) : Below w.heap.size w (mk6 n w) := made_b6 n w
theorem mk6_run (n : Nat) (hn : 2 * n ≤ 140737488355328) (w : World) : (Instr.makeSlice 22 (.int .i64 (n : Int)) (.int .i64 (n : Int))).run Tryd.prog w = .ok (.slice (some ⟨w.heap.size, 0, none⟩) n n) (mk6 n w) := make_w6 n hn w
theorem mk6_size (n : Nat) (w : World) : (mk6 n w).heap.size = w.heap.size + 1 := by simp [mk6]
set_option maxHeartbeats 4000000 in
set_option maxRecDepth 100000 in
theorem eval13_size (a : Option Addr) (n cap : Nat) (x : Int) (w : World) (hn : 65536 < n) :
    Calls Tryd.prog 11 #[.slice a n cap, .int .u16 x] w fun e w' => e = .returned (.tuple #[.int .u16 0, .int .i64 5]) ∧ w' = w := by
  have D1 : decide ((65536 : Int) < (n : Int)) = true := by simp; omega
  clear hn
  go_enter Tryd.func11, Tryd.ntmps11
  go_wp2
  go_ret2
  exact ⟨rfl, rfl⟩
theorem not_pw_512 : ¬ pw2 512 256 := fun ⟨k, h1, h2⟩ => by omega
theorem not_pw_131072 : ¬ pw2 131072 65536 := fun ⟨k, h1, h2⟩ => by omega
theorem names_first (w : World) (hC : Cant w) (hT : Tzt w) :
    Calls Tryd.prog 9 #[.slice (some ⟨w.heap.size, 0, none⟩) 512 512] (mk6 512 w) fun e w1 => e = .returned (.tuple #[.slice none 0 0, .int .i64 130]) ∧
    Calls Tryd.prog 10 #[.slice (some ⟨w1.heap.size, 0, none⟩) 256 256] (mk6 256 w1) fun e w2 => (∃ b, e = .returned (.tuple #[.slice (some ⟨b, 0, none⟩) 256 256, .int .i64 0])) ∧
    Calls Tryd.prog 11 #[.slice (some ⟨w2.heap.size, 0, none⟩) 65537 65537, .int .u16 1] (mk6 65537 w2) fun e w3 => e = .returned (.tuple #[.int .u16 0, .int .i64 5]) ∧
    Calls Tryd.prog 12 #[.slice (some ⟨w3.heap.size, 0, none⟩) 131072 131072] (mk6 131072 w3) fun e w4 => e = .returned (.tuple #[.slice none 0 0, .int .i64 130]) ∧
    Calls Tryd.prog 12 #[.slice (some ⟨w4.heap.size, 0, none⟩) 65536 65536] (mk6 65536 w4) fun e w5 => (∃ b, e = .returned (.tuple #[.slice (some ⟨b, 0, none⟩) 65536 65536, .int .i64 0])) ∧
    Calls Tryd.prog 13 #[] w5 fun e w6 => e = .returned (.bool true) ∧ Hid (Below w.heap.size w w6) := by
  refine (tomono13_no _ 512 _ _ (mk6_q6 512 (by decide) w) not_pw_512).mono fun e w1 ⟨he, hw1⟩ => ⟨he, ?_⟩
  have b1 : Below w.heap.size w w1 := by rw [hw1]; exact mk6_b 512 w
  have b1' := bthen13 b1 (mk6_b 256 w1)
  refine (frommono13_yes _ 8 256 _ rfl (by decide) _ (mk6_q6 256 (by decide) w1) (hT.below b1')).mono fun e w2 ⟨he, _, h2⟩ => ⟨⟨_, he⟩, ?_⟩
  have b2 := bthen13 b1' h2
  refine (eval13_size _ 65537 65537 1 _ (by decide)).mono fun e w3 ⟨he, hw3⟩ => ⟨he, ?_⟩
  have b3 : Below w.heap.size w w3 := by rw [hw3]; exact bthen13 b2 (mk6_b 65537 w2)
  refine (derivative13_no _ 131072 _ _ (mk6_q6 131072 (by decide) w3) not_pw_131072).mono fun e w4 ⟨he, hw4⟩ => ⟨he, ?_⟩
  have b4 : Below w.heap.size w w4 := by rw [hw4]; exact bthen13 b3 (mk6_b 131072 w3)
  have b4' := bthen13 b4 (mk6_b 65536 w4)
  refine (derivative13_yes _ 16 65536 _ rfl (by decide) _ (mk6_q6 65536 (by decide) w4) (hT.below b4')).mono fun e w5 ⟨he, _, h5⟩ => ⟨⟨_, he⟩, ?_⟩
  have b5 := bthen13 b4' h5
  exact (awake13 w5 (hC.below b5) (hT.below b5)).mono fun e w6 ⟨he, h6⟩ => ⟨he, bthen13 b5 h6⟩
set_option maxHeartbeats 4000000 in
set_option maxRecDepth 100000 in
theorem lchNames_any (w : World) (hC : Cant w) (hT : Tzt w) :
    Calls Tryd.prog 3 #[] w fun e w' => e = .returned (.bool true) ∧ Below w.heap.size w w' := by
  have c1 := names_first w hC hT
  have m1 : ∀ w, (Instr.makeSlice 22 (.int .i64 512) (.int .i64 512)).run Tryd.prog w = .ok (.slice (some ⟨w.heap.size, 0, none⟩) 512 512) (mk6 512 w) := mk6_run 512 (by decide)
  have m2 : ∀ w, (Instr.makeSlice 22 (.int .i64 256) (.int .i64 256)).run Tryd.prog w = .ok (.slice (some ⟨w.heap.size, 0, none⟩) 256 256) (mk6 256 w) := mk6_run 256 (by decide)
  have m3 : ∀ w, (Instr.makeSlice 22 (.int .i64 65537) (.int .i64 65537)).run Tryd.prog w = .ok (.slice (some ⟨w.heap.size, 0, none⟩) 65537 65537) (mk6 65537 w) := mk6_run 65537 (by decide)
  have m4 : ∀ w, (Instr.makeSlice 22 (.int .i64 131072) (.int .i64 131072)).run Tryd.prog w = .ok (.slice (some ⟨w.heap.size, 0, none⟩) 131072 131072) (mk6 131072 w) := mk6_run 131072 (by decide)
  have m5 : ∀ w, (Instr.makeSlice 22 (.int .i64 65536) (.int .i64 65536)).run Tryd.prog w = .ok (.slice (some ⟨w.heap.size, 0, none⟩) 65536 65536) (mk6 65536 w) := mk6_run 65536 (by decide)
  clear hC hT
  go_enter Tryd.func3, Tryd.ntmps3
  go_wp2_with (first | (go_at_call 9; ((with_reducible refine (c1).mono ?_); (rintro e w1 ⟨rfl, c2⟩))) | (go_at_call 10; ((with_reducible refine (c2).mono ?_); (rintro e w2 ⟨⟨b2, rfl⟩, c3⟩))) | (go_at_call 11; ((with_reducible refine (c3).mono ?_); (rintro e w3 ⟨rfl, c4⟩))) | (go_at_call 12; first | ((with_reducible refine (c4).mono ?_); (rintro e w4 ⟨rfl, c5⟩)) | ((with_reducible refine (c5).mono ?_); (rintro e w5 ⟨⟨b5, rfl⟩, c6⟩))) | (go_at_call 13; ((with_reducible refine (c6).mono ?_); (rintro e w6 ⟨rfl, HB⟩))))
  go_ret
  exact ⟨rfl, HB.out⟩
end Go.Proofs.YtoofoamondepoaaDoor
