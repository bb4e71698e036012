import Derived.Test.YtdnjddnjaekgeabNbc
namespace Go.Proofs.Ytdnjddnjaekgeab
open Go.RowKit Gf2
set_option linter.unusedVariables false

theorem Ow.made {W0 W : World} {K : Nat} {N B : Nat → Nat} {G : Nat → Nat → Nat} (h : Ow W0 K N B G W) (n : Nat) (hn : n ≤ 140737488355328) :
    Ow W0 (K + 1) (upn N K n) (upn B K W.heap.size) (upn G K (fun _ => 0)) (W.alloc (.cells (madeCells #[.int .u8 0] n) 5)) :=
  h.more ((Below.refl _ _).alloc (Nat.le_refl _) _) (Nat.le_refl _) (made_rw n hn W)

set_option maxHeartbeats 2000000 in
set_option maxRecDepth 100000 in
theorem times6_any (p : Addr) (lo hi c : Nat) (u : Value) (n : Nat) (S : Nat → Nat) (w : World) (hk : Nk w p lo hi) (hc : c < 256) (hu : Rb w u n S) (hn : n ≤ 140737488355328) :
    Calls Try.prog 14 #[.pointer (some p), .int .u8 (c : Int), u] w fun e w' => ∃ b, e = .returned (.slice (some ⟨b, 0, none⟩) n n) ∧ w.heap.size ≤ b ∧ Rw w' b n (fun i => fm 285 c (S i)) ∧ Below w.heap.size w w' := by
  obtain ⟨x, cx, rfl⟩ : ∃ x cx, u = .slice x n cx := by obtain ⟨_, _, a, cap, h, _⟩ := hu; exact ⟨a, cap, h⟩
  have hmk := make_u8 n hn
  have s0 := (Ow.start w (fun _ => 0) (fun _ => 0) (fun _ _ => 0)).made n hn
  have cC := ow_copied s0 n (s0.src hu) hn
  have hn2 : n ≤ big := hu.1
  clear hu
  go_enter Try.func14, Try.ntmps14
  go_wp2_with (first | (go_at_call 8; ((with_reducible refine (cC).mono ?_); (rintro e w1 ⟨b1, rfl, s1⟩; have cM := ow_mul s1 hk 0 c n (b := w.heap.size) n n rfl (by decide) rfl hc (s1.farRow 1 0 n (b := b1) rfl (by decide) (by decide) (by decide) (Nat.le_refl _))))) | (go_at_call 9; ((with_reducible refine (cM).mono ?_); (rintro e w2 ⟨rfl, s2⟩))))
  go_ret
  exact ⟨_, rfl, Nat.le_refl _, s2.row (t := 0) (by decide), s2.1⟩

section
variable {W0 W : World} {K : Nat} {N B : Nat → Nat} {G : Nat → Nat → Nat} {p : Addr} {lo hi : Nat}
theorem ow_times (h : Ow W0 K N B G W) (hk : Nk W0 p lo hi) (c n : Nat) {u : Value} {S : Nat → Nat} (hc : c < 256) (hu : Rb W u n S) (hn : n ≤ 140737488355328) :
    Calls Try.prog 14 #[.pointer (some p), .int .u8 (c : Int), u] W fun e w' => ∃ b, e = .returned (.slice (some ⟨b, 0, none⟩) n n) ∧ Ow W0 (K + 1) (upn N K n) (upn B K b) (upn G K (fun i => fm 285 c (S i))) w' :=
  (times6_any p lo hi c u n S W (h.nk hk) hc hu hn).mono fun e w' ⟨b, a1, a2, a3, a4⟩ => ⟨b, a1, h.more a4 a2 a3⟩
theorem ow_times_one (h : Ow W0 K N B G W) (hk : Nk W0 p lo hi) (n : Nat) {u : Value} {S : Nat → Nat} (hu : Rb W u n S) (hn : n ≤ 140737488355328) :
    Calls Try.prog 14 #[.pointer (some p), .int .u8 1, u] W fun e w' => ∃ b, e = .returned (.slice (some ⟨b, 0, none⟩) n n) ∧ Ow W0 (K + 1) (upn N K n) (upn B K b) (upn G K (fun i => fm 285 1 (S i))) w' := ow_times h hk 1 n (by decide) hu hn
theorem ow_times_zero (h : Ow W0 K N B G W) (hk : Nk W0 p lo hi) (n : Nat) {u : Value} {S : Nat → Nat} (hu : Rb W u n S) (hn : n ≤ 140737488355328) :
    Calls Try.prog 14 #[.pointer (some p), .int .u8 0, u] W fun e w' => ∃ b, e = .returned (.slice (some ⟨b, 0, none⟩) n n) ∧ Ow W0 (K + 1) (upn N K n) (upn B K b) (upn G K (fun i => fm 285 0 (S i))) w' := ow_times h hk 0 n (by decide) hu hn
end
end Go.Proofs.Ytdnjddnjaekgeab
