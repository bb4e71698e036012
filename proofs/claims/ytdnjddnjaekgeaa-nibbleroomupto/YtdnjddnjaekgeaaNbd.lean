import Derived.Test.YtdnjddnjaekgeaaNbc
namespace Go.Proofs.Ytdnjddnjaekgeaa
open Go.RowKit Gf2
set_option linter.unusedVariables false

theorem Ow.made {W0 W : World} {K : Nat} {N B : Nat → Nat} {G : Nat → Nat → Nat} (h : Ow W0 K N B G W) (n : Nat) (hn : n ≤ 140737488355328) :
    Ow W0 (K + 1) (upn N K n) (upn B K W.heap.size) (upn G K (fun _ => 0)) (W.alloc (.cells (madeCells #[.int .u8 0] n) 5)) :=
  h.more ((Below.refl _ _).alloc (Nat.le_refl _) _) (Nat.le_refl _) (made_rw n hn W)

set_option maxHeartbeats 2000000 in
set_option maxRecDepth 100000 in
theorem times6_any (p : Addr) (lo hi c : Nat) (u : Value) (n : Nat) (S : Nat → Nat) (w : World) (hk : Nk w p lo hi) (hc : c < 256) (hu : Rb w u n S) (hn : n ≤ 140737488355328) :
    Calls Try.prog 20 #[.pointer (some p), .int .u8 (c : Int), u] w fun e w' => ∃ b, e = .returned (.slice (some ⟨b, 0, none⟩) n n) ∧ w.heap.size ≤ b ∧ Rw w' b n (fun i => fm 285 c (S i)) ∧ Below w.heap.size w w' := by
  obtain ⟨x, cx, rfl⟩ : ∃ x cx, u = .slice x n cx := by obtain ⟨_, _, a, cap, h, _⟩ := hu; exact ⟨a, cap, h⟩
  have hmk := make_u8 n hn
  have s0 := (Ow.start w (fun _ => 0) (fun _ => 0) (fun _ _ => 0)).made n hn
  have cC := ow_copied s0 n (s0.src hu) hn
  have hn2 : n ≤ big := hu.1
  clear hu
  go_enter Try.func20, Try.ntmps20
  go_wp2_with (first | (go_at_call 15; ((with_reducible refine (cC).mono ?_); (rintro e w1 ⟨b1, rfl, s1⟩; have cM := ow_mul s1 hk 0 c n (b := w.heap.size) n n rfl (by decide) rfl hc (s1.farRow 1 0 n (b := b1) rfl (by decide) (by decide) (by decide) (Nat.le_refl _))))) | (go_at_call 14; ((with_reducible refine (cM).mono ?_); (rintro e w2 ⟨rfl, s2⟩))))
  go_ret
  exact ⟨_, rfl, Nat.le_refl _, s2.row (t := 0) (by decide), s2.1⟩

set_option maxHeartbeats 2000000 in
set_option maxRecDepth 100000 in
theorem sum6_any (u v : Value) (n m : Nat) (F G : Nat → Nat) (w : World) (h : Rb w u n F) (k : Rb w v m G) (hnm : n ≤ m) (hnb : n ≤ 140737488355328) :
    Calls Try.prog 21 #[u, v] w fun e w' => e = .returned (.slice (some ⟨w.heap.size, 0, none⟩) n n) ∧ Rw w' w.heap.size n (fun i => F i ^^^ G i) ∧ Below w.heap.size w w' := by
  obtain ⟨k1, k2, c, cap', rfl, -, -, k4⟩ := k
  have h2 := h.2.1
  have c1 := copied6_any u n F w h hnb
  go_enter Try.func21, Try.ntmps21
  go_wp2_with (go_at_call 15; ((with_reducible refine (c1).mono ?_); (rintro e w1 ⟨rfl, r1, b1, s1⟩)))
  clear c1 h
  go_loopw [11] (fun i wr => ∃ k : Nat, k ≤ n ∧ i = .int .i64 k ∧ Rw wr w.heap.size n (fun x => if x < k then F x ^^^ G x else F x) ∧ Below w.heap.size w wr) (fun i _ => n - (intOf i).toNat)
  case atStart => exact ⟨0, Nat.zero_le _, rfl, r1.congr (fun i _ => (if_neg (Nat.not_lt_zero _)).symm), b1⟩
  case round =>
    obtain ⟨k, hk, rfl, hr, hb⟩ := hrel
    by_cases hlt : k < n
    · have q1 := hr.2.2.cell hlt
      simp only [Nat.lt_irrefl, if_false] at q1
      obtain ⟨b', o', rfl, hbl', hc'⟩ := k4 (by omega)
      have q4 := (hb.cell (p := ⟨b', o' + k, none⟩) hbl').trans (hc' k (by omega))
      have q2 := hr.2.2.frozen k
      have ib : ((k : Nat) : Int) < (n : Int) := by omega
      have ib2 : ((k : Nat) : Int) < (m : Int) := by omega
      have W1 := wrap_succ8 (j := k) (by omega)
      have X := u8_xor_nat (F k) (G k) (h2 k (by omega)) (k2 k (by omega))
      have HV : Hid (Rw wr w.heap.size n (fun x => if x < k then F x ^^^ G x else F x) ∧ Below w.heap.size w wr ∧ F k ^^^ G k < 256) := ⟨hr, hb, Nat.xor_lt_two_pow (n := 8) (h2 k (by omega)) (k2 k (by omega))⟩
      clear hr hb h2 k1 k2 hc' k4 r1 b1 s1 hnm hnb
      go_wp2
      refine region_tail8 9 (by kernel_rfl) (by kernel_rfl) ?_
      simp only [List.take_succ_cons, List.take_zero, List.drop_succ_cons, List.drop_zero]
      repeat still_step
      refine wpStill_nil ?_
      go_wp2
      go_roundw
      case rel =>
        obtain ⟨g0, g2, g3⟩ := HV.out
        refine ⟨k + 1, hlt, by first | rfl | (rw [W1]; rfl), ⟨g0.1, fun i hi => ?_, World.rowIs.drew ((g0.2.2.set k _).congr (fun i hi => ?_))⟩, (g2.setCell (by simp) _).drew⟩
        · show (if i < k + 1 then F i ^^^ G i else F i) < 256
          by_cases e : i = k
          · subst e; rw [if_pos (Nat.lt_succ_self _)]; exact g3
          · have := g0.2.1 i hi
            simp only at this
            by_cases e2 : i < k
            · rw [if_pos e2] at this; rw [if_pos (by omega)]; exact this
            · rw [if_neg e2] at this; rw [if_neg (by omega)]; exact this
        · by_cases e : i = k
          · subst e; simp
          · by_cases e2 : i < k
            · simp [e, e2, show i < k + 1 by omega]
            · simp [e, e2, show ¬ i < k + 1 by omega]
      case measure => first | exact meas_lt8 hlt | (rw [W1]; exact meas_lt8 hlt)
    · have hkN : k = n := by omega
      subst hkN
      clear k4
      go_wp2
      go_ret
      exact ⟨rfl, hr.congr (fun i hi => if_pos hi), hb⟩

section
variable {W0 W : World} {K : Nat} {N B : Nat → Nat} {G : Nat → Nat → Nat} {p : Addr} {lo hi : Nat}
theorem ow_times (h : Ow W0 K N B G W) (hk : Nk W0 p lo hi) (c n : Nat) {u : Value} {S : Nat → Nat} (hc : c < 256) (hu : Rb W u n S) (hn : n ≤ 140737488355328) :
    Calls Try.prog 20 #[.pointer (some p), .int .u8 (c : Int), u] W fun e w' => ∃ b, e = .returned (.slice (some ⟨b, 0, none⟩) n n) ∧ Ow W0 (K + 1) (upn N K n) (upn B K b) (upn G K (fun i => fm 285 c (S i))) w' :=
  (times6_any p lo hi c u n S W (h.nk hk) hc hu hn).mono fun e w' ⟨b, a1, a2, a3, a4⟩ => ⟨b, a1, h.more a4 a2 a3⟩
theorem ow_times_one (h : Ow W0 K N B G W) (hk : Nk W0 p lo hi) (n : Nat) {u : Value} {S : Nat → Nat} (hu : Rb W u n S) (hn : n ≤ 140737488355328) :
    Calls Try.prog 20 #[.pointer (some p), .int .u8 1, u] W fun e w' => ∃ b, e = .returned (.slice (some ⟨b, 0, none⟩) n n) ∧ Ow W0 (K + 1) (upn N K n) (upn B K b) (upn G K (fun i => fm 285 1 (S i))) w' := ow_times h hk 1 n (by decide) hu hn
theorem ow_times_zero (h : Ow W0 K N B G W) (hk : Nk W0 p lo hi) (n : Nat) {u : Value} {S : Nat → Nat} (hu : Rb W u n S) (hn : n ≤ 140737488355328) :
    Calls Try.prog 20 #[.pointer (some p), .int .u8 0, u] W fun e w' => ∃ b, e = .returned (.slice (some ⟨b, 0, none⟩) n n) ∧ Ow W0 (K + 1) (upn N K n) (upn B K b) (upn G K (fun i => fm 285 0 (S i))) w' := ow_times h hk 0 n (by decide) hu hn
theorem ow_sum (h : Ow W0 K N B G W) (n m : Nat) {u v : Value} {S T : Nat → Nat} (hu : Rb W u n S) (hv : Rb W v m T) (hnm : n ≤ m) (hn : n ≤ 140737488355328) :
    Calls Try.prog 21 #[u, v] W fun e w' => ∃ b, e = .returned (.slice (some ⟨b, 0, none⟩) n n) ∧ Ow W0 (K + 1) (upn N K n) (upn B K b) (upn G K (fun i => S i ^^^ T i)) w' :=
  (sum6_any u v n m S T W hu hv hnm hn).mono fun e w' ⟨a1, a2, a3⟩ => ⟨_, a1, h.more a3 (Nat.le_refl _) a2⟩
end
end Go.Proofs.Ytdnjddnjaekgeaa
