import Derived.Test.YtdnjddnjaekgeaaNba
namespace Go.Proofs.Ytdnjddnjaekgeaa
open Go.RowKit Gf2
set_option linter.unusedVariables false

set_option maxHeartbeats 2000000 in
set_option maxRecDepth 100000 in
theorem equal6_true (u v : Value) (n : Nat) (F : Nat → Nat) (w : World) (h : Rb w u n F) (k : Rb w v n F) :
    Calls Try.prog 12 #[u, v] w fun e w' => e = .returned (.bool true) ∧ ∃ m, w' = w.drewN m := by
  obtain ⟨hn, hF, a, cap, rfl, -, -, h4⟩ := h
  obtain ⟨-, -, c, cap', rfl, -, -, k4⟩ := k
  go_enter Try.func12, Try.ntmps12
  go_wp2
  go_loopw [13] (fun i wr => ∃ k m : Nat, k ≤ n ∧ i = .int .i64 k ∧ wr = w.drewN m) (fun i _ => n - (intOf i).toNat)
  case atStart => exact ⟨0, 0, Nat.zero_le _, rfl, rfl⟩
  case round =>
    obtain ⟨k, m, hk, rfl, hw⟩ := hrel
    by_cases hlt : k < n
    · obtain ⟨b, o, rfl, -, hc⟩ := h4 (by omega)
      obtain ⟨b', o', rfl, -, hc'⟩ := k4 (by omega)
      have q1 : wr.cell? ⟨b, o + k, none⟩ = some (.int .u8 (F k : Nat)) := by rw [hw]; exact hc k hlt
      have q2 : wr.cell? ⟨b', o' + k, none⟩ = some (.int .u8 (F k : Nat)) := by rw [hw]; exact hc' k hlt
      have HW : Hid (wr = w.drewN m) := hw
      have ib : ((k : Nat) : Int) < (n : Int) := by omega
      have W1 := wrap_succ8 (j := k) (by omega)
      have HN : Hid (n ≤ big) := hn
      clear hc hc' hw h4 k4 hF hn
      go_wp2
      go_quiet (fail)
      go_wp2
      go_roundw
      case rel => exact ⟨k + 1, m + nq, hlt, by first | rfl | (rw [W1]; rfl), by rw [HW.out, World.drewN_drewN]⟩
      case measure => first | exact meas_lt8 hlt | (rw [W1]; exact meas_lt8 hlt)
    · have hk5 : k = n := by omega
      subst hk5
      subst hw
      go_wp2
      go_ret
      exact ⟨rfl, _, rfl⟩

set_option maxHeartbeats 2000000 in
set_option maxRecDepth 100000 in
theorem copied6_any (u : Value) (n : Nat) (F : Nat → Nat) (w : World) (h : Rb w u n F) (hnb : n ≤ 140737488355328) :
    Calls Try.prog 15 #[u] w fun e w' => e = .returned (.slice (some ⟨w.heap.size, 0, none⟩) n n) ∧ Rw w' w.heap.size n F ∧ Below w.heap.size w w' ∧ w'.heap.size = w.heap.size + 1 := by
  obtain ⟨h1, h2, a, cap, rfl, -, -, h4⟩ := h
  have hmk := make_u8 n hnb
  go_enter Try.func15, Try.ntmps15
  go_wp2
  clear hmk
  go_loopw [10] (fun i wr => ∃ k : Nat, k ≤ n ∧ i = .int .i64 k ∧ wr.heap.size = w.heap.size + 1 ∧ Rw wr w.heap.size n (fun x => if x < k then F x else 0) ∧ Below w.heap.size w wr) (fun i _ => n - (intOf i).toNat)
  case atStart =>
    refine ⟨0, Nat.zero_le _, rfl, by simp, ?_, (Below.refl _ _).alloc (Nat.le_refl _) _⟩
    exact (made_rw n hnb w).congr (fun i _ => (if_neg (Nat.not_lt_zero _)).symm)
  case round =>
    obtain ⟨k, hk, rfl, hsz, hr, hb⟩ := hrel
    by_cases hlt : k < n
    · have q1 := hr.2.2.cell hlt
      simp only [Nat.lt_irrefl, if_false] at q1
      obtain ⟨b, o, rfl, hbl, hc⟩ := h4 (by omega)
      have q3 := (hb.cell (p := ⟨b, o + k, none⟩) hbl).trans (hc k (by omega))
      have q2 := hr.2.2.frozen k
      have ib : ((k : Nat) : Int) < (n : Int) := by omega
      have W1 := wrap_succ8 (j := k) (by omega)
      have HV : Hid (Rw wr w.heap.size n (fun x => if x < k then F x else 0) ∧ wr.heap.size = w.heap.size + 1 ∧ Below w.heap.size w wr ∧ F k < 256) := ⟨hr, hsz, hb, h2 k (by omega)⟩
      clear hr hsz hb h1 h2 hc h4 hnb
      go_wp2
      go_roundw
      case rel =>
        obtain ⟨g0, g1, g2, g3⟩ := HV.out
        refine ⟨k + 1, hlt, by first | rfl | (rw [W1]; rfl), by simp [g1], ⟨g0.1, fun i hi => ?_, ((g0.2.2.set k _).congr (fun i hi => ?_))⟩, (g2.setCell (by simp) _)⟩
        · show (if i < k + 1 then F i else 0) < 256
          by_cases e : i = k
          · subst e; rw [if_pos (Nat.lt_succ_self _)]; exact g3
          · have := g0.2.1 i hi
            simp only at this
            by_cases e2 : i < k
            · rw [if_pos e2] at this; rw [if_pos (by omega)]; exact this
            · rw [if_neg (by omega)]; decide
        · by_cases e : i = k
          · subst e; simp
          · by_cases e2 : i < k
            · simp [e, e2, show i < k + 1 by omega]
            · simp [e, e2, show ¬ i < k + 1 by omega]
      case measure => first | exact meas_lt8 hlt | (rw [W1]; exact meas_lt8 hlt)
    · have hkN : k = n := by omega
      subst hkN
      clear h4
      go_wp2
      go_ret
      exact ⟨rfl, hr.congr (fun i hi => if_pos hi), hb, hsz⟩

section
variable {W0 W : World} {K : Nat} {N B : Nat → Nat} {G : Nat → Nat → Nat}
theorem ow_copied (h : Ow W0 K N B G W) {v : Value} (n : Nat) {S : Nat → Nat} (hv : Rb W v n S) (hn : n ≤ 140737488355328) :
    Calls Try.prog 15 #[v] W fun e w' => ∃ b, e = .returned (.slice (some ⟨b, 0, none⟩) n n) ∧ Ow W0 (K + 1) (upn N K n) (upn B K b) (upn G K S) w' :=
  (copied6_any v n S W hv hn).mono fun e w' ⟨a1, a2, a3, _⟩ => ⟨_, a1, h.more a3 (Nat.le_refl _) a2⟩
theorem ow_equal (h : Ow W0 K N B G W) {u v : Value} (n : Nat) {S T : Nat → Nat} (hu : Rb W u n S) (hv : Rb W v n T) (he : ∀ i, i < n → S i = T i) :
    Calls Try.prog 12 #[u, v] W fun e w' => e = .returned (.bool true) ∧ Ow W0 K N B G w' :=
  (equal6_true u v n T W (hu.congr he) hv).mono fun e w' ⟨a1, m, a2⟩ => ⟨a1, by subst a2; exact h.drewN m⟩
end
end Go.Proofs.Ytdnjddnjaekgeaa
