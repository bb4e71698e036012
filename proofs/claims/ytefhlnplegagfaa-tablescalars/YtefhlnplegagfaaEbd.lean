import Derived.Test.YtefhlnplegagfaaEbc
import Derived.StillTail
namespace Go.Proofs.Ytefhlnplegagfaa
open Go.RowKit Gf2
set_option linter.unusedVariables false

theorem region_tail8 {P : Program} {id : Nat} {Q : Exit → Act → World → Prop} {a : Act} {w : World} {l : List Oper} (n : Nat) (hm : P.follows .mixedOrders = true) (hB : Region.lexTailB .any l.toArray n = true)
    (h : wpStill P l.toArray w.drew (fun a' => wpList P l.toArray Q (l.drop n) a' w.drew) (l.take n) a) : (Code.region id l.toArray true).wp P Q a w := wp_region_still_tail n hm hB h

set_option maxHeartbeats 2000000 in
set_option maxRecDepth 100000 in
theorem sum5_any (u v : Value) (n1 n2 n : Nat) (F G : Nat → Nat) (w : World) (h : Rb w u n1 F) (k : Rb w v n2 G) (hn : n = min n1 n2) (hnb : n ≤ 140737488355328) :
    Calls Try.prog 11 #[u, v] w fun e w' => e = .returned (.slice (some ⟨w.heap.size, 0, none⟩) n n) ∧ Rw w' w.heap.size n (fun i => F i ^^^ G i) ∧ Below w.heap.size w w' ∧ w'.heap.size = w.heap.size + 1 := by
  obtain ⟨h1, h2, a, cap, rfl, -, -, h4⟩ := h
  obtain ⟨k1, k2, c, cap', rfl, -, -, k4⟩ := k
  have n1' : n ≤ n1 := by rw [hn]; exact Nat.min_le_left _ _
  have n2' : n ≤ n2 := by rw [hn]; exact Nat.min_le_right _ _
  have eM : min (n1 : Int) (n2 : Int) = (n : Int) := by rw [hn]; simp only [Int.min_def, Nat.min_def]; split <;> split <;> omega
  clear hn
  have hmk := make_u8 n hnb
  go_enter Try.func11, Try.ntmps11
  go_wp2
  clear hmk eM
  go_loopw [7] (fun i wr => ∃ k : Nat, k ≤ n ∧ i = .int .i64 k ∧ wr.heap.size = w.heap.size + 1 ∧ Rw wr w.heap.size n (fun x => if x < k then F x ^^^ G x else 0) ∧ Below w.heap.size w wr) (fun i _ => n - (intOf i).toNat)
  case atStart =>
    refine ⟨0, Nat.zero_le _, rfl, by simp, ?_, (Below.refl _ _).alloc (Nat.le_refl _) _⟩
    exact (made_rw n hnb w).congr (fun i _ => (if_neg (Nat.not_lt_zero _)).symm)
  case round =>
    obtain ⟨k, hk, rfl, hsz, hr, hb⟩ := hrel
    by_cases hlt : k < n
    · have q1 := hr.2.2.cell hlt
      simp only [Nat.lt_irrefl, if_false] at q1
      obtain ⟨b, o, rfl, hbl, hc⟩ := h4 (by omega)
      obtain ⟨b', o', rfl, hbl', hc'⟩ := k4 (by omega)
      have q3 := (hb.cell (p := ⟨b, o + k, none⟩) hbl).trans (hc k (by omega))
      have q4 := (hb.cell (p := ⟨b', o' + k, none⟩) hbl').trans (hc' k (by omega))
      have q2 := hr.2.2.frozen k
      have ib : ((k : Nat) : Int) < (n : Int) := by omega
      have ib1 : ((k : Nat) : Int) < (n1 : Int) := by omega
      have ib2 : ((k : Nat) : Int) < (n2 : Int) := by omega
      have W1 := wrap_succ8 (j := k) (by omega)
      have X := u8_xor_nat (F k) (G k) (h2 k (by omega)) (k2 k (by omega))
      have HV : Hid (Rw wr w.heap.size n (fun x => if x < k then F x ^^^ G x else 0) ∧ wr.heap.size = w.heap.size + 1 ∧ Below w.heap.size w wr ∧ F k ^^^ G k < 256) := ⟨hr, hsz, hb, Nat.xor_lt_two_pow (n := 8) (h2 k (by omega)) (k2 k (by omega))⟩
      clear hr hsz hb h1 h2 k1 k2 hc hc' h4 k4 n1' n2'
      go_wp2
      refine region_tail8 11 (by kernel_rfl) (by kernel_rfl) ?_
      simp only [List.take_succ_cons, List.take_zero, List.drop_succ_cons, List.drop_zero]
      repeat still_step
      refine wpStill_nil ?_
      go_wp2
      go_roundw
      case rel =>
        obtain ⟨g0, g1, g2, g3⟩ := HV.out
        refine ⟨k + 1, hlt, by first | rfl | (rw [W1]; rfl), by simp [g1], ⟨g0.1, fun i hi => ?_, World.rowIs.drew ((g0.2.2.set k _).congr (fun i hi => ?_))⟩, (g2.setCell (by simp) _).drew⟩
        · show (if i < k + 1 then F i ^^^ G i else 0) < 256
          by_cases e : i = k
          · subst e; rw [if_pos (Nat.lt_succ_self _)]; exact g3
          · have := g0.2.1 i hi
            simp only at this
            by_cases e2 : i < k
            · rw [if_pos e2] at this; rw [if_pos (by omega)]; exact this
            · rw [if_neg (by omega)]; decide
        · by_cases e : i = k
          · subst e; simp
          · by_cases e2 : i < k
            · simp [e, e2, show i < k + 1 by omega]
            · simp [e, e2, show ¬ i < k + 1 by omega]
      case measure => first | exact meas_lt8 hlt | (rw [W1]; exact meas_lt8 hlt)
    · have hkN : k = n := by omega
      subst hkN
      clear h4 k4
      go_wp2
      go_ret
      exact ⟨rfl, hr.congr (fun i hi => if_pos hi), hb, hsz⟩
end Go.Proofs.Ytefhlnplegagfaa
