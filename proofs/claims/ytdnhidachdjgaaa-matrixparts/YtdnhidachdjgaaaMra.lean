import Derived.Test.YtdnhidachdjgaaaMxe
import Derived.Test.YtdnhidachdjgaaaDgfr
namespace Go.Proofs.Ytdnhidachdjgaaa
open Go.RowKit Gf2
set_option linter.unusedVariables false

set_option maxHeartbeats 2000000 in
set_option maxRecDepth 100000 in
theorem rzeros10 (m c : Nat) (w : World) (hm : 24 * m ≤ 140737488355328) (hc : c ≤ 140737488355328) :
    Calls Try.prog 68 #[.int .i64 (m : Int), .int .i64 (c : Int)] w fun e w' => e = .returned (.slice (some ⟨w.heap.size, 0, none⟩) m m) ∧ Zr w w' m c m := by
  have hmk := make_rows m hm
  have hm8 := make_u8 c hc
  go_enter Try.func68, Try.ntmps68
  go_wp2
  go_loopw [6] (fun i wr => ∃ k : Nat, k ≤ m ∧ i = .int .i64 k ∧ Zr w wr m c k) (fun i _ => m - (intOf i).toNat)
  case atStart => exact ⟨0, Nat.zero_le _, rfl, Zr.start w m c⟩
  case round =>
    obtain ⟨k, hk, rfl, hz⟩ := hrel
    by_cases hlt : k < m
    · have ha : (wr.alloc (.cells (madeCells #[.int .u8 0] c) 5)).rowIs w.heap.size 38 m (fun i => if i < k then .slice (some ⟨w.heap.size + 1 + i, 0, none⟩) c c else .slice none 0 0) := hz.list.of_block (Below.heap_alloc wr _ _ (by have := hz.sz; omega))
      have q1 := ha.cell hlt
      rw [if_neg (Nat.lt_irrefl _)] at q1
      have q2 := ha.frozen k
      clear ha
      have ib : ((k : Nat) : Int) < (m : Int) := by omega
      have W1 := wrap_succ8 (j := k) (by unfold big; omega)
      have HZ : Hid (Zr w ((wr.alloc (.cells (madeCells #[.int .u8 0] c) 5)).setCell ⟨w.heap.size, k, none⟩ (.slice (some ⟨wr.heap.size, 0, none⟩) c c)) m c (k + 1)) := hz.step hc hlt
      clear hz hmk
      go_wp2
      go_roundw
      case rel => exact ⟨k + 1, hlt, by first | rfl | (rw [W1]; rfl), HZ.out⟩
      case measure => first | exact meas_lt8 hlt | (rw [W1]; exact meas_lt8 hlt)
    · have hkn : k = m := by omega
      subst hkn
      go_wp2
      go_ret
      exact ⟨rfl, hz⟩
set_option maxHeartbeats 2000000 in
set_option maxRecDepth 100000 in
theorem rcheck10 (v : Value) (m : Nat) (n : Nat → Nat) (S : Nat → Nat → Nat) (w : World) (h : Lb w v m n S) :
    Calls Try.prog 42 #[v] w fun e w' => (∃ e0 : Nat, e = .returned (.int .i64 (e0 : Nat)) ∧ (e0 = 0 ∧ Fm m n ∨ e0 = 100 ∧ ¬ Fm m n)) ∧ ∃ q, w' = w.drewN q := by
  obtain ⟨V, ⟨hn, a, cap, rfl, -, -, h4⟩, hV⟩ := h
  by_cases h1 : 1 ≤ m
  case neg =>
    have nF : ¬ Fm m n := fun f => h1 f.1
    have i1 : (m : Int) < 1 := by omega
    go_enter Try.func42, Try.ntmps42
    go_wp2
    go_ret
    first | exact ⟨rfl, 0, rfl⟩ | exact ⟨⟨100, rfl, .inr ⟨rfl, nF⟩⟩, 0, rfl⟩
  case pos =>
  have i1 : ¬ (m : Int) < 1 := by omega
  by_cases h1b : m ≤ 256
  case neg =>
    have nF : ¬ Fm m n := fun f => h1b f.2.1
    have i2 : (256 : Int) < (m : Int) := by omega
    go_enter Try.func42, Try.ntmps42
    go_wp2
    go_ret
    first | exact ⟨rfl, 0, rfl⟩ | exact ⟨⟨100, rfl, .inr ⟨rfl, nF⟩⟩, 0, rfl⟩
  case pos =>
    have i2 : ¬ (256 : Int) < (m : Int) := by omega
    obtain ⟨b, o, rfl, hbl, hc⟩ := h4 (by omega)
    clear h4
    have sl : ∀ i, i < m → ∃ x y, w.cell? ⟨b, o + i, none⟩ = some (.slice x (n i) y) := fun i hi => by
      obtain ⟨_, _, x, y, e, _⟩ := hV i hi
      exact ⟨x, y, by rw [hc i hi, e]⟩
    obtain ⟨x0, y0, z0⟩ := sl 0 (by omega)
    rw [Nat.add_zero] at z0
    clear hc hV
    have i0 : (0 : Int) < (m : Int) := by omega
    by_cases h2 : 1 ≤ n 0
    case neg =>
      have i3 : (n 0 : Int) < 1 := by omega
      have nF : ¬ Fm m n := fun f => h2 f.2.2.1
      clear sl
      go_enter Try.func42, Try.ntmps42
      go_wp2
      go_ret
      first | exact ⟨rfl, 0, rfl⟩ | exact ⟨⟨100, rfl, .inr ⟨rfl, nF⟩⟩, 0, rfl⟩
    case pos =>
    have i3 : ¬ (n 0 : Int) < 1 := by omega
    by_cases h2b : n 0 ≤ 512
    case neg =>
      have i4 : (512 : Int) < (n 0 : Int) := by omega
      have nF : ¬ Fm m n := fun f => h2b f.2.2.2.1
      clear sl
      go_enter Try.func42, Try.ntmps42
      go_wp2
      go_ret
      first | exact ⟨rfl, 0, rfl⟩ | exact ⟨⟨100, rfl, .inr ⟨rfl, nF⟩⟩, 0, rfl⟩
    case pos =>
      have i4 : ¬ (512 : Int) < (n 0 : Int) := by omega
      go_enter Try.func42, Try.ntmps42
      go_wp2
      go_loopw [3] (fun i wr => ∃ k q : Nat, k ≤ m ∧ i = .int .i64 k ∧ (∀ i, i < k → n i = n 0) ∧ wr = w.drewN q) (fun i _ => m - (intOf i).toNat)
      case atStart => exact ⟨0, 0, Nat.zero_le _, rfl, fun i hi => absurd hi (Nat.not_lt_zero _), rfl⟩
      case round =>
        obtain ⟨k, q, hk, rfl, hE, hw⟩ := hrel
        by_cases hlt : k < m
        · obtain ⟨xk, yk, zk⟩ := sl k hlt
          have zk : wr.cell? ⟨b, o + k, none⟩ = some (.slice xk (n k) yk) := by rw [hw]; exact zk
          have z0 : wr.cell? ⟨b, o, none⟩ = some (.slice x0 (n 0) y0) := by rw [hw]; exact z0
          have ib : ((k : Nat) : Int) < (m : Int) := by omega
          have W1 := wrap_succ8 (j := k) (by unfold big; omega)
          have HE : Hid ((∀ i, i < k → n i = n 0) ∧ wr = w.drewN q) := ⟨hE, hw⟩
          by_cases hnk : n k = n 0
          · have Hn : Hid (n k = n 0) := hnk
            rw [hnk] at zk
            clear sl hE hnk hw
            go_wp2
            go_quiet (fail)
            go_wp2
            go_roundw
            case rel =>
              refine ⟨k + 1, q + nq, hlt, by first | rfl | (rw [W1]; rfl), fun i hi => ?_, by rw [HE.out.2, World.drewN_drewN]⟩
              by_cases e : i = k
              · rw [e]; exact Hn.out
              · exact HE.out.1 i (by omega)
            case measure => first | exact meas_lt8 hlt | (rw [W1]; exact meas_lt8 hlt)
          · have hI : ¬ ((n k : Nat) : Int) = ((n 0 : Nat) : Int) := by omega
            have nF : ¬ Fm m n := fun f => hnk (f.2.2.2.2 k hlt)
            clear sl hE hnk hw
            go_wp2
            go_quiet (fail)
            go_wp2
            go_ret
            exact ⟨⟨100, rfl, .inr ⟨rfl, nF⟩⟩, q + nq, by rw [HE.out.2, World.drewN_drewN]⟩
        · have hkn : k = m := by omega
          subst hkn
          clear sl
          subst hw
          go_wp2
          go_ret
          exact ⟨⟨0, rfl, .inl ⟨rfl, h1, h1b, h2, h2b, hE⟩⟩, _, rfl⟩
set_option maxHeartbeats 2000000 in
set_option maxRecDepth 100000 in
theorem rident10_no (n : Int) (w : World) (h : n < 1 ∨ 256 < n) :
    Calls Try.prog 43 #[.int .i64 n] w fun e w' => e = .returned (.tuple #[.slice none 0 0, .int .i64 100]) ∧ w' = w := by
  by_cases h1 : n < 1
  · go_enter Try.func43, Try.ntmps43
    go_wp2
    go_ret2
    exact ⟨rfl, rfl⟩
  · have h2 : 256 < n := by omega
    go_enter Try.func43, Try.ntmps43
    go_wp2
    go_ret2
    exact ⟨rfl, rfl⟩
set_option maxHeartbeats 2000000 in
set_option maxRecDepth 100000 in
theorem rident10_yes (n : Nat) (w : World) (h1 : 1 ≤ n) (h2 : n ≤ 256) :
    Calls Try.prog 43 #[.int .i64 (n : Int)] w fun e w' => ∃ v, e = .returned (.tuple #[v, .int .i64 0]) ∧ Ans w w' v n n idm := by
  have c1a : ¬ (n : Int) < 1 := by omega
  have c1b : ¬ (256 : Int) < (n : Int) := by omega
  have c2 := fun x => rzeros10 n n x (by omega) (by omega)
  go_enter Try.func43, Try.ntmps43
  go_wp2_with (go_at_call 68; (with_reducible refine (c2 _).mono ?_); rintro e w1 ⟨rfl, hz⟩)
  clear c2
  have hC := hz.cs (by unfold big; omega) (by unfold big; omega)
  have hb := hz.bel
  clear hz
  generalize hB : (fun i => w.heap.size + 1 + i) = B at hC
  clear hB
  go_loopw [5] (fun i wr => ∃ k : Nat, k ≤ n ∧ i = .int .i64 k ∧ Cs w.heap.size w1.heap.size wr (.slice (some ⟨w.heap.size, 0, none⟩) n n) n (fun _ => n) (fun _ => n) B (fun i j => if i < k ∧ i = j then 1 else 0) ∧ Below w.heap.size w wr) (fun i _ => n - (intOf i).toNat)
  case atStart => exact ⟨0, Nat.zero_le _, rfl, hC.congr (fun i _ j _ => (if_neg (by omega)).symm), hb⟩
  case round =>
    obtain ⟨k, hk, rfl, hC', hb'⟩ := hrel
    clear hC hb
    by_cases hlt : k < n
    · have q1 := hC'.at_ hlt
      have q2 := hC'.cell_ hlt (j := k) hlt
      have q3 := hC'.froz hlt k
      have ib : ((k : Nat) : Int) < (n : Int) := by omega
      have W1 := wrap_succ8 (j := k) (by unfold big; omega)
      have HZ : Hid (Cs w.heap.size w1.heap.size (wr.setCell ⟨B k, k, none⟩ (.int .u8 ((1 : Nat) : Int))) (.slice (some ⟨w.heap.size, 0, none⟩) n n) n (fun _ => n) (fun _ => n) B (fun i j => if i < k + 1 ∧ i = j then 1 else 0) ∧ Below w.heap.size w (wr.setCell ⟨B k, k, none⟩ (.int .u8 ((1 : Nat) : Int)))) :=
        ⟨(hC'.set hlt k 1 (by decide)).congr (fun i _ j _ => by
          show (if i = k ∧ j = k then 1 else if i < k ∧ i = j then 1 else 0) = (if i < k + 1 ∧ i = j then 1 else 0)
          by_cases e : i = k ∧ j = k
          · rw [if_pos e, if_pos (by omega)]
          · rw [if_neg e]
            by_cases e2 : i < k ∧ i = j
            · rw [if_pos e2, if_pos (by omega)]
            · rw [if_neg e2, if_neg (by omega)]), hC'.bel hb' hlt k _⟩
      clear hC' hb'
      go_wp2
      go_roundw
      case rel => exact ⟨k + 1, hlt, by first | rfl | (rw [W1]; rfl), HZ.out.1, HZ.out.2⟩
      case measure => first | exact meas_lt8 hlt | (rw [W1]; exact meas_lt8 hlt)
    · have hkn : k = n := by omega
      subst hkn
      go_wp2
      go_ret2
      exact ⟨_, rfl, (hC'.ans (Nat.le_refl _) hb').congr (fun i hi j hj => by
        unfold idm
        by_cases e : i = j
        · rw [if_pos ⟨hi, e⟩, if_pos e]
        · rw [if_neg (fun h => e h.2), if_neg e])⟩
end Go.Proofs.Ytdnhidachdjgaaa
