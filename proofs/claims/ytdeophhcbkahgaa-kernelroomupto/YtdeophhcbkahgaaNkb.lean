import Derived.Test.YtdeophhcbkahgaaNka
namespace Go.Proofs.Ytdeophhcbkahgaa
open Go.RowKit Gf2
set_option linter.unusedVariables false

theorem info_half : (Try.prog.info? 132).map (·.size) = some 16 := by kernel_rfl

set_option maxHeartbeats 2000000 in
set_option maxRecDepth 100000 in
theorem multiples_nat (c m : Nat) (w : World) (hc : c < 256) (hm : m = 1 ∨ m = 16) :
    Calls Try.prog 81 #[.int .u8 (c : Int), .int .u8 (m : Int)] w fun e w' => e = .returned (.agg (halfRow c m 16)) ∧ Below w.heap.size w w' := by
  go_enter Try.func81, Try.ntmps81
  go_wp2
  go_loopw [6] (fun i wr => ∃ b : Nat, (pow2 b ∨ b = 16) ∧ i = .int .i64 b ∧ wr.heap.size = w.heap.size + 2 ∧
      wr.heap[w.heap.size]? = some (.cells (halfRow c m 0) 132 (0, 0)) ∧ wr.heap[w.heap.size + 1]? = some (.cells (halfRow c m b) 132 (0, 0)) ∧ Below w.heap.size w wr) (fun i _ => 16 - (intOf i).toNat)
  case atStart =>
    refine ⟨1, Or.inl (Or.inl rfl), rfl, by simp, ?_, ?_, ((Below.refl _ _).alloc (Nat.le_refl _) _).alloc (by simp) _⟩
    · rw [heap_alloc2_old, halfRow_zero]; rfl
    · rw [heap_alloc2_new, ← halfRow_one, halfRow_zero]; rfl
  case round =>
    obtain ⟨b, hb, rfl, hsz, h0, h1, hB⟩ := hrel
    by_cases hlt : b < 16
    · have hp : pow2 b := by rcases hb with h | h; exact h; omega
      have hbm : b * m < 256 := by unfold pow2 at hp; rcases hm with rfl | rfl <;> omega
      have m1 : IntKind.u8.wrap ((b : Nat) : Int) = (b : Int) := by rw [IntKind.wrap_u8]; omega
      have m2 : IntKind.u8.wrap ((b : Int) * (m : Int)) = (b : Int) * (m : Int) := by
        rw [IntKind.wrap_u8, show (b : Int) * (m : Int) = ((b * m : Nat) : Int) from (Int.natCast_mul _ _).symm]; omega
      have c1 : ∀ W, Calls Try.prog 46 #[.int .u8 (c : Int), .int .u8 ((b : Int) * (m : Int))] W fun e w' => e = .returned (.int .u8 (fm 285 c (b * m) : Nat)) ∧ w' = W := fun W => by
        have h := gmul_nat c (b * m) W hc hbm
        rw [Int.natCast_mul] at h
        exact h
      have ib : ((b : Nat) : Int) < 16 := by omega
      obtain ⟨P, hP⟩ : ∃ P, P = fm 285 c (b * m) := ⟨_, rfl⟩
      have HP : Hid (P = fm 285 c (b * m)) := hP
      have lP : P < 256 := by rw [hP]; exact fm8_lt _ _
      rw [← hP] at c1
      have HV : Hid (wr.heap.size = w.heap.size + 2 ∧ wr.heap[w.heap.size]? = some (.cells (halfRow c m 0) 132 (0, 0)) ∧ wr.heap[w.heap.size + 1]? = some (.cells (halfRow c m b) 132 (0, 0)) ∧ Below w.heap.size w wr ∧ pow2 b) := ⟨hsz, h0, h1, hB, hp⟩
      clear hsz h0 h1 hB hb hP hp
      go_wp2_with (go_at_call 46; ((with_reducible refine (c1 _).mono ?_); (rintro e w9 ⟨rfl, hw9⟩; have hw9 := hw9.symm; subst hw9)))
      go_loopw [20] (fun i wq => ∃ r : Nat, r ≤ b ∧ i = .int .i64 r ∧ wq.heap.size = w.heap.size + 2 ∧
        wq.heap[w.heap.size]? = some (.cells (halfRow c m 0) 132 (0, 0)) ∧ wq.heap[w.heap.size + 1]? = some (.cells (halfRow c m (b + r)) 132 (0, 0)) ∧ Below w.heap.size w wq) (fun i _ => 16 - (intOf i).toNat)
      case atStart => exact ⟨0, Nat.zero_le _, rfl, HV.out.1, HV.out.2.1, HV.out.2.2.1, HV.out.2.2.2.1⟩
      case round =>
        obtain ⟨r, hr, rfl, hsz, h0, h1, hB⟩ := hrel
        by_cases hrb : r < b
        · have hp := HV.out.2.2.2.2
          have hbr : b + r < 16 := by unfold pow2 at hp; omega
          have q1 := cell_of_row wr (w.heap.size + 1) r _ 132 (0, 0) h1
          have q2 := cell_of_row wr (w.heap.size + 1) (b + r) _ 132 (0, 0) h1
          rw [halfRow_get _ _ _ _ (by omega), if_pos (by omega)] at q1
          rw [halfRow_get _ _ _ _ hbr, if_neg (by omega)] at q2
          have z1 := frozen_of_row wr (w.heap.size + 1) (b + r) _ 132 h1
          have X := u8_xor_nat P (fm 285 c (r * m)) lP (fm8_lt _ _)
          rw [HP.out, half_step hp hm hrb, ← HP.out] at X
          obtain ⟨R, hR⟩ : ∃ R, R = fm 285 c (r * m) := ⟨_, rfl⟩
          rw [← hR] at q1 X
          obtain ⟨T, hT⟩ : ∃ T, T = fm 285 c ((b + r) * m) := ⟨_, rfl⟩
          rw [← hT] at X
          have new : (wr.setCell ⟨w.heap.size + 1, b + r, none⟩ (.int .u8 (T : Nat))).heap[w.heap.size + 1]? = some (.cells (halfRow c m (b + (r + 1))) 132 (0, 0)) := by
            rw [heap_setCell_same _ _ _ _ _ _ h1, hT, halfRow_set c m (b + r) hbr, Nat.add_assoc]
          have old : (wr.setCell ⟨w.heap.size + 1, b + r, none⟩ (.int .u8 (T : Nat))).heap[w.heap.size]? = some (.cells (halfRow c m 0) 132 (0, 0)) := by
            rw [heap_setCell_other _ _ _ _ (by simp)]; exact h0
          have HN : Hid ((wr.setCell ⟨w.heap.size + 1, b + r, none⟩ (.int .u8 (T : Nat))).heap.size = w.heap.size + 2 ∧ (wr.setCell ⟨w.heap.size + 1, b + r, none⟩ (.int .u8 (T : Nat))).heap[w.heap.size]? = some (.cells (halfRow c m 0) 132 (0, 0)) ∧ (wr.setCell ⟨w.heap.size + 1, b + r, none⟩ (.int .u8 (T : Nat))).heap[w.heap.size + 1]? = some (.cells (halfRow c m (b + (r + 1))) 132 (0, 0)) ∧ Below w.heap.size w (wr.setCell ⟨w.heap.size + 1, b + r, none⟩ (.int .u8 (T : Nat)))) := ⟨by simp [hsz], old, new, hB.setCell (by simp) _⟩
          have i1 : ((r : Nat) : Int) < 16 := by omega
          have i2 : ((r : Nat) : Int) < (b : Int) := by omega
          have i3 : (b : Int) + (r : Int) < 16 := by omega
          clear new old h0 h1 hB hsz hR hT hp
          go_wp2
          go_roundw
          case rel => exact ⟨r + 1, hrb, by go_num, HN.out.1, HN.out.2.1, HN.out.2.2.1, HN.out.2.2.2⟩
          case measure => simp [intOf]; omega
        · obtain rfl : r = b := by omega
          have hp := HV.out.2.2.2.2
          have h1' : wr.heap[w.heap.size + 1]? = some (.cells (halfRow c m (2 * r)) 132 (0, 0)) := by rw [Nat.two_mul]; exact h1
          have HN : Hid (wr.heap.size = w.heap.size + 2 ∧ wr.heap[w.heap.size]? = some (.cells (halfRow c m 0) 132 (0, 0)) ∧ wr.heap[w.heap.size + 1]? = some (.cells (halfRow c m (2 * r)) 132 (0, 0)) ∧ Below w.heap.size w wr ∧ (pow2 (2 * r) ∨ 2 * r = 16)) := ⟨hsz, h0, h1', hB, by unfold pow2 at *; omega⟩
          clear h0 h1 h1' hB hsz hp
          go_wp2
          go_roundw
          case rel => exact ⟨2 * r, HN.out.2.2.2.2, by go_num, HN.out.1, HN.out.2.1, HN.out.2.2.1, HN.out.2.2.2.1⟩
          case measure =>
            have := HV.out.2.2.2.2
            unfold pow2 at this
            simp [intOf]; omega
    · have hb6 : b = 16 := by unfold pow2 at hb; omega
      subst hb6
      have i53 : (Try.prog.info? 132).map (·.size) = some (halfRow c m 16).size := by rw [halfRow_size]; exact info_half
      have o53 : (halfRow c m 0).size = (halfRow c m 16).size := by rw [halfRow_size, halfRow_size]
      go_wp2_with (first | (refine wpList_load_row rfl 132 _ rfl (w.heap.size + 1) rfl 132 _ (0, 0) _ h1 Try.underlying132 rfl i53 ?_) | (refine wpList_store_row rfl 132 _ _ rfl w.heap.size (halfRow c m 16) rfl rfl 132 _ h0 i53 o53 (halfRow_all c m 16) ?_))
      refine bodyPost_ret (v := .agg (halfRow c m 16)) ?_ rfl ⟨rfl, ?_⟩
      · exact results_cell_row (P := Try.prog) (fn := Try.f81) rfl _ _ w.heap.size 132 (halfRow c m 16) (0, 0) _ rfl (setRow_heap _ _ _ _ _ _ h0) Try.underlying132 rfl i53
      · exact below_setRow hB (Nat.le_refl _) _
end Go.Proofs.Ytdeophhcbkahgaa
