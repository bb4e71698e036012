import Derived.Test.YtdnjddnjaekgeaaNke
namespace Go.Proofs.Ytdnjddnjaekgeaa
open Go.RowKit Gf2
set_option linter.unusedVariables false

/-- the two lists of Halves: rows of the type ht, hC bytes long. -/
def ht : TypeId := 5
def hC : Nat := 16

theorem info_u8h : (Try.prog.info? 5).map (·.size) = some 1 := by kernel_rfl
/-- sixteen bytes are copied into a row of sixteen. -/
theorem copy_half (W : World) (g s : Nat) (cur A : Array Value) (t t' : TypeId) (fr : Nat × Nat) (hg : W.heap[g]? = some (.cells cur t (0, 0))) (hc : cur.size = 16) (hA : W.heap[s]? = some (.cells A t' fr)) (hs : A.size = 16) (aA : A.all (·.oneCell') = true) :
    (Builtin.copy_ #[22, 22] 3 #[.slice (some ⟨g, 0, none⟩) 16 16, .slice (some ⟨s, 0, none⟩) 16 16]).run Try.prog W = .ok (goInt 16) (W.setRow g A) := by
  have hl : A.toList.length = 16 := by simpa using hs
  have h := run_copy_row (P := Try.prog) W 22 22 3 5 g 0 16 16 ⟨s, 0, none⟩ 16 16 cur t A.toList Try.underlying22 info_u8h hg (by rw [hl]; rfl)
    (fun j v hv => by
      have hadd : (⟨s, 0, none⟩ : Addr).add j = ⟨s, j, none⟩ := by unfold Addr.add; split <;> simp_all
      rw [hadd, cell_of_row W s j A t' fr hA]
      simpa using hv) (by rw [hl, hc]; decide) (fun v hv => by
      rw [Array.all_eq_true_iff_forall_mem] at aA
      exact aA v (by simpa using hv))
  rw [h, hl]
  congr 2
  rw [List.take_zero, List.nil_append, List.drop_eq_nil_of_le (by simp [hc]), List.append_nil, Array.toArray_toList]
theorem half_rowIs {W : World} {b c m : Nat} (h : W.heap[b]? = some (.cells (halfRow c m 16) 5 (0, 0))) : W.rowIs b ht hC (fun i => .int .u8 ((fun i => fm 285 c (i * m)) i : Nat)) :=
  ⟨_, h, halfRow_size _ _ _, fun i hi => by
    have hi' : i < 16 := hi
    rw [halfRow_get _ _ _ _ hi', if_pos hi']⟩

theorem two_only {c : Nat} {w w1 : World} {A B : Array Value} (hb : Below w.heap.size w w1) :
    Two c w1.heap.size (((((w1.alloc (.cells A 53)).alloc (.cells B 53)).setRow w1.heap.size (halfRow c 1 16))).setRow (w1.heap.size + 1) (halfRow c 16 16)) ∧
    Below w.heap.size w (((((w1.alloc (.cells A 53)).alloc (.cells B 53)).setRow w1.heap.size (halfRow c 1 16))).setRow (w1.heap.size + 1) (halfRow c 16 16)) := by
  have h1 := heap_alloc2_old w1 (.cells A 53) (.cells B 53)
  have h2 := heap_alloc2_new w1 (.cells A 53) (.cells B 53)
  refine ⟨⟨?_, ?_⟩, below_setRow (below_setRow ((hb.alloc hb.size _).alloc (by have := hb.size; simp; omega) _) hb.size _) (by have := hb.size; omega) _⟩
  · rw [setRow_other _ _ _ _ (Nat.succ_ne_self _).symm]
    exact setRow_heap _ _ _ _ _ _ h1
  · exact setRow_heap _ _ _ _ _ _ ((setRow_other _ _ _ _ (Nat.succ_ne_self _)).trans h2)
/-- two rows of noughts more. -/
theorem two_more {c b : Nat} {w W : World} (ht : Two c b W) (hb : Below w.heap.size w W) (Z : Array Value) :
    (((W.alloc (.cells Z 5)).alloc (.cells Z 5)).drew).heap[W.heap.size]? = some (.cells Z 5 (0, 0)) ∧ (((W.alloc (.cells Z 5)).alloc (.cells Z 5)).drew).heap[W.heap.size + 1]? = some (.cells Z 5 (0, 0)) ∧
    (((W.alloc (.cells Z 5)).alloc (.cells Z 5)).drew).heap[b]? = some (.cells (halfRow c 1 16) 53 (0, 0)) ∧ (((W.alloc (.cells Z 5)).alloc (.cells Z 5)).drew).heap[b + 1]? = some (.cells (halfRow c 16 16) 53 (0, 0)) ∧
    Below w.heap.size w (((W.alloc (.cells Z 5)).alloc (.cells Z 5)).drew) ∧ w.heap.size ≤ W.heap.size ∧ b < W.heap.size ∧ b + 1 < W.heap.size := by
  have l1 := (Array.getElem?_eq_some_iff.1 ht.1).1
  have l2 := (Array.getElem?_eq_some_iff.1 ht.2).1
  have nB : Below W.heap.size W ((W.alloc (.cells Z 5)).alloc (.cells Z 5)) := ((Below.refl _ _).alloc (Nat.le_refl _) _).alloc (by simp) _
  refine ⟨heap_alloc2_old _ _ _, heap_alloc2_new _ _ _, (nB.block b l1).trans ht.1, (nB.block (b + 1) l2).trans ht.2, (hb.trans (nB.mono hb.size)).drew, hb.size, l1, l2⟩
theorem make_half : ∃ Z : Array Value, Z.size = 16 ∧ ∀ w : World, (Instr.makeSlice 22 (.int .i64 16) (.int .i64 16)).run Try.prog w = .ok (.slice (some ⟨w.heap.size, 0, none⟩) 16 16) (w.alloc (.cells Z 5)) :=
  ⟨madeCells #[.int .u8 0] 16, by kernel_rfl, fun w => run_make_row' (P := Try.prog) 22 5 (.int .u8 0) 1 Try.underlying22 (by kernel_rfl) rfl .i64 .i64 16 (by decide) (by decide) w⟩

set_option maxHeartbeats 4000000 in
set_option maxRecDepth 100000 in
theorem nhalves_any (c : Nat) (w : World) (hc : c < 256) :
    Calls Try.prog 9 #[.int .u8 (c : Int)] w fun e w' => ∃ b d, e = .returned (.tuple #[.slice (some ⟨b, 0, none⟩) 16 hC, .slice (some ⟨d, 0, none⟩) 16 hC]) ∧ w.heap.size ≤ b ∧ w.heap.size ≤ d ∧ b ≠ d ∧
      (∃ F : Nat → Nat, w'.rowIs b ht hC (fun i => .int .u8 (F i : Nat)) ∧ ∀ i, i < 16 → F i = fm 285 c i) ∧ (∃ F : Nat → Nat, w'.rowIs d ht hC (fun i => .int .u8 (F i : Nat)) ∧ ∀ i, i < 16 → F i = fm 285 c (16 * i)) ∧ Below w.heap.size w w' := by
  have u2 := nhalf_nat c w hc
  obtain ⟨Z, sZ, hmk⟩ := make_half
  have HZ : Hid (Z.size = 16) := sZ
  have iL : (Try.prog.info? 53).map (·.size) = some (halfRow c 1 16).size := by rw [halfRow_size]; exact info_half
  have iH : (Try.prog.info? 53).map (·.size) = some (halfRow c 16 16).size := by rw [halfRow_size]; exact info_half
  have aL := halfRow_all c 1 16
  have aH := halfRow_all c 16 16
  have sL : Hid (16 = (halfRow c 1 16).size) := (halfRow_size _ _ _).symm
  have sH : Hid (16 = (halfRow c 16 16).size) := (halfRow_size _ _ _).symm
  obtain ⟨L, hL⟩ : ∃ L, L = halfRow c 1 16 := ⟨_, rfl⟩
  obtain ⟨H, hH⟩ : ∃ H, H = halfRow c 16 16 := ⟨_, rfl⟩
  rw [← hL, ← hH] at u2
  rw [← hL] at iL aL sL
  rw [← hH] at iH aH sH
  have HL : Hid (L = halfRow c 1 16) := hL
  have HH : Hid (H = halfRow c 16 16) := hH
  clear hL hH hc sZ
  go_enter Try.func9, Try.ntmps9
  go_wp2_with (first | (go_at_call 24; (with_reducible refine u2.mono ?_); rintro e w1 ⟨rfl, hb1⟩) | (refine wpList_store_row rfl 53 _ _ rfl w1.heap.size L rfl rfl 53 _ (heap_alloc2_old _ _ _) iL sL.out aL ?_) | (refine wpList_store_row rfl 53 _ _ rfl (w1.heap.size + 1) H rfl rfl 53 _ ((setRow_other _ _ _ _ (Nat.succ_ne_self _)).trans (heap_alloc2_new _ _ _)) iH sH.out aH ?_))
  generalize hW : (World.setRow _ (w1.heap.size + 1) H) = W
  have tl : Two c w1.heap.size W ∧ Below w.heap.size w W := by rw [← hW, HL.out, HH.out]; exact two_only hb1
  clear hW
  go_simp
  go_region
  · generalize hV : World.drew _ = V
    have f := two_more tl.1 tl.2 Z
    rw [hV] at f
    obtain ⟨f1, f2, f3, f4, f5, f6, f7, f8⟩ := f
    have HF : Hid (w.heap.size ≤ W.heap.size) := f6
    have r1 := copy_half V (W.heap.size) w1.heap.size Z L 5 53 (0, 0) f1 HZ.out (by rw [HL.out]; exact f3) sL.out.symm aL
    have r2 := copy_half (V.setRow (W.heap.size) L) (W.heap.size + 1) (w1.heap.size + 1) Z H 5 53 (0, 0) ((setRow_other _ _ _ _ (by omega)).trans f2) HZ.out ((setRow_other _ _ _ _ (by omega)).trans (by rw [HH.out]; exact f4)) sH.out.symm aH
    have g1 : ((V.setRow (W.heap.size) L).setRow (W.heap.size + 1) H).heap[W.heap.size]? = some (.cells L 5 (0, 0)) := by
      rw [setRow_other _ _ _ _ (by omega)]
      exact setRow_heap _ _ _ _ _ _ f1
    have g2 : ((V.setRow (W.heap.size) L).setRow (W.heap.size + 1) H).heap[W.heap.size + 1]? = some (.cells H 5 (0, 0)) := setRow_heap _ _ _ _ _ _ ((setRow_other _ _ _ _ (by omega)).trans f2)
    have g3 : Below w.heap.size w ((V.setRow (W.heap.size) L).setRow (W.heap.size + 1) H) := below_setRow (below_setRow f5 (by omega) _) (by omega) _
    rw [HL.out] at g1
    rw [HH.out] at g2
    have HG : Hid (((V.setRow (W.heap.size) L).setRow (W.heap.size + 1) H).rowIs (W.heap.size) ht hC (fun i => .int .u8 ((fun i => fm 285 c (i * 1)) i : Nat)) ∧ ((V.setRow (W.heap.size) L).setRow (W.heap.size + 1) H).rowIs (W.heap.size + 1) ht hC (fun i => .int .u8 ((fun i => fm 285 c (i * 16)) i : Nat)) ∧ Below w.heap.size w ((V.setRow (W.heap.size) L).setRow (W.heap.size + 1) H)) := ⟨half_rowIs (by rw [HL.out]; exact g1), half_rowIs (by rw [HH.out]; exact g2), g3⟩
    clear f1 f2 f3 f4 f5 f6 f7 f8 g1 g2 g3 hV tl
    go_wp2
    go_ret2
    refine ⟨W.heap.size, W.heap.size + 1, rfl, ?_, ?_, ?_, ⟨_, HG.out.1, fun i _ => by simp⟩, ⟨_, HG.out.2.1, fun i _ => by simp [Nat.mul_comm]⟩, HG.out.2.2⟩
    · have := HF.out; omega
    · have := HF.out; omega
    · omega
  · generalize hV : World.drew _ = V
    have f := two_more tl.1 tl.2 Z
    rw [hV] at f
    obtain ⟨f1, f2, f3, f4, f5, f6, f7, f8⟩ := f
    have HF : Hid (w.heap.size ≤ W.heap.size) := f6
    have r1 := copy_half V (W.heap.size + 1) w1.heap.size Z L 5 53 (0, 0) f2 HZ.out (by rw [HL.out]; exact f3) sL.out.symm aL
    have r2 := copy_half (V.setRow (W.heap.size + 1) L) (W.heap.size) (w1.heap.size + 1) Z H 5 53 (0, 0) ((setRow_other _ _ _ _ (by omega)).trans f1) HZ.out ((setRow_other _ _ _ _ (by omega)).trans (by rw [HH.out]; exact f4)) sH.out.symm aH
    have g1 : ((V.setRow (W.heap.size + 1) L).setRow (W.heap.size) H).heap[W.heap.size + 1]? = some (.cells L 5 (0, 0)) := by
      rw [setRow_other _ _ _ _ (by omega)]
      exact setRow_heap _ _ _ _ _ _ f2
    have g2 : ((V.setRow (W.heap.size + 1) L).setRow (W.heap.size) H).heap[W.heap.size]? = some (.cells H 5 (0, 0)) := setRow_heap _ _ _ _ _ _ ((setRow_other _ _ _ _ (by omega)).trans f1)
    have g3 : Below w.heap.size w ((V.setRow (W.heap.size + 1) L).setRow (W.heap.size) H) := below_setRow (below_setRow f5 (by omega) _) (by omega) _
    rw [HL.out] at g1
    rw [HH.out] at g2
    have HG : Hid (((V.setRow (W.heap.size + 1) L).setRow (W.heap.size) H).rowIs (W.heap.size + 1) ht hC (fun i => .int .u8 ((fun i => fm 285 c (i * 1)) i : Nat)) ∧ ((V.setRow (W.heap.size + 1) L).setRow (W.heap.size) H).rowIs (W.heap.size) ht hC (fun i => .int .u8 ((fun i => fm 285 c (i * 16)) i : Nat)) ∧ Below w.heap.size w ((V.setRow (W.heap.size + 1) L).setRow (W.heap.size) H)) := ⟨half_rowIs (by rw [HL.out]; exact g1), half_rowIs (by rw [HH.out]; exact g2), g3⟩
    clear f1 f2 f3 f4 f5 f6 f7 f8 g1 g2 g3 hV tl
    go_wp2
    go_ret2
    refine ⟨W.heap.size + 1, W.heap.size, rfl, ?_, ?_, ?_, ⟨_, HG.out.1, fun i _ => by simp⟩, ⟨_, HG.out.2.1, fun i _ => by simp [Nat.mul_comm]⟩, HG.out.2.2⟩
    · have := HF.out; omega
    · have := HF.out; omega
    · omega
end Go.Proofs.Ytdnjddnjaekgeaa
