import Derived.Test.YtdeophhcbkahgaaNkb
namespace Go.Proofs.Ytdeophhcbkahgaa
open Go.RowKit Gf2
set_option linter.unusedVariables false

theorem results_two_rows {P : Program} {fn : Func} {p q : Tmp} {ty : TypeId} (h : fn.results = #[.cell p ty, .cell q ty]) (tmps : Array Value) (w : World) (g g' : Nat) (t t' : TypeId) (cs ds : Array Value) (fr fr' : Nat × Nat) (d : TypeDesc)
    (hp : tmps.getD p undef = .pointer (some ⟨g, 0, none⟩)) (hq : tmps.getD q undef = .pointer (some ⟨g', 0, none⟩)) (hg : w.heap[g]? = some (.cells cs t fr)) (hg' : w.heap[g']? = some (.cells ds t' fr'))
    (hu : P.underlying ty = some d) (hd : (match d with | .struct _ | .array _ _ => true | _ => false) = true) (hi : (P.info? ty).map (·.size) = some cs.size) (hi' : (P.info? ty).map (·.size) = some ds.size) :
    (results fn tmps).run P w = .ok (.tuple #[.agg cs, .agg ds]) w := by
  have hp' : tmps[p]?.getD undef = .pointer (some ⟨g, 0, none⟩) := by simpa using hp
  have hq' : tmps[q]?.getD undef = .pointer (some ⟨g', 0, none⟩) := by simpa using hq
  simp [results, h, hp', hq', asAddr, run_loadVar_row w g t ty cs fr d hg hu hd hi, run_loadVar_row w g' t' ty ds fr' d hg' hu hd hi']

theorem two_blocks {w w1 w2 : World} {A B : Obj} (hb1 : Below ((w.alloc A).alloc B).heap.size ((w.alloc A).alloc B) w1) (hb2 : Below w1.heap.size w1 w2) :
    w2.heap[w.heap.size]? = some A ∧ w2.heap[w.heap.size + 1]? = some B ∧ Below w.heap.size w w2 := by
  have hs : ((w.alloc A).alloc B).heap.size = w.heap.size + 2 := by simp
  have h1 := hb1.size
  refine ⟨?_, ?_, ?_⟩
  · rw [hb2.block _ (by omega), hb1.block _ (by omega), heap_alloc2_old]
  · rw [hb2.block _ (by omega), hb1.block _ (by omega), heap_alloc2_new]
  · exact ((((Below.refl _ _).alloc (Nat.le_refl _) _).alloc (by simp) _).trans (hb1.mono (by omega))).trans (hb2.mono (by omega))

set_option maxHeartbeats 2000000 in
set_option maxRecDepth 100000 in
theorem nhalf_nat (c : Nat) (w : World) (hc : c < 256) :
    Calls Try.prog 80 #[.int .u8 (c : Int)] w fun e w' => e = .returned (.tuple #[.agg (halfRow c 1 16), .agg (halfRow c 16 16)]) ∧ Below w.heap.size w w' := by
  have c1 : ∀ W, Calls Try.prog 81 #[.int .u8 (c : Int), .int .u8 1] W fun e w' => e = .returned (.agg (halfRow c 1 16)) ∧ Below W.heap.size W w' := fun W => multiples_nat c 1 W hc (Or.inl rfl)
  have c2 : ∀ W, Calls Try.prog 81 #[.int .u8 (c : Int), .int .u8 16] W fun e w' => e = .returned (.agg (halfRow c 16 16)) ∧ Below W.heap.size W w' := fun W => multiples_nat c 16 W hc (Or.inr rfl)
  obtain ⟨Z, hZ⟩ : ∃ Z, Z = halfRow 0 1 0 := ⟨_, rfl⟩
  obtain ⟨L, hL⟩ : ∃ L, L = halfRow c 1 16 := ⟨_, rfl⟩
  obtain ⟨H, hH⟩ : ∃ H, H = halfRow c 16 16 := ⟨_, rfl⟩
  have sZ : Z.size = 16 := by rw [hZ, halfRow_size]
  have sL : L.size = 16 := by rw [hL, halfRow_size]
  have sH : H.size = 16 := by rw [hH, halfRow_size]
  have aL : L.all (·.oneCell') = true := by rw [hL]; exact halfRow_all _ _ _
  have aH : H.all (·.oneCell') = true := by rw [hH]; exact halfRow_all _ _ _
  have iL : (Try.prog.info? 132).map (·.size) = some L.size := by rw [sL]; exact info_half
  have iH : (Try.prog.info? 132).map (·.size) = some H.size := by rw [sH]; exact info_half
  have oL : Z.size = L.size := by rw [sZ, sL]
  have oH : Z.size = H.size := by rw [sZ, sH]
  have eZ : (List.replicate 16 (Value.int .u8 0)).toArray = Z := by rw [hZ, halfRow_zero]
  rw [← hL, ← hH]
  rw [← hL] at c1
  rw [← hH] at c2
  clear hL hH hZ sZ sL sH
  go_enter Try.func80, Try.ntmps80
  go_wp2_with (first | (go_at_call 81; first | ((with_reducible refine (c1 _).mono ?_); rintro e w1 ⟨rfl, hb1⟩) | ((with_reducible refine (c2 _).mono ?_); rintro e w2 ⟨rfl, hb2⟩; obtain ⟨g1, g2, g3⟩ := two_blocks hb1 hb2; have k1 : w2.heap[w.heap.size]? = some (.cells Z 132 (0, 0)) := (by rw [← eZ]; exact g1); have k2 : w2.heap[w.heap.size + 1]? = some (.cells Z 132 (0, 0)) := (by rw [← eZ]; exact g2); clear hb1 hb2 g1 g2)) | (refine wpList_store_row rfl 132 _ _ rfl w.heap.size L rfl rfl 132 Z k1 iL oL aL ?_) | (refine wpList_store_row rfl 132 _ _ rfl (w.heap.size + 1) H rfl rfl 132 Z ((setRow_other _ _ _ _ (Nat.succ_ne_self _)).trans k2) iH oH aH ?_))
  have k2' := (setRow_other w2 w.heap.size (w.heap.size + 1) L (Nat.succ_ne_self _)).trans k2
  refine bodyPost_ret (v := .tuple #[.agg L, .agg H]) ?_ rfl ⟨rfl, ?_⟩
  · exact results_two_rows (P := Try.prog) (fn := Try.f80) rfl _ _ w.heap.size (w.heap.size + 1) 132 132 L H (0, 0) (0, 0) _ rfl rfl ((setRow_other _ _ _ _ (Nat.succ_ne_self _).symm).trans (setRow_heap _ _ _ _ _ _ k1)) (setRow_heap _ _ _ _ _ _ k2') Try.underlying132 rfl iL iH
  · exact below_setRow (below_setRow g3 (Nat.le_refl _) _) (by simp) _
end Go.Proofs.Ytdeophhcbkahgaa
