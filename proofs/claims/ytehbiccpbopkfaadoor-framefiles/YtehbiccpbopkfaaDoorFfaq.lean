import Derived.Test.YtehbiccpbopkfaaDoorFfap
import Derived.Laws.BytesArg
import Derived.Test.YtehbiccpbopkfaaDoorFfao
namespace Go.Proofs.YtehbiccpbopkfaaDoor
open Go.RowKit Gf2
set_option linter.unusedVariables false

-- layer 25: ReadHead: its refusals
theorem results_crt25 {P : Program} {fn : Func} {p u : Tmp} {ty : TypeId} (h : fn.results = #[.cell p ty, .tmp u]) (tmps : Array Value) (w : World) (g : Nat) (t : TypeId) (cs : Array Value) (fr : Nat × Nat) (d : TypeDesc)
    (hp : tmps.getD p undef = .pointer (some ⟨g, 0, none⟩)) (hg : w.heap[g]? = some (.cells cs t fr)) (hu : P.underlying ty = some d) (hd : (match d with | .struct _ | .array _ _ => true | _ => false) = true) (hi : (P.info? ty).map (·.size) = some cs.size) :
    (results fn tmps).run P w = .ok (.tuple #[.agg cs, tmps.getD u undef]) w := by
  have hp' : tmps[p]?.getD undef = .pointer (some ⟨g, 0, none⟩) := by simpa using hp
  simp [results, h, hp', asAddr, run_loadVar_row w g t ty cs fr d hg hu hd hi]
theorem info_head25 : (Tryd.prog.info? 38).map (·.size) = some 8 := by kernel_rfl
theorem setCell_id25 {w : World} {g i : Nat} {cs : Array Value} {T : TypeId} {fr : Nat × Nat} {v : Value} (hg : w.heap[g]? = some (.cells cs T fr)) (hv : cs[i]? = some v) : w.setCell ⟨g, i, none⟩ v = w := by
  have e : (w.setCell ⟨g, i, none⟩ v).heap = w.heap := by
    unfold World.setCell
    dsimp only
    apply Array.ext_getElem?
    intro j
    rw [Array.getElem?_modify]
    by_cases h : g = j
    · subst h
      rw [if_pos rfl, hg]
      show some (Obj.cells (cs.setIfInBounds i v) T fr) = _
      congr 2
      apply Array.ext_getElem?
      intro k
      rw [Array.getElem?_setIfInBounds]
      by_cases h2 : i = k
      · subst h2
        have hlt : i < cs.size := (Array.getElem?_eq_some_iff.1 hv).1
        rw [if_pos rfl, if_pos hlt, hv]
      · rw [if_neg h2]
    · rw [if_neg h]
  have e2 : w.setCell ⟨g, i, none⟩ v = { w with heap := (w.setCell ⟨g, i, none⟩ v).heap } := rfl
  rw [e2, e]
/-- a box of zeros: what is read, what a zero's store does. -/
theorem zero_facts25 {X : World} {g : Nat} {T : TypeId} (h : X.heap[g]? = some (.cells #[.int .i64 0, .int .i64 0, .int .i64 0, .int .i64 0, .int .i64 0, .int .i64 0, .int .i64 0, .int .u64 0] T (0, 0))) :
    (X.cell? ⟨g, 0, none⟩ = some (.int .i64 0) ∧ X.cell? ⟨g, 1, none⟩ = some (.int .i64 0) ∧ X.cell? ⟨g, 2, none⟩ = some (.int .i64 0) ∧ X.cell? ⟨g, 3, none⟩ = some (.int .i64 0) ∧ X.cell? ⟨g, 4, none⟩ = some (.int .i64 0) ∧ X.cell? ⟨g, 5, none⟩ = some (.int .i64 0) ∧ X.cell? ⟨g, 6, none⟩ = some (.int .i64 0) ∧ X.cell? ⟨g, 7, none⟩ = some (.int .u64 0)) ∧
    (X.frozen? ⟨g, 0, none⟩ = false ∧ X.frozen? ⟨g, 1, none⟩ = false ∧ X.frozen? ⟨g, 2, none⟩ = false ∧ X.frozen? ⟨g, 3, none⟩ = false ∧ X.frozen? ⟨g, 4, none⟩ = false ∧ X.frozen? ⟨g, 5, none⟩ = false ∧ X.frozen? ⟨g, 6, none⟩ = false ∧ X.frozen? ⟨g, 7, none⟩ = false) ∧
    (X.setCell ⟨g, 0, none⟩ (.int .i64 0) = X ∧ X.setCell ⟨g, 1, none⟩ (.int .i64 0) = X ∧ X.setCell ⟨g, 2, none⟩ (.int .i64 0) = X ∧ X.setCell ⟨g, 3, none⟩ (.int .i64 0) = X ∧ X.setCell ⟨g, 4, none⟩ (.int .i64 0) = X ∧ X.setCell ⟨g, 5, none⟩ (.int .i64 0) = X ∧ X.setCell ⟨g, 6, none⟩ (.int .i64 0) = X ∧ X.setCell ⟨g, 7, none⟩ (.int .u64 0) = X) :=
  ⟨⟨by rw [cell_of_row _ _ 0 _ _ _ h]; rfl, by rw [cell_of_row _ _ 1 _ _ _ h]; rfl, by rw [cell_of_row _ _ 2 _ _ _ h]; rfl, by rw [cell_of_row _ _ 3 _ _ _ h]; rfl, by rw [cell_of_row _ _ 4 _ _ _ h]; rfl, by rw [cell_of_row _ _ 5 _ _ _ h]; rfl, by rw [cell_of_row _ _ 6 _ _ _ h]; rfl, by rw [cell_of_row _ _ 7 _ _ _ h]; rfl⟩,
   ⟨frozen_of_row _ _ _ _ _ h, frozen_of_row _ _ _ _ _ h, frozen_of_row _ _ _ _ _ h, frozen_of_row _ _ _ _ _ h, frozen_of_row _ _ _ _ _ h, frozen_of_row _ _ _ _ _ h, frozen_of_row _ _ _ _ _ h, frozen_of_row _ _ _ _ _ h⟩,
   ⟨setCell_id25 h rfl, setCell_id25 h rfl, setCell_id25 h rfl, setCell_id25 h rfl, setCell_id25 h rfl, setCell_id25 h rfl, setCell_id25 h rfl, setCell_id25 h rfl⟩⟩
set_option maxHeartbeats 4000000 in
set_option maxRecDepth 100000 in
theorem readHead25_cut (v : Value) (n : Nat) (F : Nat → Nat) (w : World) (h : Rb w v n F) (hn : n < 48) :
    Calls Tryd.prog 33 #[v] w fun e w' => e = .returned (.tuple #[hd25 0 0 0 0 0 0 0 0, .int .i64 252]) ∧ Below w.heap.size w w' := by
  obtain ⟨-, -, a, cap, rfl, hc, hc2, h4⟩ := id h
  have D1 : decide (((n : Nat) : Int) < 48) = true := decide_eq_true (by omega)
  clear h hn h4
  go_enter Tryd.func33, Tryd.ntmps33
  go_wp2
  refine bodyPost_ret (results_crt25 rfl _ _ w.heap.size _ _ _ _ rfl (heap_alloc_new _ _) Tryd.underlying38 rfl info_head25) rfl ?_
  exact ⟨rfl, (Below.refl _ _).alloc (Nat.le_refl _) _⟩
/-- a list of bytes as a text. -/
def sb25 (n : Nat) (S : Nat → Nat) : ByteArray := strOfNums ((List.range n).map (fun i => (S i : Int)))
theorem str25 {w : World} {b o n cap : Nat} {S : Nat → Nat} (h : Rb w (.slice (some ⟨b, o, none⟩) n cap) n S) (h1 : 1 ≤ n) :
    (convert 27 9 (.slice (some ⟨b, o, none⟩) n cap)).run Tryd.prog w = .ok (.string (sb25 n S)) w := by
  obtain ⟨-, -, x, cx, e, -, -, h4⟩ := h
  cases e
  obtain ⟨b', o', e, hc⟩ := h4 h1
  cases e
  refine run_convert_bytes_arg (P := Tryd.prog) w 27 5 Tryd.underlying27 Tryd.underlying5 b o n cap _ (by simp) (fun i hi => ?_) 9 Tryd.underlying9
  have hc := hc.2 i hi
  refine Eq.trans hc ?_
  simp [List.getD, hi]
/-- the numbers that a head's bytes say. -/
def rk25 (F : Nat → Nat) (o d : Nat) : Nat := le25 (fun c => F (o + c)) d
/-- is the head that the bytes say good? -/
def rg25 (F : Nat → Nat) : Prop := gd25 (F 5 : Nat) (rk25 F 6 2 : Nat) (rk25 F 8 2 : Nat) (rk25 F 10 2 : Nat) (rk25 F 16 8 : Nat) (rk25 F 24 8 : Nat) (rk25 F 12 4 : Nat)
def hsum25 (F : Nat → Nat) : Nat := nt (fol25 (nt 0) F 44)
theorem rb_head25 {w : World} {b o n cap m : Nat} {F : Nat → Nat} (h : Rb w (.slice (some ⟨b, o, none⟩) n cap) n F) (hm : m ≤ n) (hc : m ≤ cap) : Rb w (.slice (some ⟨b, o, none⟩) m cap) m F := h.cut hm hc
theorem rb_piece25 {w : World} {b o n cap x d : Nat} {F : Nat → Nat} (h : Rb w (.slice (some ⟨b, o, none⟩) n cap) n F) (hd : x + d ≤ n) (hc : n ≤ cap) : Rb w (.slice (some ⟨b, o + x, none⟩) d (cap - x)) d (fun c => F (x + c)) := (h.drop (o := x) (by omega)).cut (by omega) (by omega)
set_option maxHeartbeats 8000000 in
set_option maxRecDepth 100000 in
theorem readHead25_magic (v : Value) (n : Nat) (F : Nat → Nat) (w : World) (h : Rb w v n F) (hn : 48 ≤ n) (hm : (sb25 5 F).toList ≠ [67, 85, 76, 76, 1]) :
    Calls Tryd.prog 33 #[v] w fun e w' => e = .returned (.tuple #[hd25 0 0 0 0 0 0 0 0, .int .i64 250]) ∧ Below w.heap.size w w' := by
  obtain ⟨-, -, a, cap, rfl, hc, hc2, h4⟩ := id h
  obtain ⟨b, o, rfl, hbl, hcc⟩ := h4 (by omega)
  obtain ⟨W0, hW0⟩ : ∃ W0, w.alloc (.cells #[.int .i64 0, .int .i64 0, .int .i64 0, .int .i64 0, .int .i64 0, .int .i64 0, .int .i64 0, .int .u64 0] 38) = W0 := ⟨_, rfl⟩
  have b0 : Below w.heap.size w W0 := by rw [← hW0]; exact (Below.refl _ _).alloc (Nat.le_refl _) _
  have k0 : W0.heap[w.heap.size]? = some (.cells #[.int .i64 0, .int .i64 0, .int .i64 0, .int .i64 0, .int .i64 0, .int .i64 0, .int .i64 0, .int .u64 0] 38 (0, 0)) := by rw [← hW0]; exact heap_alloc_new _ _
  have hcv := str25 (n := 5) ((h.below b0).cut (by omega) (by omega)) (by decide)
  have D1 : decide (((n : Nat) : Int) < 48) = false := decide_eq_false (by omega)
  have n5 : (5 : Int) ≤ ((cap : Nat) : Int) := by omega
  have n8 : (8 : Int) ≤ ((cap : Nat) : Int) := by omega
  have n10 : (10 : Int) ≤ ((cap : Nat) : Int) := by omega
  have n12 : (12 : Int) ≤ ((cap : Nat) : Int) := by omega
  have n16 : (16 : Int) ≤ ((cap : Nat) : Int) := by omega
  have n24 : (24 : Int) ≤ ((cap : Nat) : Int) := by omega
  have n32 : (32 : Int) ≤ ((cap : Nat) : Int) := by omega
  have n40 : (40 : Int) ≤ ((cap : Nat) : Int) := by omega
  have n44 : (44 : Int) ≤ ((cap : Nat) : Int) := by omega
  have n48 : (48 : Int) ≤ ((cap : Nat) : Int) := by omega
  have n6 : (5 : Int) < ((n : Nat) : Int) := by omega
  obtain ⟨s5, hs5⟩ : ∃ s5, Hid (sb25 5 F = s5) := ⟨_, rfl⟩
  rw [hs5.out] at hcv hm
  have E1 : (s5.toList == [67, 85, 76, 76, 1]) = false := beq_eq_false_iff_ne.2 hm
  clear hm
  have kz := k0
  have bz := b0
  obtain ⟨⟨z0, z1, z2, z3, z4, z5, z6, z7⟩, ⟨f0, f1, f2, f3, f4, f5, f6, f7⟩, ⟨e0, e1, e2, e3, e4, e5, e6, e7⟩⟩ := zero_facts25 kz
  clear h hn h4 hc hs5 k0 b0 hbl hcc
  go_enter Tryd.func33, Tryd.ntmps33
  go_wp2
  refine bodyPost_ret (results_crt25 rfl _ _ w.heap.size _ #[.int .i64 0, .int .i64 0, .int .i64 0, .int .i64 0, .int .i64 0, .int .i64 0, .int .i64 0, .int .u64 0] _ _ rfl kz Tryd.underlying38 rfl info_head25) rfl ?_
  exact ⟨rfl, bz⟩
set_option maxHeartbeats 8000000 in
set_option maxRecDepth 100000 in
theorem readHead25_sum (v : Value) (n : Nat) (F : Nat → Nat) (w : World) (h : Rb w v n F) (hn : 48 ≤ n) (hT : Fsh w) (hm : sb25 5 F = { data := #[67, 85, 76, 76, 1] }) (hs : hs25 F ≠ hsum25 F) :
    Calls Tryd.prog 33 #[v] w fun e w' => e = .returned (.tuple #[hd25 0 0 0 0 0 0 0 0, .int .i64 253]) ∧ Below w.heap.size w w' := by
  obtain ⟨-, -, a, cap, rfl, hc, hc2, h4⟩ := id h
  obtain ⟨b, o, rfl, hbl, hcc⟩ := h4 (by omega)
  obtain ⟨W0, hW0⟩ : ∃ W0, w.alloc (.cells #[.int .i64 0, .int .i64 0, .int .i64 0, .int .i64 0, .int .i64 0, .int .i64 0, .int .i64 0, .int .u64 0] 38) = W0 := ⟨_, rfl⟩
  have b0 : Below w.heap.size w W0 := by rw [← hW0]; exact (Below.refl _ _).alloc (Nat.le_refl _) _
  have k0 : W0.heap[w.heap.size]? = some (.cells #[.int .i64 0, .int .i64 0, .int .i64 0, .int .i64 0, .int .i64 0, .int .i64 0, .int .i64 0, .int .u64 0] 38 (0, 0)) := by rw [← hW0]; exact heap_alloc_new _ _
  have hcv := str25 (n := 5) ((h.below b0).cut (by omega) (by omega)) (by decide)
  have D1 : decide (((n : Nat) : Int) < 48) = false := decide_eq_false (by omega)
  have n5 : (5 : Int) ≤ ((cap : Nat) : Int) := by omega
  have n8 : (8 : Int) ≤ ((cap : Nat) : Int) := by omega
  have n10 : (10 : Int) ≤ ((cap : Nat) : Int) := by omega
  have n12 : (12 : Int) ≤ ((cap : Nat) : Int) := by omega
  have n16 : (16 : Int) ≤ ((cap : Nat) : Int) := by omega
  have n24 : (24 : Int) ≤ ((cap : Nat) : Int) := by omega
  have n32 : (32 : Int) ≤ ((cap : Nat) : Int) := by omega
  have n40 : (40 : Int) ≤ ((cap : Nat) : Int) := by omega
  have n44 : (44 : Int) ≤ ((cap : Nat) : Int) := by omega
  have n48 : (48 : Int) ≤ ((cap : Nat) : Int) := by omega
  have n6 : (5 : Int) < ((n : Nat) : Int) := by omega
  rw [hm] at hcv
  have r0 := h.below b0
  obtain ⟨x, hx⟩ : ∃ x, Hid (hs25 F = x) := ⟨_, rfl⟩
  obtain ⟨y, hy⟩ : ∃ y, Hid (hsum25 F = y) := ⟨_, rfl⟩
  have c1 : ∀ q, Calls Tryd.prog 38 #[.slice (some ⟨b, o, none⟩) n cap] (W0.drewN q) fun e w' => e = .returned (.int .u32 ((x : Nat) : Int)) ∧ w' = W0.drewN q := fun q => by
    have c := headSum25 _ n F (W0.drewN q) r0 hn
    rw [hx.out] at c
    exact c
  have c2 : ∀ q, Calls Tryd.prog 8 #[.slice (some ⟨b, o, none⟩) 44 cap] (W0.drewN q) fun e w' => e = .returned (.int .u32 ((y : Nat) : Int)) ∧ w' = W0.drewN q := fun q => by
    have c := sum25 _ 44 F (W0.drewN q) (rb_head25 r0 (m := 44) (by omega) (by omega)) (hT.below (below_drewN b0 q))
    have e : nt (fol25 (nt 0) F 44) = y := hy.out
    rw [e] at c
    exact c
  have HZ : Hid (W0.heap[w.heap.size]? = some (.cells #[.int .i64 0, .int .i64 0, .int .i64 0, .int .i64 0, .int .i64 0, .int .i64 0, .int .i64 0, .int .u64 0] 38 (0, 0)) ∧ Below w.heap.size w W0) := ⟨k0, b0⟩
  rw [hx.out, hy.out] at hs
  have E1 : (((x : Nat) : Int) == ((y : Nat) : Int)) = false := beq_eq_false_iff_ne.2 (fun h9 => hs (by omega))
  have E2 : (x == y) = false := beq_eq_false_iff_ne.2 hs
  have E3 : (((x : Nat) : Int) != ((y : Nat) : Int)) = true := bne_iff_ne.2 (fun h9 => hs (by omega))
  have E4 : (x != y) = true := bne_iff_ne.2 hs
  clear h hn h4 hc k0 b0 r0 hx hy hT hm hbl hcc hs
  go_enter Tryd.func33, Tryd.ntmps33
  go_wp2
  go_quiet (first | (go_at_call 38; with_reducible exact Calls.quiet_of_same (c1 _)) | (go_at_call 8; with_reducible exact Calls.quiet_of_same (c2 _)))
  have kz : (W0.drewN nq).heap[w.heap.size]? = some (.cells #[.int .i64 0, .int .i64 0, .int .i64 0, .int .i64 0, .int .i64 0, .int .i64 0, .int .i64 0, .int .u64 0] 38 (0, 0)) := HZ.out.1
  have bz : Below w.heap.size w (W0.drewN nq) := below_drewN HZ.out.2 nq
  obtain ⟨X, hX⟩ : ∃ X, W0.drewN nq = X := ⟨_, rfl⟩
  rw [hX] at kz bz ⊢
  clear hX
  obtain ⟨⟨z0, z1, z2, z3, z4, z5, z6, z7⟩, ⟨f0, f1, f2, f3, f4, f5, f6, f7⟩, ⟨e0, e1, e2, e3, e4, e5, e6, e7⟩⟩ := zero_facts25 kz
  go_wp2
  refine bodyPost_ret (results_crt25 rfl _ _ w.heap.size _ #[.int .i64 0, .int .i64 0, .int .i64 0, .int .i64 0, .int .i64 0, .int .i64 0, .int .i64 0, .int .u64 0] _ _ rfl kz Tryd.underlying38 rfl info_head25) rfl ?_
  exact ⟨rfl, bz⟩
set_option maxHeartbeats 8000000 in
set_option maxRecDepth 100000 in
theorem readHead25_zeros (v : Value) (n : Nat) (F : Nat → Nat) (w : World) (h : Rb w v n F) (hn : 48 ≤ n) (hT : Fsh w) (hm : sb25 5 F = { data := #[67, 85, 76, 76, 1] }) (hs : hs25 F = hsum25 F) (hz : rk25 F 40 4 ≠ 0) :
    Calls Tryd.prog 33 #[v] w fun e w' => e = .returned (.tuple #[hd25 0 0 0 0 0 0 0 0, .int .i64 251]) ∧ Below w.heap.size w w' := by
  obtain ⟨-, -, a, cap, rfl, hc, hc2, h4⟩ := id h
  obtain ⟨b, o, rfl, hbl, hcc⟩ := h4 (by omega)
  obtain ⟨W0, hW0⟩ : ∃ W0, w.alloc (.cells #[.int .i64 0, .int .i64 0, .int .i64 0, .int .i64 0, .int .i64 0, .int .i64 0, .int .i64 0, .int .u64 0] 38) = W0 := ⟨_, rfl⟩
  have b0 : Below w.heap.size w W0 := by rw [← hW0]; exact (Below.refl _ _).alloc (Nat.le_refl _) _
  have k0 : W0.heap[w.heap.size]? = some (.cells #[.int .i64 0, .int .i64 0, .int .i64 0, .int .i64 0, .int .i64 0, .int .i64 0, .int .i64 0, .int .u64 0] 38 (0, 0)) := by rw [← hW0]; exact heap_alloc_new _ _
  have hcv := str25 (n := 5) ((h.below b0).cut (by omega) (by omega)) (by decide)
  have D1 : decide (((n : Nat) : Int) < 48) = false := decide_eq_false (by omega)
  have n5 : (5 : Int) ≤ ((cap : Nat) : Int) := by omega
  have n8 : (8 : Int) ≤ ((cap : Nat) : Int) := by omega
  have n10 : (10 : Int) ≤ ((cap : Nat) : Int) := by omega
  have n12 : (12 : Int) ≤ ((cap : Nat) : Int) := by omega
  have n16 : (16 : Int) ≤ ((cap : Nat) : Int) := by omega
  have n24 : (24 : Int) ≤ ((cap : Nat) : Int) := by omega
  have n32 : (32 : Int) ≤ ((cap : Nat) : Int) := by omega
  have n40 : (40 : Int) ≤ ((cap : Nat) : Int) := by omega
  have n44 : (44 : Int) ≤ ((cap : Nat) : Int) := by omega
  have n48 : (48 : Int) ≤ ((cap : Nat) : Int) := by omega
  have n6 : (5 : Int) < ((n : Nat) : Int) := by omega
  rw [hm] at hcv
  have r0 := h.below b0
  obtain ⟨x, hx⟩ : ∃ x, Hid (hs25 F = x) := ⟨_, rfl⟩
  obtain ⟨y, hy⟩ : ∃ y, Hid (hsum25 F = y) := ⟨_, rfl⟩
  have c1 : ∀ q, Calls Tryd.prog 38 #[.slice (some ⟨b, o, none⟩) n cap] (W0.drewN q) fun e w' => e = .returned (.int .u32 ((x : Nat) : Int)) ∧ w' = W0.drewN q := fun q => by
    have c := headSum25 _ n F (W0.drewN q) r0 hn
    rw [hx.out] at c
    exact c
  have c2 : ∀ q, Calls Tryd.prog 8 #[.slice (some ⟨b, o, none⟩) 44 cap] (W0.drewN q) fun e w' => e = .returned (.int .u32 ((y : Nat) : Int)) ∧ w' = W0.drewN q := fun q => by
    have c := sum25 _ 44 F (W0.drewN q) (rb_head25 r0 (m := 44) (by omega) (by omega)) (hT.below (below_drewN b0 q))
    have e : nt (fol25 (nt 0) F 44) = y := hy.out
    rw [e] at c
    exact c
  have HZ : Hid (W0.heap[w.heap.size]? = some (.cells #[.int .i64 0, .int .i64 0, .int .i64 0, .int .i64 0, .int .i64 0, .int .i64 0, .int .i64 0, .int .u64 0] 38 (0, 0)) ∧ Below w.heap.size w W0) := ⟨k0, b0⟩
  have exy : y = x := by rw [← hx.out, ← hy.out, hs]
  subst exy
  have c3 : Hid (∀ q, Calls Tryd.prog 43 #[.slice (some ⟨b, o + 40, none⟩) 4 (cap - 40)] (W0.drewN q) fun e w' => e = .returned (.int .u64 ((rk25 F 40 4 : Nat) : Int)) ∧ w' = W0.drewN q) := fun q => number25 _ 4 _ (W0.drewN q) (rb_piece25 r0 (by omega) hc) (by decide)
  obtain ⟨z, hz9⟩ : ∃ z, Hid (rk25 F 40 4 = z) := ⟨_, rfl⟩
  rw [hz9.out] at c3 hz
  have E1 : (((y : Nat) : Int) == ((y : Nat) : Int)) = true := by simp
  have E2 : (y == y) = true := by simp
  have E3 : (((y : Nat) : Int) != ((y : Nat) : Int)) = false := by simp
  have E5 : (((z : Nat) : Int) == 0) = false := beq_eq_false_iff_ne.2 (fun h9 => hz (by omega))
  have E6 : (((z : Nat) : Int) != 0) = true := bne_iff_ne.2 (fun h9 => hz (by omega))
  have E7 : (z == 0) = false := beq_eq_false_iff_ne.2 hz
  clear h hn h4 hc k0 b0 r0 hx hy hT hm hbl hcc hs hz hz9
  go_enter Tryd.func33, Tryd.ntmps33
  go_wp2
  go_quiet (first | (go_at_call 38; with_reducible exact Calls.quiet_of_same (c1 _)) | (go_at_call 8; with_reducible exact Calls.quiet_of_same (c2 _)))
  have kz : (W0.drewN nq).heap[w.heap.size]? = some (.cells #[.int .i64 0, .int .i64 0, .int .i64 0, .int .i64 0, .int .i64 0, .int .i64 0, .int .i64 0, .int .u64 0] 38 (0, 0)) := HZ.out.1
  have bz : Below w.heap.size w (W0.drewN nq) := below_drewN HZ.out.2 nq
  have d3 := c3.out nq
  clear c3 c1 c2
  obtain ⟨X, hX⟩ : ∃ X, W0.drewN nq = X := ⟨_, rfl⟩
  rw [hX] at kz bz d3 ⊢
  clear hX
  obtain ⟨⟨z0, z1, z2, z3, z4, z5, z6, z7⟩, ⟨f0, f1, f2, f3, f4, f5, f6, f7⟩, ⟨e0, e1, e2, e3, e4, e5, e6, e7⟩⟩ := zero_facts25 kz
  go_wp2_with ((go_at_call 43; (with_reducible refine d3.mono ?_); rintro e w9 ⟨rfl, hw⟩; have hw := hw.symm; subst hw; clear d3))
  refine bodyPost_ret (results_crt25 rfl _ _ w.heap.size _ #[.int .i64 0, .int .i64 0, .int .i64 0, .int .i64 0, .int .i64 0, .int .i64 0, .int .i64 0, .int .u64 0] _ _ rfl kz Tryd.underlying38 rfl info_head25) rfl ?_
  exact ⟨rfl, bz⟩
end Go.Proofs.YtehbiccpbopkfaaDoor
namespace Go.Proofs.YtehbiccpbopkfaaDoor
open Go.RowKit Gf2
set_option linter.unusedVariables false

-- layer 25: the five bytes ahead of a head
theorem magic_yes25 {F : Nat → Nat} (h : ∀ c, c < 5 → F c = mg25 c) : sb25 5 F = { data := #[67, 85, 76, 76, 1] } := by
  have e : sb25 5 F = sb25 5 mg25 := by
    unfold sb25
    congr 1
    apply List.map_congr_left
    intro i hi
    rw [h i (List.mem_range.1 hi)]
  rw [e]
  rfl
theorem magic_no25 {F : Nat → Nat} (hF : ∀ c, c < 5 → F c < 256) (h : ¬ ∀ c, c < 5 → F c = mg25 c) : (sb25 5 F).toList ≠ [67, 85, 76, 76, 1] := by
  intro e
  apply h
  have l0 := hF 0 (by omega)
  have l1 := hF 1 (by omega)
  have l2 := hF 2 (by omega)
  have l3 := hF 3 (by omega)
  have l4 := hF 4 (by omega)
  have e2 : (sb25 5 F).toList = [UInt8.ofNat (F 0), UInt8.ofNat (F 1), UInt8.ofNat (F 2), UInt8.ofNat (F 3), UInt8.ofNat (F 4)] := by
    unfold sb25 strOfNums
    simp
    rfl
  rw [e2] at e
  have u : ∀ x y : Nat, x < 256 → y < 256 → UInt8.ofNat x = UInt8.ofNat y → x = y := fun x y hx hy hxy => by
    have := congrArg UInt8.toNat hxy
    simp only [UInt8.toNat_ofNat'] at this
    omega
  simp only [List.cons.injEq, and_true] at e
  obtain ⟨h0, h1, h2, h3, h4⟩ := e
  intro c hc
  have : c = 0 ∨ c = 1 ∨ c = 2 ∨ c = 3 ∨ c = 4 := by omega
  rcases this with rfl | rfl | rfl | rfl | rfl
  · exact u _ 67 l0 (by decide) h0
  · exact u _ 85 l1 (by decide) h1
  · exact u _ 76 l2 (by decide) h2
  · exact u _ 76 l3 (by decide) h3
  · exact u _ 1 l4 (by decide) h4
end Go.Proofs.YtehbiccpbopkfaaDoor
namespace Go.Proofs.YtehbiccpbopkfaaDoor
open Go.RowKit Gf2
set_option linter.unusedVariables false

-- layer 25: ReadHead where a head is read
theorem keepA25 {X : World} {b o n cap p z : Nat} {F : Nat → Nat} {T : Obj} (h : X.cell? ⟨b, p, none⟩ = some (.int .u8 (z : Int)) ∧ Rb X (.slice (some ⟨b, o, none⟩) n cap) n F) : (X.alloc T).cell? ⟨b, p, none⟩ = some (.int .u8 (z : Int)) ∧ Rb (X.alloc T) (.slice (some ⟨b, o, none⟩) n cap) n F :=
  have hb : Below X.heap.size X (X.alloc T) := (Below.refl _ _).alloc (Nat.le_refl _) _
  ⟨(hb.cell (cell_lt5 h.1)).trans h.1, h.2.below hb⟩
theorem keepD25 {X : World} {b o n cap p z : Nat} {F : Nat → Nat} (h : X.cell? ⟨b, p, none⟩ = some (.int .u8 (z : Int)) ∧ Rb X (.slice (some ⟨b, o, none⟩) n cap) n F) : X.drew.cell? ⟨b, p, none⟩ = some (.int .u8 (z : Int)) ∧ Rb X.drew (.slice (some ⟨b, o, none⟩) n cap) n F := ⟨h.1, h.2.drewN 1⟩
theorem wrap_no25 {f k m i b : Int} {s l : Nat} (hs : s < 18446744073709551616) (hl : l < 18446744073709551616) (h : ¬ gd25 f k m i s l b) : ¬ gd25 f k m i (IntKind.i64.wrap (s : Int)) (IntKind.i64.wrap (l : Int)) b := by
  rintro ⟨K, M, I, S, L, B, h1, h2, h3, h4, h5, h6, hg⟩
  have e1 : (s : Int) = S := by
    have e := (IntKind.wrap_i64 (s : Int)).symm.trans h4
    have := hg.s2
    omega
  have e2 : (l : Int) = L := by
    have e := (IntKind.wrap_i64 (l : Int)).symm.trans h5
    have := hg.l2
    omega
  exact h ⟨K, M, I, S, L, B, h1, h2, h3, e1, e2, h6, hg⟩
theorem w64i25 {x : Nat} (h : x < 9223372036854775808) : IntKind.i64.wrap ((x : Nat) : Int) = ((x : Nat) : Int) := (IntKind.wrap_i64 _).trans (by omega)
theorem after25 {w Y Z : World} {g : Nat} {O A : Obj} (kz : Y.heap[g]? = some O) (bz : Below w.heap.size w Y) (hb : Below (Y.alloc A).heap.size (Y.alloc A) Z) : Z.heap[g]? = some O ∧ Below w.heap.size w Z := by
  have h : Below Y.heap.size Y Z := ((Below.refl Y.heap.size Y).alloc (Nat.le_refl _) A).trans (hb.mono (by simp))
  exact ⟨(h.block _ (Array.getElem?_eq_some_iff.1 kz).1).trans kz, bz.trans (h.mono bz.size)⟩
theorem num_name25 : ¬ Tryd.f43.name = "runtime.NumGoroutine" := fun h9 => by
  have e : (Tryd.f43.name == "runtime.NumGoroutine") = false := by kernel_rfl
  rw [h9] at e
  exact absurd e (by decide)
theorem num_body25 : ¬ Tryd.f43.body = none := fun h9 => by
  have e : Tryd.f43.body.isSome = true := by kernel_rfl
  rw [h9] at e
  exact absurd e (by decide)
set_option maxHeartbeats 8000000 in
set_option maxRecDepth 100000 in
theorem readHead25_bad (v : Value) (n : Nat) (F : Nat → Nat) (w : World) (h : Rb w v n F) (hn : 48 ≤ n) (hT : Fsh w) (hm : sb25 5 F = { data := #[67, 85, 76, 76, 1] }) (hs : hs25 F = hsum25 F) (hz : rk25 F 40 4 = 0) (hg : ¬ rg25 F) :
    Calls Tryd.prog 33 #[v] w fun e w' => e = .returned (.tuple #[hd25 0 0 0 0 0 0 0 0, .int .i64 251]) ∧ Below w.heap.size w w' := by
  obtain ⟨-, -, a, cap, rfl, hc, hc2, h4⟩ := id h
  obtain ⟨b, o, rfl, hbl, hcc⟩ := h4 (by omega)
  obtain ⟨W0, hW0⟩ : ∃ W0, w.alloc (.cells #[.int .i64 0, .int .i64 0, .int .i64 0, .int .i64 0, .int .i64 0, .int .i64 0, .int .i64 0, .int .u64 0] 38) = W0 := ⟨_, rfl⟩
  have b0 : Below w.heap.size w W0 := by rw [← hW0]; exact (Below.refl _ _).alloc (Nat.le_refl _) _
  have k0 : W0.heap[w.heap.size]? = some (.cells #[.int .i64 0, .int .i64 0, .int .i64 0, .int .i64 0, .int .i64 0, .int .i64 0, .int .i64 0, .int .u64 0] 38 (0, 0)) := by rw [← hW0]; exact heap_alloc_new _ _
  have hcv := str25 (n := 5) ((h.below b0).cut (by omega) (by omega)) (by decide)
  have D1 : decide (((n : Nat) : Int) < 48) = false := decide_eq_false (by omega)
  have n5 : (5 : Int) ≤ ((cap : Nat) : Int) := by omega
  have n8 : (8 : Int) ≤ ((cap : Nat) : Int) := by omega
  have n10 : (10 : Int) ≤ ((cap : Nat) : Int) := by omega
  have n12 : (12 : Int) ≤ ((cap : Nat) : Int) := by omega
  have n16 : (16 : Int) ≤ ((cap : Nat) : Int) := by omega
  have n24 : (24 : Int) ≤ ((cap : Nat) : Int) := by omega
  have n32 : (32 : Int) ≤ ((cap : Nat) : Int) := by omega
  have n40 : (40 : Int) ≤ ((cap : Nat) : Int) := by omega
  have n44 : (44 : Int) ≤ ((cap : Nat) : Int) := by omega
  have n48 : (48 : Int) ≤ ((cap : Nat) : Int) := by omega
  have n6 : (5 : Int) < ((n : Nat) : Int) := by omega
  rw [hm] at hcv
  have r0 := h.below b0
  obtain ⟨x, hx⟩ : ∃ x, Hid (hs25 F = x) := ⟨_, rfl⟩
  obtain ⟨y, hy⟩ : ∃ y, Hid (hsum25 F = y) := ⟨_, rfl⟩
  have c1 : ∀ q, Calls Tryd.prog 38 #[.slice (some ⟨b, o, none⟩) n cap] (W0.drewN q) fun e w' => e = .returned (.int .u32 ((x : Nat) : Int)) ∧ w' = W0.drewN q := fun q => by
    have c := headSum25 _ n F (W0.drewN q) r0 hn
    rw [hx.out] at c
    exact c
  have c2 : ∀ q, Calls Tryd.prog 8 #[.slice (some ⟨b, o, none⟩) 44 cap] (W0.drewN q) fun e w' => e = .returned (.int .u32 ((y : Nat) : Int)) ∧ w' = W0.drewN q := fun q => by
    have c := sum25 _ 44 F (W0.drewN q) (rb_head25 r0 (m := 44) (by omega) (by omega)) (hT.below (below_drewN b0 q))
    have e : nt (fol25 (nt 0) F 44) = y := hy.out
    rw [e] at c
    exact c
  have HZ : Hid (W0.heap[w.heap.size]? = some (.cells #[.int .i64 0, .int .i64 0, .int .i64 0, .int .i64 0, .int .i64 0, .int .i64 0, .int .i64 0, .int .u64 0] 38 (0, 0)) ∧ Below w.heap.size w W0) := ⟨k0, b0⟩
  have exy : y = x := by rw [← hx.out, ← hy.out, hs]
  subst exy
  have c3 : Hid (∀ q, Calls Tryd.prog 43 #[.slice (some ⟨b, o + 40, none⟩) 4 (cap - 40)] (W0.drewN q) fun e w' => e = .returned (.int .u64 0) ∧ w' = W0.drewN q) := fun q => by
    have c := number25 _ 4 _ (W0.drewN q) (rb_piece25 r0 (x := 40) (d := 4) (by omega) hc) (by decide)
    have e : le25 (fun c => F (40 + c)) 4 = 0 := hz
    rw [e] at c
    exact c
  have E1 : (((y : Nat) : Int) == ((y : Nat) : Int)) = true := by simp
  have E2 : (y == y) = true := by simp
  have E3 : (((y : Nat) : Int) != ((y : Nat) : Int)) = false := by simp
  have hF : ∀ c, c < n → F c < 256 := h.2.1
  have c_k : Hid (∀ W, Rb W (.slice (some ⟨b, o, none⟩) n cap) n F → Calls Tryd.prog 43 #[.slice (some ⟨b, o + 6, none⟩) 2 (cap - 6)] W fun e w' => e = .returned (.int .u64 ((rk25 F 6 2 : Nat) : Int)) ∧ w' = W) := fun W hr => number25 _ 2 _ W (rb_piece25 hr (by omega) hc) (by decide)
  have l_k : rk25 F 6 2 < 2 ^ (8 * 2) := le_lt' (fun c hc9 => hF _ (by omega))
  have c_m : Hid (∀ W, Rb W (.slice (some ⟨b, o, none⟩) n cap) n F → Calls Tryd.prog 43 #[.slice (some ⟨b, o + 8, none⟩) 2 (cap - 8)] W fun e w' => e = .returned (.int .u64 ((rk25 F 8 2 : Nat) : Int)) ∧ w' = W) := fun W hr => number25 _ 2 _ W (rb_piece25 hr (by omega) hc) (by decide)
  have l_m : rk25 F 8 2 < 2 ^ (8 * 2) := le_lt' (fun c hc9 => hF _ (by omega))
  have c_i : Hid (∀ W, Rb W (.slice (some ⟨b, o, none⟩) n cap) n F → Calls Tryd.prog 43 #[.slice (some ⟨b, o + 10, none⟩) 2 (cap - 10)] W fun e w' => e = .returned (.int .u64 ((rk25 F 10 2 : Nat) : Int)) ∧ w' = W) := fun W hr => number25 _ 2 _ W (rb_piece25 hr (by omega) hc) (by decide)
  have l_i : rk25 F 10 2 < 2 ^ (8 * 2) := le_lt' (fun c hc9 => hF _ (by omega))
  have c_b9 : Hid (∀ W, Rb W (.slice (some ⟨b, o, none⟩) n cap) n F → Calls Tryd.prog 43 #[.slice (some ⟨b, o + 12, none⟩) 4 (cap - 12)] W fun e w' => e = .returned (.int .u64 ((rk25 F 12 4 : Nat) : Int)) ∧ w' = W) := fun W hr => number25 _ 4 _ W (rb_piece25 hr (by omega) hc) (by decide)
  have l_b9 : rk25 F 12 4 < 2 ^ (8 * 4) := le_lt' (fun c hc9 => hF _ (by omega))
  have c_s : Hid (∀ W, Rb W (.slice (some ⟨b, o, none⟩) n cap) n F → Calls Tryd.prog 43 #[.slice (some ⟨b, o + 16, none⟩) 8 (cap - 16)] W fun e w' => e = .returned (.int .u64 ((rk25 F 16 8 : Nat) : Int)) ∧ w' = W) := fun W hr => number25 _ 8 _ W (rb_piece25 hr (by omega) hc) (by decide)
  have l_s : rk25 F 16 8 < 2 ^ (8 * 8) := le_lt' (fun c hc9 => hF _ (by omega))
  have c_l : Hid (∀ W, Rb W (.slice (some ⟨b, o, none⟩) n cap) n F → Calls Tryd.prog 43 #[.slice (some ⟨b, o + 24, none⟩) 8 (cap - 24)] W fun e w' => e = .returned (.int .u64 ((rk25 F 24 8 : Nat) : Int)) ∧ w' = W) := fun W hr => number25 _ 8 _ W (rb_piece25 hr (by omega) hc) (by decide)
  have l_l : rk25 F 24 8 < 2 ^ (8 * 8) := le_lt' (fun c hc9 => hF _ (by omega))
  have c_st : Hid (∀ W, Rb W (.slice (some ⟨b, o, none⟩) n cap) n F → Calls Tryd.prog 43 #[.slice (some ⟨b, o + 32, none⟩) 8 (cap - 32)] W fun e w' => e = .returned (.int .u64 ((rk25 F 32 8 : Nat) : Int)) ∧ w' = W) := fun W hr => number25 _ 8 _ W (rb_piece25 hr (by omega) hc) (by decide)
  have l_st : rk25 F 32 8 < 2 ^ (8 * 8) := le_lt' (fun c hc9 => hF _ (by omega))
  obtain ⟨ff, hff⟩ : ∃ ff, Hid (F 5 = ff) := ⟨_, rfl⟩
  obtain ⟨k, e_k⟩ : ∃ k, Hid (rk25 F 6 2 = k) := ⟨_, rfl⟩
  rw [e_k.out] at c_k l_k
  obtain ⟨m, e_m⟩ : ∃ m, Hid (rk25 F 8 2 = m) := ⟨_, rfl⟩
  rw [e_m.out] at c_m l_m
  obtain ⟨i, e_i⟩ : ∃ i, Hid (rk25 F 10 2 = i) := ⟨_, rfl⟩
  rw [e_i.out] at c_i l_i
  obtain ⟨b9, e_b9⟩ : ∃ b9, Hid (rk25 F 12 4 = b9) := ⟨_, rfl⟩
  rw [e_b9.out] at c_b9 l_b9
  obtain ⟨s, e_s⟩ : ∃ s, Hid (rk25 F 16 8 = s) := ⟨_, rfl⟩
  rw [e_s.out] at c_s l_s
  obtain ⟨l, e_l⟩ : ∃ l, Hid (rk25 F 24 8 = l) := ⟨_, rfl⟩
  rw [e_l.out] at c_l l_l
  obtain ⟨st, e_st⟩ : ∃ st, Hid (rk25 F 32 8 = st) := ⟨_, rfl⟩
  rw [e_st.out] at c_st l_st
  have q5 : W0.cell? ⟨b, o + 5, none⟩ = some (.int .u8 ((ff : Nat) : Int)) := by
    obtain ⟨-, -, a9, c9, e9, -, -, h9⟩ := r0
    cases e9
    obtain ⟨b8, o8, e8, -, h8⟩ := h9 (by omega)
    cases e8
    rw [h8 5 (by omega), hff.out]
  have lff : ff < 256 := by rw [← hff.out]; exact hF 5 (by omega)
  have HV : Hid (IntKind.i64.wrap ((ff : Nat) : Int) = ((ff : Nat) : Int) ∧ IntKind.i64.wrap ((k : Nat) : Int) = ((k : Nat) : Int) ∧ IntKind.i64.wrap ((m : Nat) : Int) = ((m : Nat) : Int) ∧ IntKind.i64.wrap ((i : Nat) : Int) = ((i : Nat) : Int) ∧ IntKind.i64.wrap ((b9 : Nat) : Int) = ((b9 : Nat) : Int)) := ⟨w64i25 (by omega), w64i25 (by omega), w64i25 (by omega), w64i25 (by omega), w64i25 (by omega)⟩
  obtain ⟨sI, hsI⟩ : ∃ sI, IntKind.i64.wrap ((s : Nat) : Int) = sI := ⟨_, rfl⟩
  obtain ⟨lI, hlI⟩ : ∃ lI, IntKind.i64.wrap ((l : Nat) : Int) = lI := ⟨_, rfl⟩
  have HVS : Hid (IntKind.i64.wrap ((s : Nat) : Int) = sI) := hsI
  have HVL : Hid (IntKind.i64.wrap ((l : Nat) : Int) = lI) := hlI
  have cC : Hid (∀ W, Calls Tryd.prog 12 #[hd25 (ff : Nat) (k : Nat) (m : Nat) (i : Nat) sI lI (b9 : Nat) st] W fun e w' => e = .returned (.int .i64 251) ∧ Below W.heap.size W w') := fun W => check25_no _ _ _ _ _ _ _ st W (i64_nat25 (by omega)) (by
    rw [← hsI, ← hlI]
    refine wrap_no25 (by omega) (by omega) ?_
    intro h9
    refine hg ?_
    unfold rg25
    rw [hff.out, e_k.out, e_m.out, e_i.out, e_b9.out, e_s.out, e_l.out]
    exact h9)
  unfold hd25 at cC
  clear hsI hlI
  have HX : Hid (¬ cap = 6 ∧ ¬ cap = 8 ∧ ¬ cap = 10 ∧ ¬ cap = 12 ∧ ¬ cap = 16 ∧ ¬ cap = 24 ∧ ¬ cap = 32) := ⟨by omega, by omega, by omega, by omega, by omega, by omega, by omega⟩
  have HR : Hid (W0.cell? ⟨b, o + 5, none⟩ = some (.int .u8 ((ff : Nat) : Int)) ∧ Rb W0 (.slice (some ⟨b, o, none⟩) n cap) n F) := ⟨q5, r0⟩
  clear h hn h4 hc k0 b0 r0 hx hy hm hbl hcc hs hz q5 hF lff l_k l_m l_i l_b9
  go_enter Tryd.func33, Tryd.ntmps33
  go_wp2
  go_quiet (first | (go_at_call 38; with_reducible exact Calls.quiet_of_same (c1 _)) | (go_at_call 8; with_reducible exact Calls.quiet_of_same (c2 _)))
  have kz : (W0.drewN nq).heap[w.heap.size]? = some (.cells #[.int .i64 0, .int .i64 0, .int .i64 0, .int .i64 0, .int .i64 0, .int .i64 0, .int .i64 0, .int .u64 0] 38 (0, 0)) := HZ.out.1
  have bz : Below w.heap.size w (W0.drewN nq) := below_drewN HZ.out.2 nq
  have d3 := c3.out nq
  have hSX : (W0.drewN nq).cell? ⟨b, o + 5, none⟩ = some (.int .u8 ((ff : Nat) : Int)) ∧ Rb (W0.drewN nq) (.slice (some ⟨b, o, none⟩) n cap) n F := ⟨HR.out.1, HR.out.2.drewN nq⟩
  clear c3 c1 c2
  obtain ⟨X, hX⟩ : ∃ X, W0.drewN nq = X := ⟨_, rfl⟩
  rw [hX] at kz bz d3 hSX ⊢
  clear hX
  go_wp2_with (go_at_call 43; (with_reducible refine d3.mono ?_); rintro e w9 ⟨rfl, hw⟩; have hw := hw.symm; subst hw; clear d3)
  have hSD := keepD25 hSX
  obtain ⟨V0, V1, V2, V3, V4⟩ := HV.out
  have V5 := HVS.out
  have V6 := HVL.out
  obtain ⟨x6, x8, x10, x12, x16, x24, x32⟩ := HX.out
  clear hSX
  refine region_sure2 (fun w' => w'.cell? ⟨b, o + 5, none⟩ = some (.int .u8 ((ff : Nat) : Int)) ∧ Rb w' (.slice (some ⟨b, o, none⟩) n cap) n F) 32 70 [6, 3, 3, 3, 3, 3, 3, 1] _ _ hSD (by kernel_rfl) (by kernel_rfl) rfl (by kernel_rfl) (by kernel_rfl) (by kernel_rfl) (by kernel_rfl) (fun _ a d v _ h => by cases d <;> exact h) ?_
  refine sure_step ?A0 _ rfl (fun w' hS => ?s0) rfl (Sure.call rfl (fun w' => ?e0) (fun w' hS => c_k.out w' hS.2)) ?n0
  case s0 =>
    obtain ⟨u0, u1⟩ := hS
    clear u1
    simp only [List.take_succ_cons, List.take_zero]
    repeat still_step
    exact rfl
  case e0 =>
    simp [execOp, resolve, invoke, Act.eval, Deferred.ofValue, callFunc]
    rw [if_neg num_name25, if_neg num_body25]
  case n0 =>
  refine sure_step ?A1 _ rfl (fun w' hS => ?s1) rfl (Sure.call rfl (fun w' => ?e1) (fun w' hS => c_m.out w' hS.2)) ?n1
  case s1 =>
    obtain ⟨u0, u1⟩ := hS
    clear u1
    simp only [List.take_succ_cons, List.take_zero]
    repeat still_step
    exact rfl
  case e1 =>
    simp [execOp, resolve, invoke, Act.eval, Deferred.ofValue, callFunc]
    rw [if_neg num_name25, if_neg num_body25]
  case n1 =>
  refine sure_step ?A2 _ rfl (fun w' hS => ?s2) rfl (Sure.call rfl (fun w' => ?e2) (fun w' hS => c_i.out w' hS.2)) ?n2
  case s2 =>
    obtain ⟨u0, u1⟩ := hS
    clear u1
    simp only [List.take_succ_cons, List.take_zero]
    repeat still_step
    exact rfl
  case e2 =>
    simp [execOp, resolve, invoke, Act.eval, Deferred.ofValue, callFunc]
    rw [if_neg num_name25, if_neg num_body25]
  case n2 =>
  refine sure_step ?A3 _ rfl (fun w' hS => ?s3) rfl (Sure.call rfl (fun w' => ?e3) (fun w' hS => c_b9.out w' hS.2)) ?n3
  case s3 =>
    obtain ⟨u0, u1⟩ := hS
    clear u1
    simp only [List.take_succ_cons, List.take_zero]
    repeat still_step
    exact rfl
  case e3 =>
    simp [execOp, resolve, invoke, Act.eval, Deferred.ofValue, callFunc]
    rw [if_neg num_name25, if_neg num_body25]
  case n3 =>
  refine sure_step ?A4 _ rfl (fun w' hS => ?s4) rfl (Sure.call rfl (fun w' => ?e4) (fun w' hS => c_s.out w' hS.2)) ?n4
  case s4 =>
    obtain ⟨u0, u1⟩ := hS
    clear u1
    simp only [List.take_succ_cons, List.take_zero]
    repeat still_step
    exact rfl
  case e4 =>
    simp [execOp, resolve, invoke, Act.eval, Deferred.ofValue, callFunc]
    rw [if_neg num_name25, if_neg num_body25]
  case n4 =>
  refine sure_step ?A5 _ rfl (fun w' hS => ?s5) rfl (Sure.call rfl (fun w' => ?e5) (fun w' hS => c_l.out w' hS.2)) ?n5
  case s5 =>
    obtain ⟨u0, u1⟩ := hS
    clear u1
    simp only [List.take_succ_cons, List.take_zero]
    repeat still_step
    exact rfl
  case e5 =>
    simp [execOp, resolve, invoke, Act.eval, Deferred.ofValue, callFunc]
    rw [if_neg num_name25, if_neg num_body25]
  case n5 =>
  refine sure_step ?A6 _ rfl (fun w' hS => ?s6) rfl (Sure.call rfl (fun w' => ?e6) (fun w' hS => c_st.out w' hS.2)) ?n6
  case s6 =>
    obtain ⟨u0, u1⟩ := hS
    clear u1
    simp only [List.take_succ_cons, List.take_zero]
    repeat still_step
    exact rfl
  case e6 =>
    simp [execOp, resolve, invoke, Act.eval, Deferred.ofValue, callFunc]
    rw [if_neg num_name25, if_neg num_body25]
  case n6 =>
  refine sure_last ?A7 rfl (fun w' hS => ?s7) rfl ?n7
  case s7 =>
    obtain ⟨u0, u1⟩ := hS
    clear u1
    simp only [List.take_succ_cons, List.take_zero]
    repeat still_step
    exact rfl
  case n7 =>
  obtain ⟨Y, hY⟩ : ∃ Y, X.drew = Y := ⟨_, rfl⟩
  rw [hY]
  have kz : Y.heap[w.heap.size]? = some (.cells #[.int .i64 0, .int .i64 0, .int .i64 0, .int .i64 0, .int .i64 0, .int .i64 0, .int .i64 0, .int .u64 0] 38 (0, 0)) := by rw [← hY]; exact kz
  have bz : Below w.heap.size w Y := by rw [← hY]; exact bz.drew
  rw [hY] at hSD
  clear hY
  intro K1 hK1
  go_simp
  refine hK1 _ _ (keepA25 hSD) ?_
  clear hK1 K1
  intro K2 hK2
  go_simp
  refine hK2 _ _ (keepA25 hSD) ?_
  clear hK2 K2
  go_wp2_with (go_at_call 12; (with_reducible refine (cC.out _).mono ?_); rintro e w9 ⟨rfl, hb9⟩; clear cC; obtain ⟨kw, bw⟩ := after25 kz bz hb9;obtain ⟨⟨z0, z1, z2, z3, z4, z5, z6, z7⟩, ⟨f0, f1, f2, f3, f4, f5, f6, f7⟩, ⟨e0, e1, e2, e3, e4, e5, e6, e7⟩⟩ := zero_facts25 kw)
  refine bodyPost_ret (results_crt25 rfl _ _ w.heap.size _ #[.int .i64 0, .int .i64 0, .int .i64 0, .int .i64 0, .int .i64 0, .int .i64 0, .int .i64 0, .int .u64 0] _ _ rfl kw Tryd.underlying38 rfl info_head25) rfl ?_
  exact ⟨rfl, bw⟩

end Go.Proofs.YtehbiccpbopkfaaDoor
