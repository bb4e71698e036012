import Derived.Test.YtfbgcednodnioaaDoorPpan
import Derived.Deep.Cut
namespace Go.Proofs.YtfbgcednodnioaaDoor
open Go.RowKit Gf2
set_option linter.unusedVariables false

-- layer 22: a write that breaks; Bytes, Failure, Taken
theorem run_head22 (x : Option Addr) (n cx m : Nat) (hm : m ≤ cx) (W : World) : (Instr.slice 41 (.slice x n cx) none (some (.int .i64 (m : Int))) none).run Tryd.prog W = .ok (.slice x m cx) W := by
  have hu : Tryd.prog.underlying 41 = some (.slice (Tryd.prog.elem 41)) := by rw [elem_u8_22]; exact Tryd.underlying41
  have h := run_slice_h (P := Tryd.prog) (w := W) 41 x n cx hu .i64 (m : Int) (by omega) (by omega)
  have e : (if cx = 0 then x else x.map (·.add 0)) = x := by
    split
    · rfl
    · cases x with
      | none => rfl
      | some a =>
        show some (a.add 0) = some a
        obtain ⟨b, o, s⟩ := a
        cases s <;> simp [Addr.add]
  rw [h, elem_u8_22, size_u8_22]
  simp only [Result.andThen, sliced, Int.toNat_natCast, Nat.zero_mul, Nat.sub_zero]
  rw [e]
end Go.Proofs.YtfbgcednodnioaaDoor
namespace Go.Proofs.YtfbgcednodnioaaDoor
open Go.RowKit Gf2
set_option linter.unusedVariables false

-- layer 22: Bytes, Failure, Taken
/-- a failure as an error. -/
def fe22 (fa : Int) (f : Nat) : Value := if fa < 0 then .nilIface else .iface 22 (.pointer (some ⟨f, 0, none⟩))
set_option maxHeartbeats 2000000 in
set_option maxRecDepth 100000 in
theorem bytes22 {Fp : Nat → Prop} {b L f : Nat} {T : Nat → Nat} {fa code : Int} (w : World) (h : Sk Fp w b L T fa code f) (hL : L ≤ 225000000000000) :
    Calls Tryd.prog 21 #[.pointer (some ⟨b, 0, none⟩)] w fun e w' => ∃ u, e = .returned u ∧ Nb w.heap.size w' u L T ∧ Below w.heap.size w w' := by
  obtain ⟨a, c, fv, hy, -, hB, -⟩ := h.open_
  have z0 := hy.c0
  have c1 := clone8_22 _ L T w hB hL
  clear h hy hB hL
  go_enter Tryd.func21, Tryd.ntmps21
  go_wp2_with (go_at_call 28; (with_reducible refine c1.mono ?_); rintro e w1 ⟨u, rfl, hN⟩; have HN : Hid _ := hN; clear c1 hN z0)
  go_ret
  exact ⟨u, rfl, HN.out⟩
set_option maxHeartbeats 2000000 in
set_option maxRecDepth 100000 in
theorem taken22 {lo hi b n k f p t : Nat} {D : Nat → Nat} {C : Nat → Int} {fa code : Int} (w : World) (h : So lo hi w b n D k C fa code f p t) :
    Calls Tryd.prog 19 #[.pointer (some ⟨b, 0, none⟩)] w fun e w' => e = .returned (.int .i64 (p : Int)) ∧ w' = w := by
  obtain ⟨a, cap, c, ccap, fv, hx, hB, hI, hF⟩ := h.open_
  have z1 := hx.c1
  clear h hx hB hI hF
  go_enter Tryd.func19, Tryd.ntmps19
  go_wp2
  go_ret
  exact ⟨rfl, rfl⟩
set_option maxHeartbeats 2000000 in
set_option maxRecDepth 100000 in
theorem srcfail22 {lo hi b n k f p t : Nat} {D : Nat → Nat} {C : Nat → Int} {fa code : Int} (w : World) (h : So lo hi w b n D k C fa code f p t) :
    Calls Tryd.prog 11 #[.pointer (some ⟨b, 0, none⟩)] w fun e w' => e = .returned (fe22 fa f) ∧ w' = w := by
  obtain ⟨a, cap, c, ccap, fv, hx, hB, hI, hF⟩ := h.open_
  have z5 := hx.c5
  rcases hF with ⟨h0, rfl⟩ | ⟨h0, rfl, hfb⟩
  · have e1 : fe22 fa f = .nilIface := if_pos h0
    rw [e1]
    clear h hx hB hI e1 h0
    go_enter Tryd.func11, Tryd.ntmps11
    go_wp2
    go_ret
    exact ⟨rfl, rfl⟩
  · have e1 : fe22 fa f = .iface 22 (.pointer (some ⟨f, 0, none⟩)) := if_neg (by omega)
    rw [e1]
    have hnil : ∀ W : World, Sem.run Tryd.prog (binOp BinOp.eql 22 (Value.pointer (some ⟨f, 0, none⟩)) (Value.pointer none)) W = .ok (.bool false) W := fun W => by kernel_rfl
    clear h hx hB hI e1 h0 hfb
    go_enter Tryd.func11, Tryd.ntmps11
    go_wp2
    go_ret
    exact ⟨rfl, rfl⟩
end Go.Proofs.YtfbgcednodnioaaDoor
namespace Go.Proofs.YtfbgcednodnioaaDoor
open Go.RowKit Gf2
set_option linter.unusedVariables false

-- layer 22: awake
theorem rw_rb22 {w : World} {g n : Nat} {F : Nat → Nat} (h : Rw w g n F) : Rb w (.slice (some ⟨g, 0, none⟩) n n) n F := h.rb0
theorem qi_nil22 (w : World) : Qi w (.slice none 0 0) 0 (fun _ => 0) := ⟨Nat.zero_le _, trivial, none, 0, rfl, Nat.le_refl _, Nat.zero_le _, fun h => absurd h (Nat.lt_irrefl _)⟩
/-- awake's calls, one inside the other. -/
theorem aw_22 (w : World) : Calls Tryd.prog 9 #[.slice (some ⟨w.heap.size + 1, 0, none⟩) 2 2, .agg #[.slice none 0 0, .int .i64 (-1), .int .i64 0]] ((w.alloc (.cells #[.int .u8 9, .int .u8 9, .int .u8 9] 5)).alloc (.cells #[.int .u8 5, .int .u8 6] 5)) fun e w3 => ∃ b, e = .returned (.pointer (some ⟨b, 0, none⟩)) ∧
    Calls Tryd.prog 23 #[.pointer (some ⟨b, 0, none⟩), .slice (some ⟨w.heap.size, 0, none⟩) 3 3] w3 fun e w4 => e = .returned (.tuple #[.int .i64 2, .nilIface]) ∧
    Calls Tryd.prog 10 #[.agg #[.int .i64 (-1), .int .i64 0]] w4 fun e w5 => ∃ s, e = .returned (.pointer (some ⟨s, 0, none⟩)) ∧
    Calls Tryd.prog 24 #[.pointer (some ⟨s, 0, none⟩), .slice (some ⟨w5.heap.size, 0, none⟩) 1 1] (w5.alloc (.cells #[.int .u8 7] 5)) fun e w7 => e = .returned (.tuple #[.int .i64 1, .nilIface]) ∧
    Calls Tryd.prog 22 #[.slice (some ⟨w.heap.size, 0, none⟩) 3 3, .slice (some ⟨w7.heap.size, 0, none⟩) 3 3] (w7.alloc (.cells #[.int .u8 5, .int .u8 6, .int .u8 9] 5)) fun e w8 => e = .returned (.bool true) ∧
    Calls Tryd.prog 21 #[.pointer (some ⟨s, 0, none⟩)] w8 fun e w9 => ∃ a c, e = .returned (.slice a 1 c) ∧
    Calls Tryd.prog 22 #[.slice a 1 c, .slice (some ⟨w9.heap.size, 0, none⟩) 1 1] (w9.alloc (.cells #[.int .u8 7] 5)) fun e w10 => e = .returned (.bool true) ∧ Below w.heap.size w w10 := by
  have r0 : Rw (w.alloc (.cells #[.int .u8 9, .int .u8 9, .int .u8 9] 5)) w.heap.size 3 (fun i => [9, 9, 9].getD i 0) := lit_rw [9, 9, 9] w (by decide) (by decide)
  have b1 : Below w.heap.size w (w.alloc (.cells #[.int .u8 9, .int .u8 9, .int .u8 9] 5)) := (Below.refl _ _).alloc (Nat.le_refl _) _
  have s1 : (w.alloc (.cells #[.int .u8 9, .int .u8 9, .int .u8 9] 5)).heap.size = w.heap.size + 1 := by simp
  obtain ⟨W1, h1⟩ : ∃ W1, W1 = w.alloc (.cells #[.int .u8 9, .int .u8 9, .int .u8 9] 5) := ⟨_, rfl⟩
  rw [← h1] at r0 b1 s1 ⊢
  have r1 : Rw (W1.alloc (.cells #[.int .u8 5, .int .u8 6] 5)) W1.heap.size 2 (fun i => [5, 6].getD i 0) := lit_rw [5, 6] W1 (by decide) (by decide)
  have b2 : Below W1.heap.size W1 (W1.alloc (.cells #[.int .u8 5, .int .u8 6] 5)) := (Below.refl _ _).alloc (Nat.le_refl _) _
  have s2 : (W1.alloc (.cells #[.int .u8 5, .int .u8 6] 5)).heap.size = W1.heap.size + 1 := by simp
  obtain ⟨W2, h2⟩ : ∃ W2, W2 = W1.alloc (.cells #[.int .u8 5, .int .u8 6] 5) := ⟨_, rfl⟩
  rw [← h2] at r1 b2 s2 ⊢
  rw [s1] at r1
  have r0' : Rw W2 w.heap.size 3 (fun i => [9, 9, 9].getD i 0) := rw_below r0 b2
  refine (newsource22 _ _ 2 0 _ _ (-1) 0 W2 (rw_rb22 r1) (qi_nil22 W2) (by decide) (by decide) ⟨by decide, by decide⟩).mono fun e w3 ⟨b, f, e3, hS, b3⟩ => ⟨b, e3, ?_⟩
  have r3 := rw_below r0' b3
  have hrd : rd22 3 2 0 (-1) 0 (fun _ => 0) 0 = 2 := by decide
  have c2 := read22_turn w.heap.size 0 3 3 3 _ w3 hS (fun i hi => absurd hi (Nat.not_lt_zero _)) (by decide) (fun h => absurd h.1 (by decide)) (by decide) r3 (by decide) (by decide) (.inl (by omega))
  rw [hrd] at c2
  refine c2.mono fun e w4 ⟨e4, hS4, r4, k4⟩ => ⟨e4, ?_⟩
  refine (newsink22 (-1) 0 w4 ⟨by decide, by decide⟩).mono fun e w5 ⟨s, f', e5, hK, b5⟩ => ⟨s, e5, ?_⟩
  have z4 := k4.size
  have z5 := b5.size
  have b6 : Below w5.heap.size w5 (w5.alloc (.cells #[.int .u8 7] 5)) := (Below.refl _ _).alloc (Nat.le_refl _) _
  have r6 : Rw (w5.alloc (.cells #[.int .u8 7] 5)) w5.heap.size 1 (fun i => [7].getD i 0) := lit_rw [7] w5 (by decide) (by decide)
  obtain ⟨W6, h6⟩ : ∃ W6, W6 = w5.alloc (.cells #[.int .u8 7] 5) := ⟨_, rfl⟩
  rw [← h6] at r6 b6 ⊢
  refine (write22_ok _ 1 1 _ W6 (hK.below b6) (rw_rb22 r6) (by decide) (fun h => absurd h (by decide))).mono fun e w7 ⟨e7, hK7, k7⟩ => ⟨e7, ?_⟩
  have b8 : Below w7.heap.size w7 (w7.alloc (.cells #[.int .u8 5, .int .u8 6, .int .u8 9] 5)) := (Below.refl _ _).alloc (Nat.le_refl _) _
  have r8 : Rw (w7.alloc (.cells #[.int .u8 5, .int .u8 6, .int .u8 9] 5)) w7.heap.size 3 (fun i => [5, 6, 9].getD i 0) := lit_rw [5, 6, 9] w7 (by decide) (by decide)
  have r5 : Rw w7 w.heap.size 3 _ := k7.rw_ (rw_below (rw_below r4 b5) b6) (fun h => by have := r4.lt; omega)
  have r5' := rw_below r5 b8
  obtain ⟨W8, h8⟩ : ∃ W8, W8 = w7.alloc (.cells #[.int .u8 5, .int .u8 6, .int .u8 9] 5) := ⟨_, rfl⟩
  rw [← h8] at r8 b8 r5' ⊢
  refine (sb22_true _ _ 3 _ _ W8 (rw_rb22 r5') (rw_rb22 r8) (by decide)).mono fun e w8 ⟨e8, m8, hw8⟩ => ⟨e8, ?_⟩
  have hK8 : Sk (fun y => (w4.heap.size ≤ y ∧ y < w5.heap.size) ∨ W6.heap.size ≤ y ∧ y < w7.heap.size) w8 s (0 + 1) (aft (fun _ => 0) 0 fun i => [7].getD i 0) (-1) 0 f' := by rw [hw8]; exact (hK7.below b8).drewN m8
  refine (bytes22 w8 hK8 (by decide)).mono fun e w9 ⟨u, e9, hN, b9⟩ => ?_
  obtain ⟨a, c, eu⟩ : ∃ a c, u = .slice a 1 c := by obtain ⟨-, -, a, c, e, -⟩ := hN; exact ⟨a, c, e⟩
  subst eu
  refine ⟨a, c, e9, ?_⟩
  have b10 : Below w9.heap.size w9 (w9.alloc (.cells #[.int .u8 7] 5)) := (Below.refl _ _).alloc (Nat.le_refl _) _
  have r10 : Rw (w9.alloc (.cells #[.int .u8 7] 5)) w9.heap.size 1 (fun i => [7].getD i 0) := lit_rw [7] w9 (by decide) (by decide)
  refine (sb22_true _ _ 1 _ _ _ (hN.below b10).rb (rw_rb22 r10) (by decide)).mono fun e w10 ⟨e10, m10, hw10⟩ => ⟨e10, ?_⟩
  rw [hw10]
  refine below_drewN ?_ m10
  have B4 : Below w.heap.size w w4 := b1.trans ((b2.mono (by omega)).trans ((b3.mono (by omega)).trans (k4.below (fun x hx => by
    rcases hx with e | e
    · have := hS.bl; omega
    · omega) (by have := b3.size; omega))))
  have B6 : Below w.heap.size w W6 := B4.trans ((b5.mono B4.size).trans (b6.mono (by have := B4.size; omega)))
  have B7 : Below w.heap.size w w7 := B6.trans (k7.below (fun x hx => by have := B4.size; omega) (by have := B6.size; omega))
  have B8 : Below w.heap.size w w8 := by rw [hw8]; exact below_drewN (B7.trans (b8.mono B7.size)) m8
  exact B8.trans ((b9.mono B8.size).trans (b10.mono (by have := B8.size; have := b9.size; omega)))
set_option maxHeartbeats 2000000 in
set_option maxRecDepth 100000 in
theorem awake22 (w : World) : Calls Tryd.prog 15 #[] w fun e w' => e = .returned (.bool true) ∧ Below w.heap.size w w' := by
  have c1 := aw_22 w
  go_enter Tryd.func15, Tryd.ntmps15
  go_wp2_with (first
    | (go_at_call 9; (with_reducible refine c1.mono ?_); rintro e w3 ⟨b, rfl, c2⟩; clear c1)
    | (go_at_call 23; (with_reducible refine c2.mono ?_); rintro e w4 ⟨rfl, c3⟩; clear c2)
    | (go_at_call 10; (with_reducible refine c3.mono ?_); rintro e w5 ⟨s, rfl, c4⟩; clear c3)
    | (go_at_call 24; (with_reducible refine c4.mono ?_); rintro e w7 ⟨rfl, c5⟩; clear c4)
    | (go_at_call 22; (with_reducible refine c5.mono ?_); rintro e w8 ⟨rfl, c6⟩; clear c5)
    | (go_at_call 21; (with_reducible refine c6.mono ?_); rintro e w9 ⟨a, c, rfl, c7⟩; clear c6)
    | (go_at_call 22; (with_reducible refine c7.mono ?_); rintro e w10 ⟨rfl, hb⟩; have HB : Hid _ := hb; clear c7 hb))
  go_ret
  exact ⟨rfl, HB.out⟩
end Go.Proofs.YtfbgcednodnioaaDoor
namespace Go.Proofs.YtfbgcednodnioaaDoor
open Go.RowKit Gf2
set_option linter.unusedVariables false

-- layer 22: Full of a source
/-- what Full does from d bytes, i reads of nothing, the place p, t turns on: bytes, turns, error (0 none, 1 End, 2 the failure, 4 short). -/
def fu22 (n : Nat) (fa : Int) (k : Nat) (C : Nat → Int) (l : Nat) : Nat → Nat → Nat → Nat → Nat → Nat × Nat × Nat
  | 0, d, _, _, t => (d, t, 4)
  | s + 1, d, i, p, t =>
    if l ≤ d then (d, t, 0) else
    if 0 ≤ fa ∧ (p : Int) = fa then (d, t, 2) else
    if p = n then (d, t, 1) else
    if d + rd22 (l - d) n p fa k C t = l then (l, t + 1, 0) else
    if rd22 (l - d) n p fa k C t = 0 then (if i + 1 = 100 then (d, t + 1, 4) else fu22 n fa k C l s d (i + 1) p (t + 1)) else
    fu22 n fa k C l s (d + rd22 (l - d) n p fa k C t) 0 (p + rd22 (l - d) n p fa k C t) (t + 1)
/-- what is left to do. -/
def fm22 (l d i : Nat) : Nat := (l - d) * 101 + (100 - i)
/-- an error as a value. -/
def ev22 (T : TypeId) (x : Value) (f : Nat) : Nat → Value
  | 0 => .nilIface
  | 1 => .iface T x
  | 2 => .iface 22 (.pointer (some ⟨f, 0, none⟩))
  | _ => .iface 71 (.int .i64 240)
/-- two new cells: what ask makes, and how they end. -/
theorem ask_ke22 {E : Nat → Prop} {w w2 : World} (m : Int) (ev : Value) (h : Ke E ((w.alloc (.cells #[.int .i64 0] 3)).alloc (.cells #[.nilIface] 35)) w2) (hE : ∀ x, E x → x < w.heap.size) :
    w2.heap[w.heap.size]? = some (.cells #[.int .i64 0] 3 (0, 0)) ∧ w2.heap[w.heap.size + 1]? = some (.cells #[.nilIface] 35 (0, 0)) ∧
    Ke E w ((w2.setCell ⟨w.heap.size, 0, none⟩ (.int .i64 m)).setCell ⟨w.heap.size + 1, 0, none⟩ ev) ∧ (∀ x, x < w.heap.size → ((w2.setCell ⟨w.heap.size, 0, none⟩ (.int .i64 m)).setCell ⟨w.heap.size + 1, 0, none⟩ ev).heap[x]? = w2.heap[x]?) ∧
    ((w2.setCell ⟨w.heap.size, 0, none⟩ (.int .i64 m)).setCell ⟨w.heap.size + 1, 0, none⟩ ev).heap.size = w2.heap.size := by
  have b1 : Below w.heap.size w (w.alloc (.cells #[.int .i64 0] 3)) := (Below.refl _ _).alloc (Nat.le_refl _) _
  have s1 : (w.alloc (.cells #[.int .i64 0] 3)).heap.size = w.heap.size + 1 := by simp
  have b2 : Below (w.heap.size + 1) (w.alloc (.cells #[.int .i64 0] 3)) ((w.alloc (.cells #[.int .i64 0] 3)).alloc (.cells #[.nilIface] 35)) := (Below.refl _ _).alloc (by omega) _
  have s2 : ((w.alloc (.cells #[.int .i64 0] 3)).alloc (.cells #[.nilIface] 35)).heap.size = w.heap.size + 2 := by simp
  have a1 := heap_alloc_new w (.cells #[.int .i64 0] 3)
  have a2 := heap_alloc_new (w.alloc (.cells #[.int .i64 0] 3)) (.cells #[.nilIface] 35)
  rw [s1] at a2
  have k0 : Ke E w ((w.alloc (.cells #[.int .i64 0] 3)).alloc (.cells #[.nilIface] 35)) := ke_below (b1.trans (b2.mono (by omega))) E
  have o1 : Only w.heap.size w2 (w2.setCell ⟨w.heap.size, 0, none⟩ (.int .i64 m)) := (Only.refl _ _).setCell 0 _
  have o2 : Only (w.heap.size + 1) (w2.setCell ⟨w.heap.size, 0, none⟩ (.int .i64 m)) ((w2.setCell ⟨w.heap.size, 0, none⟩ (.int .i64 m)).setCell ⟨w.heap.size + 1, 0, none⟩ ev) := (Only.refl _ _).setCell 0 _
  have hx : ∀ x, x < w.heap.size → ((w2.setCell ⟨w.heap.size, 0, none⟩ (.int .i64 m)).setCell ⟨w.heap.size + 1, 0, none⟩ ev).heap[x]? = w2.heap[x]? := fun x hl => (o2.2.2 x (by omega)).trans (o1.2.2 x (by omega))
  refine ⟨?_, ?_, ?_, hx, o2.2.1.trans o1.2.1⟩
  · rw [h.2 _ (by omega) (fun e => by have := hE _ e; omega), b2.block _ (by omega)]; exact a1
  · rw [h.2 _ (by omega) (fun e => by have := hE _ e; omega)]; exact a2
  · refine ⟨(k0.trans h).1.trans (o1.1.trans o2.1), fun x hl hn => ?_⟩
    rw [hx x hl]
    exact (k0.trans h).2 x hl hn
/-- as So.keep, told block by block. -/
theorem So.same {lo hi b n k f p t : Nat} {w w' : World} {D : Nat → Nat} {C : Nat → Int} {fa code : Int} (h : So lo hi w b n D k C fa code f p t) {B : Nat} (hB : hi ≤ B) (hs : B ≤ w.heap.size) (e : ∀ x, x < B → w'.heap[x]? = w.heap[x]?) (hz : w.heap.size ≤ w'.heap.size) (hb : Below 0 w w') : So lo hi w' b n D k C fa code f p t :=
  h.keep (E := fun x => B ≤ x) ⟨hb, fun x _ hn => e x (by omega)⟩ (fun x _ h2 h3 => by omega)
/-- a source is asked: it breaks, or has ended. -/
theorem askstop22 {lo hi b n k f p t : Nat} {D : Nat → Nat} {C : Nat → Int} {fa code : Int} (v ev : Value) (w : World) (h : So lo hi w b n D k C fa code f p t) (hev : ev = .nilIface ∨ ∃ T v, ev = .iface T v)
    (c : ∀ W, So lo hi W b n D k C fa code f p t → Ke (fun _ => False) w W → Calls Tryd.prog 23 #[.pointer (some ⟨b, 0, none⟩), v] W fun e w' => e = .returned (.tuple #[.int .i64 0, ev]) ∧ ∃ m, w' = W.drewN m) :
    Calls Tryd.prog 43 #[.func (.method "Read") #[.iface 25 (.pointer (some ⟨b, 0, none⟩))] #[], v] w fun e w' => e = .returned (.tuple #[.int .i64 0, ev]) ∧ Ke (fun _ => False) w w' := by
  have k0 : Ke (fun _ => False) w ((w.alloc (.cells #[.int .i64 0] 3)).alloc (.cells #[.nilIface] 35)) := ke_below (((Below.refl _ _).alloc (Nat.le_refl _) _).alloc (by simp) _) _
  have hS := h.keep k0 (fun _ _ _ e => e)
  refine (askread22 _ v w ev hev (fun m w' => m = 0 ∧ Ke (fun _ => False) ((w.alloc (.cells #[.int .i64 0] 3)).alloc (.cells #[.nilIface] 35)) w') ((c _ hS k0).mono fun e w' ⟨he, m, hw⟩ => ?_)).mono fun e w' ⟨m, w2, he, ⟨hm, hk⟩, hw'⟩ => ⟨by rw [he, hm], ?_⟩
  · have hk : Ke (fun _ => False) ((w.alloc (.cells #[.int .i64 0] 3)).alloc (.cells #[.nilIface] 35)) w' := by rw [hw]; exact (Ke.refl _ _).drewN m
    have q := ask_ke22 0 ev hk (fun x e => e.elim)
    exact ⟨0, he, q.1, q.2.1, rfl, hk⟩
  · rw [hw']
    exact (ask_ke22 m ev hk (fun x e => e.elim)).2.2.1
/-- a source is asked, and the read has its turn. -/
theorem askturn22 {lo hi b n k f p t : Nat} {D : Nat → Nat} {C : Nat → Int} {fa code : Int} (g o N l c0 : Nat) (G : Nat → Nat) (w : World) (h : So lo hi w b n D k C fa code f p t) (hC : ∀ i, i < k → I6x (C i)) (hl : 0 < l) (hp : ¬ (0 ≤ fa ∧ (p : Int) = fa)) (hn : p < n)
    (hR : Rw w g N G) (hoN : o + l ≤ N) (hlb : l ≤ 140737488355328) (hg : g < lo ∨ hi ≤ g) :
    Calls Tryd.prog 43 #[.func (.method "Read") #[.iface 25 (.pointer (some ⟨b, 0, none⟩))] #[], .slice (some ⟨g, o, none⟩) l c0] w fun e w' => e = .returned (.tuple #[.int .i64 ((rd22 l n p fa k C t : Nat) : Int), .nilIface]) ∧
      So lo hi w' b n D k C fa code f (p + rd22 l n p fa k C t) (t + 1) ∧ Rw w' g N (pl G o (rd22 l n p fa k C t) (fun i => D (p + i))) ∧ Ke (fun x => x = b ∨ x = g) w w' := by
  have bA : Below w.heap.size w ((w.alloc (.cells #[.int .i64 0] 3)).alloc (.cells #[.nilIface] 35)) := ((Below.refl _ _).alloc (Nat.le_refl _) _).alloc (by simp) _
  have hS := h.below bA
  have rA := rw_below hR bA
  have hEb : ∀ x, (x = b ∨ x = g) → x < w.heap.size := fun x e => by
    rcases e with e | e
    · have := h.bl; have := h.hh; omega
    · rw [e]; exact hR.lt
  refine (askread22 _ _ w .nilIface (.inl rfl) (fun m w' => m = ((rd22 l n p fa k C t : Nat) : Int) ∧ So lo hi w' b n D k C fa code f (p + rd22 l n p fa k C t) (t + 1) ∧ Rw w' g N (pl G o (rd22 l n p fa k C t) (fun i => D (p + i))) ∧ Ke (fun x => x = b ∨ x = g) ((w.alloc (.cells #[.int .i64 0] 3)).alloc (.cells #[.nilIface] 35)) w')
    ((read22_turn g o N l c0 G _ hS hC hl hp hn rA hoN hlb hg).mono fun e w' ⟨he, s1, r1, k1⟩ => ?_)).mono fun e w' ⟨m, w2, he, ⟨hm, s1, r1, k1⟩, hw'⟩ => ?_
  · have q := ask_ke22 0 .nilIface k1 hEb
    exact ⟨_, he, q.1, q.2.1, rfl, s1, r1, k1⟩
  · have q := ask_ke22 m .nilIface k1 hEb
    rw [← hw'] at q
    have hb0 : Below 0 w2 w' := by
      rw [hw']
      exact (((Only.refl w.heap.size w2).setCell 0 (.int .i64 m)).1).trans (((Only.refl (w.heap.size + 1) (w2.setCell ⟨w.heap.size, 0, none⟩ (.int .i64 m))).setCell 0 .nilIface).1)
    have hz := k1.size
    have hz2 : ((w.alloc (.cells #[.int .i64 0] 3)).alloc (.cells #[.nilIface] 35)).heap.size = w.heap.size + 2 := by simp
    refine ⟨by rw [he, hm], s1.same h.hh (by omega) q.2.2.2.1 (by rw [q.2.2.2.2]; exact Nat.le_refl _) hb0, r1.of_block (q.2.2.2.1 g hR.lt), q.2.2.1⟩
end Go.Proofs.YtfbgcednodnioaaDoor
namespace Go.Proofs.YtfbgcednodnioaaDoor
open Go.RowKit Gf2
set_option linter.unusedVariables false

-- layer 22: Full of a source
theorem pl_more22 (G D : Nat → Nat) (o d m p i : Nat) : pl (pl G o d (fun i => D (p + i))) (o + d) m (fun i => D (p + d + i)) i = pl G o (d + m) (fun i => D (p + i)) i := by
  unfold pl
  by_cases h1 : o + d ≤ i ∧ i < o + d + m
  · rw [if_pos h1, if_pos (by omega)]
    show D (p + d + (i - (o + d))) = D (p + (i - o))
    rw [show p + d + (i - (o + d)) = p + (i - o) by omega]
  · rw [if_neg h1]
    by_cases h2 : o ≤ i ∧ i < o + d
    · rw [if_pos h2, if_pos (by omega)]
    · rw [if_neg h2, if_neg (by omega)]
theorem run_rest22 (g o l c0 d : Nat) (hd : d < l) (hc : l ≤ c0) (W : World) :
    (Instr.slice 41 (.slice (some ⟨g, o, none⟩) l c0) (some (.int .i64 (d : Int))) (some (.int .i64 (l : Int))) (some (.int .i64 (l : Int)))).run Tryd.prog W = .ok (.slice (some ⟨g, o + d, none⟩) (l - d) (l - d)) W := by
  have hu : Tryd.prog.underlying 41 = some (.slice (Tryd.prog.elem 41)) := by rw [elem_u8_22]; exact Tryd.underlying41
  have h := run_slice_lhm (P := Tryd.prog) (w := W) 41 (some ⟨g, o, none⟩) l c0 hu .i64 .i64 .i64 (d : Int) (l : Int) (l : Int) (by omega) (by omega) (by omega) (by omega)
  rw [h, elem_u8_22, size_u8_22]
  simp only [Result.andThen, sliced, Int.toNat_natCast, Nat.mul_one]
  rw [if_neg (by omega)]
  show Result.ok (Value.slice (some ((⟨g, o, none⟩ : Addr).add d)) (l - d) (l - d)) W = _
  rw [Addr.add_lit]
/-- where Full stands. -/
structure Fr22 (lo hi : Nat) (w wr : World) (b n : Nat) (D : Nat → Nat) (k : Nat) (C : Nat → Int) (fa code : Int) (f p : Nat) (g o N : Nat) (G : Nat → Nat) (d t : Nat) : Prop where
  so : So lo hi wr b n D k C fa code f (p + d) t
  rw : Rw wr g N (pl G o d (fun i => D (p + i)))
  ke : Ke (fun x => x = b ∨ x = g) w wr
theorem rd22_le (l n p : Nat) (fa : Int) (k : Nat) (C : Nat → Int) (t : Nat) : rd22 l n p fa k C t ≤ l := Nat.le_trans (mo22_le _ n p fa).1 (tw22_le l k C t)
set_option maxHeartbeats 1000000 in
set_option maxRecDepth 100000 in
theorem all22 {lo hi b n k f p t : Nat} {D : Nat → Nat} {C : Nat → Int} {fa code : Int} (g o N l c0 : Nat) (G : Nat → Nat) (T : TypeId) (x : Value) (w : World) (h : So lo hi w b n D k C fa code f p t) (hC : ∀ i, i < k → I6x (C i))
    (hR : Rw w g N G) (hoN : o + l ≤ N) (hlb : l ≤ 140737488355328) (hc0 : l ≤ c0) (hg : g < lo ∨ hi ≤ g) (hE : w.cell? ⟨0, 0, none⟩ = some (.iface T x)) (hgE : 0 < lo ∧ g ≠ 0) (s : Nat) (hs : fm22 l 0 0 < s) :
    Calls Tryd.prog 40 #[.func (.method "Read") #[.iface 25 (.pointer (some ⟨b, 0, none⟩))] #[], .slice (some ⟨g, o, none⟩) l c0] w fun e w' =>
      e = .returned (.tuple #[.int .i64 (((fu22 n fa k C l s 0 0 p t).1 : Nat) : Int), ev22 T x f (fu22 n fa k C l s 0 0 p t).2.2]) ∧ Fr22 lo hi w w' b n D k C fa code f p g o N G (fu22 n fa k C l s 0 0 p t).1 (fu22 n fa k C l s 0 0 p t).2.1 := by
  obtain ⟨R, hRR⟩ : ∃ R, R = fu22 n fa k C l s 0 0 p t := ⟨_, rfl⟩
  rw [← hRR]
  have HH : Hid ((∀ i, i < k → I6x (C i)) ∧ o + l ≤ N ∧ l ≤ 140737488355328 ∧ l ≤ c0 ∧ (g < lo ∨ hi ≤ g) ∧ w.cell? ⟨0, 0, none⟩ = some (.iface T x) ∧ 0 < lo ∧ g ≠ 0) := ⟨hC, hoN, hlb, hc0, hg, hE, hgE⟩
  have F0 : Hid (Fr22 lo hi w w b n D k C fa code f p g o N G 0 t) := ⟨h, hR.congr (fun i _ => (pl_out (by omega)).symm), Ke.refl _ _⟩
  have R0 : Hid (∃ s, fm22 l 0 0 < s ∧ R = fu22 n fa k C l s 0 0 (p + 0) t) := ⟨s, hs, hRR⟩
  clear h hC hR hoN hlb hc0 hg hE hgE hs hRR
  go_enter Tryd.func40, Tryd.ntmps40
  go_wp2
  go_loopw [6, 7] (fun d i wr => ∃ dn idl t1 : Nat, dn ≤ l ∧ idl < 100 ∧ d = .int .i64 (dn : Int) ∧ i = .int .i64 (idl : Int) ∧ Fr22 lo hi w wr b n D k C fa code f p g o N G dn t1 ∧ ∃ s, fm22 l dn idl < s ∧ R = fu22 n fa k C l s dn idl (p + dn) t1) (fun d i _ => fm22 l (intOf d).toNat (intOf i).toNat)
  case atStart => exact ⟨0, 0, t, Nat.zero_le _, by decide, rfl, rfl, F0.out, R0.out⟩
  case round =>
    obtain ⟨dn, idl, t1, hd, hi100, rfl, rfl, hF, s1, hs1, hR1⟩ := hrel
    clear F0 R0
    obtain ⟨s2, rfl⟩ : ∃ s2, s1 = s2 + 1 := ⟨s1 - 1, by omega⟩
    rw [fu22] at hR1
    by_cases hlt : dn < l
    · rw [if_neg (by omega)] at hR1
      obtain ⟨hC, hoN, hlb, hc0, hg, hE, hgE⟩ := HH.out
      have hsl := run_rest22 g o l c0 dn hlt hc0
      have ib : ((dn : Nat) : Int) < (l : Int) := Int.ofNat_lt.2 hlt
      have hEr : wr.cell? ⟨0, 0, none⟩ = some (.iface T x) := (hF.ke.cell (cell_lt22 hE) (fun (e : 0 = b ∨ 0 = g) => by have := hF.so.bl; omega)).trans hE
      have W1 : wrap64 ((l : Int) - (dn : Int)) = ((l - dn : Nat) : Int) := by unfold wrap64; omega
      have Hq : Hid (dn < l ∧ idl < 100) := ⟨hlt, hi100⟩
      by_cases hfa : 0 ≤ fa ∧ ((p + dn : Nat) : Int) = fa
      · rw [if_pos hfa] at hR1
        have c1 : Calls Tryd.prog 43 #[.func (.method "Read") #[.iface 25 (.pointer (some ⟨b, 0, none⟩))] #[], .slice (some ⟨g, o + dn, none⟩) (l - dn) (l - dn)] wr fun e w' => e = .returned (.tuple #[.int .i64 0, .iface 22 (.pointer (some ⟨f, 0, none⟩))]) ∧ Ke (fun _ => False) wr w' :=
          askstop22 _ _ wr hF.so (.inr ⟨_, _, rfl⟩) (fun W hW kW => read22_fail (l - dn) _ _ W hW (by omega) hfa.1 hfa.2)
        have HG : Hid (∀ w1, Ke (fun _ => False) wr w1 → Fr22 lo hi w w1 b n D k C fa code f p g o N G dn t1) := fun w1 k1 => ⟨hF.so.keep k1 (fun _ _ _ e => e), k1.rw_ hF.rw (fun e => e), hF.ke.trans (k1.mono (fun _ _ e => e.elim))⟩
        have e2 : ∀ W : World, Sem.run Tryd.prog (binOp BinOp.neq 35 (Value.iface 22 (.pointer (some ⟨f, 0, none⟩))) Value.nilIface) W = .ok (.bool true) W := fun W => by kernel_rfl
        have D1 : decide (((l - dn : Nat) : Int) < 0) = false := decide_eq_false (by omega)
        have D2 : ((dn : Int) == (l : Int)) = false := beq_eq_false_iff_ne.2 (by omega)
        have HW : Hid (wrap64 (dn : Int) = (dn : Int) ∧ wrap64 ((l : Int) - (dn : Int)) = ((l - dn : Nat) : Int)) := ⟨by unfold wrap64; omega, W1⟩
        have D3 : ¬ dn = l := by omega
        have HR1 : Hid (R = (dn, t1, 2)) := hR1
        generalize l - dn = r at *
        clear hF hR1 hfa hEr hs1 hd hlt hC hoN hlb hc0 hg hE hgE HH hi100 W1
        go_wp2_with (go_at_call 43; (with_reducible refine c1.mono ?_); rintro e w1 ⟨rfl, hk⟩; have HK : Hid _ := hk; clear c1 hk hsl; have W1 := HW.out.2; have W3 := HW.out.1)
        rw [HR1.out]
        go_ret2
        simp only [W3]
        exact ⟨rfl, HG.out _ HK.out⟩
      · rw [if_neg hfa] at hR1
        by_cases hpn : p + dn = n
        · rw [if_pos hpn] at hR1
          have c1 : Calls Tryd.prog 43 #[.func (.method "Read") #[.iface 25 (.pointer (some ⟨b, 0, none⟩))] #[], .slice (some ⟨g, o + dn, none⟩) (l - dn) (l - dn)] wr fun e w' => e = .returned (.tuple #[.int .i64 0, .iface T x]) ∧ Ke (fun _ => False) wr w' :=
            askstop22 _ _ wr hF.so (.inr ⟨_, _, rfl⟩) (fun W hW kW => read22_end (l - dn) _ _ T x W hW (by omega) hfa hpn ((kW.cell (cell_lt22 hEr) (fun e => e)).trans hEr))
          have HG : Hid (∀ w1, Ke (fun _ => False) wr w1 → Fr22 lo hi w w1 b n D k C fa code f p g o N G dn t1) := fun w1 k1 => ⟨hF.so.keep k1 (fun _ _ _ e => e), k1.rw_ hF.rw (fun e => e), hF.ke.trans (k1.mono (fun _ _ e => e.elim))⟩
          have e2 : ∀ W : World, Sem.run Tryd.prog (binOp BinOp.neq 35 (Value.iface T x) Value.nilIface) W = .ok (.bool true) W := fun W => by kernel_rfl
          have D1 : decide (((l - dn : Nat) : Int) < 0) = false := decide_eq_false (by omega)
          have D2 : ((dn : Int) == (l : Int)) = false := beq_eq_false_iff_ne.2 (by omega)
          have HW : Hid (wrap64 (dn : Int) = (dn : Int) ∧ wrap64 ((l : Int) - (dn : Int)) = ((l - dn : Nat) : Int)) := ⟨by unfold wrap64; omega, W1⟩
          have D3 : ¬ dn = l := by omega
          have HR1 : Hid (R = (dn, t1, 1)) := hR1
          generalize l - dn = r at *
          clear hF hR1 hfa hpn hEr hs1 hd hlt hC hoN hlb hc0 hg hE hgE HH hi100 W1
          go_wp2_with (go_at_call 43; (with_reducible refine c1.mono ?_); rintro e w1 ⟨rfl, hk⟩; have HK : Hid _ := hk; clear c1 hk hsl; have W1 := HW.out.2; have W3 := HW.out.1)
          rw [HR1.out]
          go_ret2
          simp only [W3]
          exact ⟨rfl, HG.out _ HK.out⟩
        · rw [if_neg hpn] at hR1
          have hplt : p + dn < n := by have := hF.so.pn; omega
          have hmle := rd22_le (l - dn) n (p + dn) fa k C t1
          have c1 := askturn22 g (o + dn) N (l - dn) (l - dn) _ wr hF.so hC (by omega) hfa hplt hF.rw (by omega) (by omega) hg
          obtain ⟨m, hm⟩ : ∃ m, m = rd22 (l - dn) n (p + dn) fa k C t1 := ⟨_, rfl⟩
          rw [← hm] at c1 hR1 hmle
          have HG : Hid (∀ w1, So lo hi w1 b n D k C fa code f (p + dn + m) (t1 + 1) → Rw w1 g N (pl (pl G o dn fun i => D (p + i)) (o + dn) m fun i => D (p + dn + i)) → Ke (fun x => x = b ∨ x = g) wr w1 → Fr22 lo hi w w1 b n D k C fa code f p g o N G (dn + m) (t1 + 1)) :=
            fun w1 h1 h2 h3 => ⟨by rw [← Nat.add_assoc]; exact h1, h2.congr (fun i _ => pl_more22 G D o dn m p i), hF.ke.trans h3⟩
          have HW : Hid (wrap64 ((l : Int) - (dn : Int)) = ((l - dn : Nat) : Int) ∧ wrap64 ((dn : Int) + (m : Int)) = ((dn + m : Nat) : Int) ∧ wrap64 ((idl : Int) + 1) = ((idl + 1 : Nat) : Int)) := ⟨W1, by unfold wrap64; omega, by unfold wrap64; omega⟩
          have D1 : decide ((m : Int) < 0) = false := decide_eq_false (by omega)
          have D2 : decide (((l - dn : Nat) : Int) < (m : Int)) = false := decide_eq_false (by omega)
          have D2N : ¬ l - dn < m := by omega
          have Hdm : Hid (dn + m ≤ l) := by show dn + m ≤ l; omega
          obtain ⟨u, hu⟩ : ∃ u, Hid (dn + m = u) := ⟨_, rfl⟩
          rw [hu.out] at HW HG hR1 Hdm
          have Hs : Hid (fm22 l dn idl < s2 + 1) := hs1
          generalize hrr : l - dn = r at *
          by_cases hdl : u = l
          · rw [if_pos hdl] at hR1
            have D3 : ((u : Int) == (l : Int)) = true := by rw [hdl]; simp
            have HR1 : Hid (R = (l, t1 + 1, 0)) := hR1
            have Hul : Hid (u = l) := hdl
            clear hF hR1 hfa hpn hplt hEr hs1 hd hlt hC hoN hlb hc0 hg hE hgE HH hi100 W1 hm hmle hrr Hdm hdl
            go_wp2_with (go_at_call 43; (with_reducible refine c1.mono ?_); rintro e w1 ⟨rfl, k1, k2, k3⟩; have HF := HG.out w1 k1 k2 k3; have HF2 : Hid _ := HF; clear c1 k1 k2 k3 hsl HF HG; have W1 := HW.out.1; have W2 := HW.out.2.1)
            rw [HR1.out]
            go_ret2
            simp only [W2]
            exact ⟨by rw [Hul.out]; rfl, by rw [← Hul.out]; exact HF2.out⟩
          · rw [if_neg hdl] at hR1
            have D3 : ((u : Int) == (l : Int)) = false := beq_eq_false_iff_ne.2 (by omega)
            have D3N : ¬ u = l := hdl
            by_cases hm0 : m = 0
            · rw [if_pos hm0] at hR1
              have D4 : decide ((0 : Int) < (m : Int)) = false := decide_eq_false (by omega)
              have D4N : ¬ 0 < m := by omega
              have Hum : Hid (u = dn ∧ idl + 1 ≤ 100) := ⟨by have := hu.out; omega, by omega⟩
              by_cases h100 : idl + 1 = 100
              · rw [if_pos h100] at hR1
                have D5 : (((idl + 1 : Nat) : Int) == 100) = true := by rw [h100]; rfl
                have HR1 : Hid (R = (dn, t1 + 1, 4)) := hR1
                clear hF hR1 hfa hpn hplt hEr hs1 hd hlt hC hoN hlb hc0 hg hE hgE HH W1 hm hmle hrr hdl h100 hi100 hm0
                generalize idl + 1 = j at *
                go_wp2_with (go_at_call 43; (with_reducible refine c1.mono ?_); rintro e w1 ⟨rfl, k1, k2, k3⟩; have HF := HG.out w1 k1 k2 k3; have HF2 : Hid _ := HF; clear c1 k1 k2 k3 hsl HF HG; have W1 := HW.out.1; have W2 := HW.out.2.1; have W3 := HW.out.2.2)
                rw [HR1.out]
                go_ret2
                simp only [W2]
                exact ⟨by rw [Hum.out.1]; rfl, by rw [Hum.out.1] at HF2; exact HF2.out⟩
              · rw [if_neg h100] at hR1
                have D5 : (((idl + 1 : Nat) : Int) == 100) = false := beq_eq_false_iff_ne.2 (by omega)
                have HR1 : Hid (R = fu22 n fa k C l s2 dn (idl + 1) (p + dn) (t1 + 1)) := hR1
                have Hj : Hid (idl + 1 < 100) := by show idl + 1 < 100; omega
                have HM : Hid (fm22 l dn (idl + 1) < fm22 l dn idl) := by show fm22 l dn (idl + 1) < fm22 l dn idl; unfold fm22; omega
                clear hF hR1 hfa hpn hplt hEr hs1 hd hlt hC hoN hlb hc0 hg hE hgE HH W1 hm hmle hrr hdl h100 hi100 hm0
                generalize idl + 1 = j at *
                go_wp2_with (go_at_call 43; (with_reducible refine c1.mono ?_); rintro e w1 ⟨rfl, k1, k2, k3⟩; have HF := HG.out w1 k1 k2 k3; have HF2 : Hid _ := HF; clear c1 k1 k2 k3 hsl HF HG; have W1 := HW.out.1; have W2 := HW.out.2.1; have W3 := HW.out.2.2)
                simp only [W2, W3]
                go_roundw
                case rel => exact ⟨dn, j, t1 + 1, by have := Hdm.out; have := Hum.out.1; omega, Hj.out, by rw [Hum.out.1], rfl, by rw [Hum.out.1] at HF2; exact HF2.out, s2, by have := HM.out; have := Hs.out; omega, HR1.out⟩
                case measure => rw [Hum.out.1]; exact HM.out
            · rw [if_neg hm0] at hR1
              have D4 : decide ((0 : Int) < (m : Int)) = true := decide_eq_true (by omega)
              have D4N : 0 < m := by omega
              have HR1 : Hid (R = fu22 n fa k C l s2 u 0 (p + dn + m) (t1 + 1)) := hR1
              have Hpd : Hid (p + dn + m = p + u) := by have := hu.out; show p + dn + m = p + u; omega
              have HM : Hid (fm22 l u 0 < fm22 l dn idl) := by
                show fm22 l u 0 < fm22 l dn idl
                have h1 := hu.out
                have h2 := Hdm.out
                have h3 : (l - u) * 101 + 101 ≤ (l - dn) * 101 := by omega
                unfold fm22
                omega
              clear hF hR1 hfa hpn hplt hEr hs1 hd hlt hC hoN hlb hc0 hg hE hgE HH W1 hm hmle hrr hdl hi100 hm0
              go_wp2_with (go_at_call 43; (with_reducible refine c1.mono ?_); rintro e w1 ⟨rfl, k1, k2, k3⟩; have HF := HG.out w1 k1 k2 k3; have HF2 : Hid _ := HF; clear c1 k1 k2 k3 hsl HF HG; have W1 := HW.out.1; have W2 := HW.out.2.1; have W3 := HW.out.2.2)
              simp only [W2]
              go_roundw
              case rel => exact ⟨u, 0, t1 + 1, Hdm.out, by decide, rfl, rfl, HF2.out, s2, by have := HM.out; have := Hs.out; omega, by rw [← Hpd.out]; exact HR1.out⟩
              case measure => exact HM.out
    · rw [if_pos (by omega)] at hR1
      have hdl : dn = l := by omega
      have ib : ¬ ((dn : Nat) : Int) < (l : Int) := by omega
      have HF : Hid (Fr22 lo hi w wr b n D k C fa code f p g o N G dn t1) := hF
      have HR1 : Hid (R = (dn, t1, 0)) := hR1
      clear hF hR1 hs1 hd hi100 hlt hdl
      go_wp2
      rw [HR1.out]
      go_ret2
      exact ⟨rfl, HF.out⟩
set_option maxHeartbeats 2000000 in
set_option maxRecDepth 100000 in
theorem full22 {lo hi b n k f p t : Nat} {D : Nat → Nat} {C : Nat → Int} {fa code : Int} (g o N l c0 : Nat) (G : Nat → Nat) (T : TypeId) (x : Value) (w : World) (h : So lo hi w b n D k C fa code f p t) (hC : ∀ i, i < k → I6x (C i))
    (hR : Rw w g N G) (hoN : o + l ≤ N) (hlb : l ≤ 140737488355328) (hc0 : l ≤ c0) (hg : g < lo ∨ hi ≤ g) (hE : w.cell? ⟨0, 0, none⟩ = some (.iface T x)) (hgE : 0 < lo ∧ g ≠ 0) (s : Nat) (hs : fm22 l 0 0 < s) :
    Calls Tryd.prog 25 #[.iface 25 (.pointer (some ⟨b, 0, none⟩)), .slice (some ⟨g, o, none⟩) l c0] w fun e w' =>
      e = .returned (.tuple #[.int .i64 (((fu22 n fa k C l s 0 0 p t).1 : Nat) : Int), ev22 T x f (fu22 n fa k C l s 0 0 p t).2.2]) ∧ Fr22 lo hi w w' b n D k C fa code f p g o N G (fu22 n fa k C l s 0 0 p t).1 (fu22 n fa k C l s 0 0 p t).2.1 := by
  have c1 := all22 g o N l c0 G T x w h hC hR hoN hlb hc0 hg hE hgE s hs
  generalize fu22 n fa k C l s 0 0 p t = R at *
  obtain ⟨ev, hev⟩ : ∃ ev, ev22 T x f R.2.2 = ev := ⟨_, rfl⟩
  rw [hev] at c1 ⊢
  have hmf : ∀ (fn : Fn) (first cap : Array Value) (w : World), (Instr.makeFunc fn first cap).run Tryd.prog w = .ok (.func fn first cap) w := fun _ _ _ _ => rfl
  have e2 : ∀ W : World, Sem.run Tryd.prog (binOp BinOp.eql 92 (Value.iface 25 (.pointer (some ⟨b, 0, none⟩))) Value.nilIface) W = .ok (.bool false) W := fun W => by kernel_rfl
  clear h hC hR hoN hlb hc0 hg hE hgE hs hev
  go_enter Tryd.func25, Tryd.ntmps25
  go_wp2_with (go_at_call 40; (with_reducible refine c1.mono ?_); rintro e w1 ⟨rfl, hb⟩; have HB : Hid _ := hb; clear c1 hb)
  go_ret2
  exact ⟨rfl, HB.out⟩
end Go.Proofs.YtfbgcednodnioaaDoor
