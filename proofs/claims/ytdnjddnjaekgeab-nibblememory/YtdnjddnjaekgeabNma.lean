import Derived.Test.YtdnjddnjaekgeabNbd
import Derived.Deep.AppendLies
import Derived.Deep.OwnRows
import Derived.ArgAppend
import Derived.OwnWalk
import Derived.Deep.Onto
namespace Go.Proofs.Ytdnjddnjaekgeab
open Go.RowKit Gf2
set_option linter.unusedVariables false

theorem info_lm : ∃ i, Try.prog.info? 22 = some i ∧ i.zero = some (Value.slice none 0 0) ∧ i.size = 1 ∧ i.bytes = 24 := by
  have h : (Try.prog.info? 22).map (fun i => (i.zero, i.size, i.bytes)) = some (some (Value.slice none 0 0), 1, 24) := by kernel_rfl
  obtain ⟨i, hi, hz⟩ := Option.map_eq_some_iff.1 h
  simp only [Prod.mk.injEq] at hz
  exact ⟨i, hi, hz.1, hz.2.1, hz.2.2⟩
theorem info_bm : ∃ i, Try.prog.info? 5 = some i ∧ i.zero = some (Value.int .u8 0) ∧ i.size = 1 ∧ i.bytes = 1 := by
  have h : (Try.prog.info? 5).map (fun i => (i.zero, i.size, i.bytes)) = some (some (Value.int .u8 0), 1, 1) := by kernel_rfl
  obtain ⟨i, hi, hz⟩ := Option.map_eq_some_iff.1 h
  simp only [Prod.mk.injEq] at hz
  exact ⟨i, hi, hz.1, hz.2.1, hz.2.2⟩

/-- lists of L bytes at the heads of the blocks B r. -/
def lsq (L : Nat) (B C : Nat → Nat) (n : Nat) : List Value := (List.range n).map fun r => Value.slice (some ⟨B r, 0, none⟩) L (C r)
theorem lsq_len (L : Nat) (B C : Nat → Nat) (n : Nat) : (lsq L B C n).length = n := by simp [lsq]
theorem lsq_get (L : Nat) (B C : Nat → Nat) {n r : Nat} (h : r < n) : (lsq L B C n)[r]? = some (.slice (some ⟨B r, 0, none⟩) L (C r)) := by simp [lsq, h]
theorem lsq_app (L : Nat) (B C X Y : Nat → Nat) (n m : Nat) : lsq L B C n ++ lsq L X Y m = lsq L (fun r => if r < n then B r else X (r - n)) (fun r => if r < n then C r else Y (r - n)) (n + m) := by
  apply List.ext_getElem?
  intro r
  by_cases h : r < n
  · rw [List.getElem?_append_left (by rw [lsq_len]; exact h), lsq_get _ _ _ h, lsq_get _ _ _ (by omega), if_pos h, if_pos h]
  · rw [List.getElem?_append_right (by rw [lsq_len]; omega), lsq_len]
    by_cases h2 : r < n + m
    · rw [lsq_get _ _ _ (by omega), lsq_get _ _ _ h2, if_neg h, if_neg h]
    · rw [List.getElem?_eq_none (by rw [lsq_len]; omega), List.getElem?_eq_none (by rw [lsq_len]; omega)]
theorem lsq_congr (L : Nat) {B C B' C' : Nat → Nat} {n : Nat} (h : ∀ r, r < n → B r = B' r ∧ C r = C' r) : lsq L B C n = lsq L B' C' n := by
  unfold lsq
  apply List.map_congr_left
  intro r hr
  rw [(h r (List.mem_range.1 hr)).1, (h r (List.mem_range.1 hr)).2]

/-- a list of such lists that the call owns. -/
structure Lq (w : World) (base : Nat) (av : Value) (L n : Nat) (B C : Nat → Nat) : Prop where
  own : w.ownsRow base 22 1 av n (lsq L B C n)
  ne : ∀ r, r < n → av.ownBlock ≠ some (B r)
  lo : ∀ r, r < n → base ≤ B r
  hi : ∀ r, r < n → B r < w.heap.size
theorem Lq.none (w : World) (base L : Nat) (B C : Nat → Nat) : Lq w base (.slice none 0 0) L 0 B C :=
  ⟨World.ownsRow_nil _ _ _ _, fun r hr => absurd hr (Nat.not_lt_zero _), fun r hr => absurd hr (Nat.not_lt_zero _), fun r hr => absurd hr (Nat.not_lt_zero _)⟩
theorem Lq.below {w w' : World} {base L n : Nat} {av : Value} {B C : Nat → Nat} (h : Lq w base av L n B C) (hb : Below w.heap.size w w') : Lq w' base av L n B C := by
  refine ⟨?_, h.ne, h.lo, fun r hr => Nat.lt_of_lt_of_le (h.hi r hr) hb.size⟩
  refine h.own.kept (row := Option.none) ⟨hb.os, hb.tape, hb.output, hb.size, fun k hk _ => hb.block k hk⟩ ?_
  cases e : av.ownBlock with
  | none => exact .inl rfl
  | some k => exact .inr (by simp)
/-- m lists more. -/
theorem lq_run {w w3 : World} {base L n m : Nat} {av : Value} {B C : Nat → Nat} (h : Lq w base av L n B C) (hbase : base ≤ w.heap.size) (hb : Below w.heap.size w w3) (X Y : Nat → Nat)
    (hX : ∀ j, j < m → w.heap.size ≤ X j ∧ X j < w3.heap.size) (hm : 0 < m) (hn : n + m ≤ 1000) :
    ∃ g cp w5, (Builtin.append_ #[34, 34] 34 #[av, .slice (some ⟨w3.heap.size, 0, none⟩) m m]).run Try.prog (w3.alloc (.cells (lsq L X Y m).toArray 22)) = .ok (.slice (some ⟨g, 0, none⟩) (n + m) cp) w5 ∧
      Lq w5 base (.slice (some ⟨g, 0, none⟩) (n + m) cp) L (n + m) (fun r => if r < n then B r else X (r - n)) (fun r => if r < n then C r else Y (r - n)) ∧
      (∀ k, k < w3.heap.size → av.ownBlock ≠ some k → w5.heap[k]? = w3.heap[k]?) ∧ Below base w w5 ∧ g < w5.heap.size ∧ w3.heap.size ≤ w5.heap.size := by
  obtain ⟨iL, k1, k2, k3, k4⟩ := info_lm
  have h3 := h.below hb
  have hs3 := hb.size
  obtain ⟨g, cp, w5, hrun, own, gr, lies, lt⟩ := run_append_lies (P := Try.prog) (w3.alloc (.cells (lsq L X Y m).toArray 22)) 34 34 base 22 iL (.slice Option.none 0 0) 1 24 Try.underlying34 k1 k2 k3 k4 rfl (by decide)
    av n (lsq L B C n) (h3.own.alloc _) ⟨w3.heap.size, 0, Option.none⟩ m m (lsq L X Y m) (by rw [lsq_len, Nat.mul_one]) (fun j u hu => World.news_of_block (heap_alloc_new w3 _) j u (by simpa using hu))
    (fun u hu => by
      simp [lsq] at hu
      obtain ⟨r, -, rfl⟩ := hu
      rfl) hm (by unfold maxLen; omega) (by omega) (by simp; omega) (w3.heap.size + 1) (by simp)
  have hsz : (w3.alloc (.cells (lsq L X Y m).toArray 22)).heap.size = w3.heap.size + 1 := by simp
  have hgs := gr.size
  have hblk : ∀ k, k < w3.heap.size → av.ownBlock ≠ some k → w5.heap[k]? = w3.heap[k]? := fun k hk hne => (gr.block k (by omega) (fun e => hne e.symm)).trans (Below.heap_alloc w3 _ k hk)
  refine ⟨g, cp, w5, hrun, ⟨by rw [← lsq_app]; exact own, fun r hr e => ?_, fun r hr => ?_, fun r hr => ?_⟩, hblk, ⟨gr.os.trans hb.os, gr.tape.trans hb.tape, gr.output.trans hb.output, by omega, fun k hk => (hblk k (by omega) (fun e => ?_)).trans (hb.block k (by omega))⟩, lt, by omega⟩
  · have e : g = if r < n then B r else X (r - n) := by simpa [Value.ownBlock] using e
    by_cases c1 : r < n
    · rw [if_pos c1] at e
      rcases lies with l | l
      · exact h.ne r c1 (by rw [l, e])
      · have := h.hi r c1; omega
    · rw [if_neg c1] at e
      have x := hX (r - n) (by omega)
      rcases lies with l | l
      · have := (h.own.lt g l).2
        omega
      · omega
  · split
    · next c1 => exact h.lo r c1
    · have := hX (r - n) (by omega); omega
  · split
    · next c1 => have := h.hi r c1; omega
    · have := hX (r - n) (by omega); omega
  · have := (h.own.lt k e).1
    omega

/-- what the lists of sixteen hold. -/
def Rh (w : World) (N : Nat) (B : Nat → Nat) (F : Nat → Nat → Nat) : Prop := ∀ r, r < N → w.rowIs (B r) 5 16 (fun x => .int .u8 (F r x : Nat))
/-- lists of sixteen bytes that lie in the row lb, each in a block of its own. -/
structure Lh (w : World) (base lb N : Nat) (B : Nat → Nat) : Prop where
  cell : ∀ r, r < N → w.cell? ⟨lb, r, none⟩ = some (.slice (some ⟨B r, 0, none⟩) 16 16)
  inj : ∀ r s, r < N → s < N → B r = B s → r = s
  ne : ∀ r, r < N → B r ≠ lb
  lo : ∀ r, r < N → base ≤ B r
  hi : ∀ r, r < N → B r < w.heap.size
  lh : lb < w.heap.size
theorem Rh.set {w : World} {base lb N : Nat} {B : Nat → Nat} {F : Nat → Nat → Nat} (h : Rh w N B F) (L : Lh w base lb N B) {i j v : Nat} (hi : i < N) :
    Rh (w.setCell ⟨B i, j, none⟩ (.int .u8 (v : Nat))) N B (fun r x => if r = i ∧ x = j then v else F r x) := by
  intro r hr
  by_cases e : r = i
  · subst e
    refine (World.rowIs.set (h r hr) j _).congr (fun x hx => ?_)
    by_cases e2 : x = j
    · simp [e2]
    · simp [e2]
  · refine (World.rowIs.setOther (h r hr) (a := ⟨B i, j, none⟩) (fun e2 => e (L.inj r i hr hi e2)) _).congr (fun x hx => ?_)
    simp [e]
theorem Lh.set {w : World} {base lb N : Nat} {B : Nat → Nat} (L : Lh w base lb N B) {i j : Nat} (hi : i < N) (v : Value) : Lh (w.setCell ⟨B i, j, none⟩ v) base lb N B := by
  refine ⟨fun r hr => ?_, L.inj, L.ne, L.lo, fun r hr => by simpa using L.hi r hr, by simpa using L.lh⟩
  rw [World.cell?_of_block (w := w) (Below.heap_setCell _ _ _ _ (fun e => L.ne i hi e.symm))]
  exact L.cell r hr
theorem Lh.below {w w' : World} {base lb N : Nat} {B : Nat → Nat} (L : Lh w base lb N B) (hb : Below w.heap.size w w') : Lh w' base lb N B :=
  ⟨fun r hr => (hb.cell (p := ⟨lb, r, none⟩) L.lh).trans (L.cell r hr), L.inj, L.ne, L.lo, fun r hr => Nat.lt_of_lt_of_le (L.hi r hr) hb.size, Nat.lt_of_lt_of_le L.lh hb.size⟩
theorem Rh.below {w w' : World} {N : Nat} {B : Nat → Nat} {F : Nat → Nat → Nat} (h : Rh w N B F) (hb : Below w.heap.size w w') : Rh w' N B F :=
  fun r hr => (h r hr).of_block (hb.block _ (h r hr).lt)

/-- the lists while they are made. -/
def Lm (w : World) (base : Nat) (av : Value) (n : Nat) : Prop := ∃ B F, Lq w base av 16 n B (fun _ => 16) ∧ (∀ r s, r < n → s < n → B r = B s → r = s) ∧ Rh w n B F
theorem Lm.start (w : World) (base : Nat) : Lm w base (.slice none 0 0) 0 :=
  ⟨fun _ => 0, fun _ _ => 0, Lq.none _ _ _ _ _, fun r s hr => absurd hr (Nat.not_lt_zero _), fun r hr => absurd hr (Nat.not_lt_zero _)⟩
/-- four lists more. -/
theorem lm_four {w w3 : World} {base n b1 d1 b2 d2 : Nat} {av : Value} {F1 F2 F3 F4 : Nat → Nat} (h : Lm w base av n) (hbase : base ≤ w.heap.size) (hb : Below w.heap.size w w3)
    (l1 : w.heap.size ≤ b1) (l2 : w.heap.size ≤ d1) (l3 : w.heap.size ≤ b2) (l4 : w.heap.size ≤ d2) (n1 : b1 ≠ d1) (n2 : b1 ≠ b2) (n3 : b1 ≠ d2) (n4 : d1 ≠ b2) (n5 : d1 ≠ d2) (n6 : b2 ≠ d2)
    (r1 : w3.rowIs b1 5 16 (fun x => .int .u8 (F1 x : Nat))) (r2 : w3.rowIs d1 5 16 (fun x => .int .u8 (F2 x : Nat))) (r3 : w3.rowIs b2 5 16 (fun x => .int .u8 (F3 x : Nat))) (r4 : w3.rowIs d2 5 16 (fun x => .int .u8 (F4 x : Nat))) (hn : n ≤ 100) :
    ∃ g cp w5, (Builtin.append_ #[34, 34] 34 #[av, .slice (some ⟨w3.heap.size, 0, none⟩) 4 4]).run Try.prog
        (w3.alloc (.cells #[.slice (some ⟨b1, 0, none⟩) 16 16, .slice (some ⟨d1, 0, none⟩) 16 16, .slice (some ⟨b2, 0, none⟩) 16 16, .slice (some ⟨d2, 0, none⟩) 16 16] 22)) = .ok (.slice (some ⟨g, 0, none⟩) (n + 4) cp) w5 ∧
      Lm w5 base (.slice (some ⟨g, 0, none⟩) (n + 4) cp) (n + 4) ∧ Below base w w5 := by
  obtain ⟨B, F, hq, inj, rows⟩ := h
  have x1 := r1.lt
  have x2 := r2.lt
  have x3 := r3.lt
  have x4 := r4.lt
  have hX : ∀ j, j < 4 → w.heap.size ≤ (fun j => if j = 0 then b1 else if j = 1 then d1 else if j = 2 then b2 else d2) j ∧ (fun j => if j = 0 then b1 else if j = 1 then d1 else if j = 2 then b2 else d2) j < w3.heap.size := by
    intro j hj
    dsimp only
    split
    · omega
    · split
      · omega
      · split <;> omega
  obtain ⟨g, cp, w5, hrun, hq5, hblk, hb5, lt, hs5⟩ := lq_run hq hbase hb (fun j => if j = 0 then b1 else if j = 1 then d1 else if j = 2 then b2 else d2) (fun _ => 16) hX (by decide) (by omega)
  refine ⟨g, cp, w5, hrun, ⟨_, fun r => if r < n then F r else if r = n then F1 else if r = n + 1 then F2 else if r = n + 2 then F3 else F4, ⟨?_, hq5.ne, hq5.lo, hq5.hi⟩, ?_, ?_⟩, hb5⟩
  · have e := hq5.own
    rw [lsq_congr 16 (B' := fun r => if r < n then B r else (fun j => if j = 0 then b1 else if j = 1 then d1 else if j = 2 then b2 else d2) (r - n)) (C' := fun _ => 16) (fun r _ => ⟨rfl, by split <;> rfl⟩)] at e
    exact e
  · intro r s hr hs e
    have y1 := inj r s
    have y2 := hq.hi r
    have y3 := hq.hi s
    by_cases c1 : r < n
    · by_cases c2 : s < n
      · simp only [if_pos c1, if_pos c2] at e
        exact y1 c1 c2 e
      · have z := hX (s - n) (by omega)
        have y := y2 c1
        simp only [if_pos c1, if_neg c2] at e
        dsimp only at z
        omega
    · by_cases c2 : s < n
      · have z := hX (r - n) (by omega)
        have y := y3 c2
        simp only [if_neg c1, if_pos c2] at e
        dsimp only at z
        omega
      · simp only [if_neg c1, if_neg c2] at e
        obtain ⟨u, hu⟩ : ∃ u, u = r - n := ⟨_, rfl⟩
        obtain ⟨v, hv⟩ : ∃ v, v = s - n := ⟨_, rfl⟩
        rw [← hu, ← hv] at e
        have hu4 : u = 0 ∨ u = 1 ∨ u = 2 ∨ u = 3 := by omega
        have hv4 : v = 0 ∨ v = 1 ∨ v = 2 ∨ v = 3 := by omega
        have : u = v := by
          rcases hu4 with rfl | rfl | rfl | rfl <;> rcases hv4 with rfl | rfl | rfl | rfl <;> simp at e <;> first | rfl | omega
        omega
  · have hno : ∀ k, w.heap.size ≤ k → av.ownBlock ≠ some k := fun k h1 h2 => by have := (hq.own.lt k h2).2; omega
    intro r hr
    by_cases c1 : r < n
    · simp only [if_pos c1]
      have hl := hq.hi r c1
      refine (rows r c1).of_block ?_
      rw [hblk (B r) (Nat.lt_of_lt_of_le hl hb.size) (hq.ne r c1), hb.block _ hl]
    · simp only [if_neg c1]
      by_cases c2 : r = n
      · subst c2
        simp only [Nat.sub_self, if_pos]
        exact r1.of_block (hblk _ x1 (hno _ l1))
      · rw [if_neg (show ¬ r - n = 0 by omega)]
        simp only [if_neg c2]
        by_cases c3 : r = n + 1
        · rw [if_pos (show r - n = 1 by omega)]
          simp only [if_pos c3]
          exact r2.of_block (hblk _ x2 (hno _ l2))
        · rw [if_neg (show ¬ r - n = 1 by omega)]
          simp only [if_neg c3]
          by_cases c4 : r = n + 2
          · rw [if_pos (show r - n = 2 by omega)]
            simp only [if_pos c4]
            exact r3.of_block (hblk _ x3 (hno _ l3))
          · rw [if_neg (show ¬ r - n = 2 by omega)]
            simp only [if_neg c4]
            exact r4.of_block (hblk _ x4 (hno _ l4))
/-- the lists when they are made. -/
theorem Lm.laid {w : World} {base g cp n : Nat} (h : Lm w base (.slice (some ⟨g, 0, none⟩) n cp) n) (h0 : 0 < n) : ∃ B F, Lh w base g n B ∧ Rh w n B F := by
  obtain ⟨B, F, hq, inj, rows⟩ := h
  have hg := (hq.own.lt g rfl).2
  exact ⟨B, F, ⟨fun r hr => by rw [hq.own.cellAt r (by omega), lsq_get _ _ _ hr], inj, fun r hr e => hq.ne r hr (by rw [e]; rfl), hq.lo, hq.hi, hg⟩, rows⟩

/-- a list of 56 that was grown: sixteen bytes of its own, forty more. -/
def Gg (w : World) (G r : Nat) : Prop := G < w.heap.size ∧ ∀ x, x < 56 → w.cell? ⟨G, x, none⟩ = some (.int .u8 ((if x < 16 then 16 * r + x else 255 - r : Nat) : Int))
theorem Gg.of_block {w w' : World} {G r : Nat} (h : Gg w G r) (e : w'.heap[G]? = w.heap[G]?) (hs : w.heap.size ≤ w'.heap.size) : Gg w' G r :=
  ⟨Nat.lt_of_lt_of_le h.1 hs, fun x hx => (World.cell?_of_block (w := w) (a := ⟨G, x, none⟩) e).trans (h.2 x hx)⟩
/-- the sixteen bytes of list r. -/
def six (r : Nat) : List Value := (List.range 16).map fun x => Value.int .u8 ((16 * r + x : Nat) : Int)
theorem six_len (r : Nat) : (six r).length = 16 := by simp [six]
theorem six_get (r : Nat) {x : Nat} (h : x < 16) : (six r)[x]? = some (Value.int .u8 ((16 * r + x : Nat) : Int)) := by simp [six, h]
theorem gg_of_owns {w : World} {H g cap r : Nat} (h : w.ownsRow H 5 1 (.slice (some ⟨g, 0, none⟩) 56 cap) 56 (six r ++ List.replicate 40 (Value.int .u8 ((255 - r : Nat) : Int)))) (hg : g < w.heap.size) : Gg w g r := by
  refine ⟨hg, fun x hx => ?_⟩
  rw [h.cellAt x (by omega)]
  by_cases e : x < 16
  · rw [List.getElem?_append_left (by rw [six_len]; exact e), six_get r e, if_pos e]
  · rw [List.getElem?_append_right (by rw [six_len]; omega), six_len, List.getElem?_replicate, if_pos (by omega), if_neg e]
theorem six_cell {w : World} {b r : Nat} (h : w.rowIs b 5 16 (fun x => .int .u8 ((16 * r + x : Nat) : Int))) (o : Obj) :
    ∀ a, some (⟨b, 0, none⟩ : Addr) = some a → ∀ j u, (six r)[j]? = some u → (w.alloc o).cell? (a.add j) = some u := by
  intro a ha j u hu
  obtain rfl : (⟨b, 0, none⟩ : Addr) = a := Option.some.inj ha
  by_cases hj : j < 16
  · rw [six_get r hj] at hu
    have e : (⟨b, 0, none⟩ : Addr).add j = ⟨b, j, none⟩ := by unfold Addr.add; split <;> simp_all
    rw [← Option.some.inj hu, e]
    exact (h.alloc o).cell hj
  · rw [List.getElem?_eq_none (by rw [six_len]; omega)] at hu
    cases hu
theorem rep_more (xs : List Value) (v : Value) (j : Nat) : (xs ++ List.replicate j v) ++ [v] = xs ++ List.replicate (j + 1) v := by
  rw [List.append_assoc, List.replicate_succ']
/-- the grown lists. -/
def Tw (w : World) (base : Nat) (tv : Value) (i : Nat) : Prop := ∃ G C, Lq w base tv 56 i G C ∧ ∀ r, r < i → Gg w (G r) r
theorem Tw.start (w : World) (base : Nat) : Tw w base (.slice none 0 0) 0 := ⟨fun _ => 0, fun _ => 0, Lq.none _ _ _ _ _, fun r hr => absurd hr (Nat.not_lt_zero _)⟩
theorem tw_more {w w3 : World} {base i g cap : Nat} {tv : Value} (h : Tw w base tv i) (hbase : base ≤ w.heap.size) (hb : Below w.heap.size w w3) (hg : w.heap.size ≤ g) (hG : Gg w3 g i) (hi : i ≤ 100) :
    ∃ g' cp w5, (Builtin.append_ #[34, 34] 34 #[tv, .slice (some ⟨w3.heap.size, 0, none⟩) 1 1]).run Try.prog (w3.alloc (.cells #[.slice (some ⟨g, 0, none⟩) 56 cap] 22)) = .ok (.slice (some ⟨g', 0, none⟩) (i + 1) cp) w5 ∧
      Tw w5 base (.slice (some ⟨g', 0, none⟩) (i + 1) cp) (i + 1) ∧ Below base w w5 := by
  obtain ⟨G, C, hq, hGg⟩ := h
  obtain ⟨g', cp, w5, hrun, hq5, hblk, hb5, lt, hs5⟩ := lq_run (m := 1) hq hbase hb (fun _ => g) (fun _ => cap) (fun j _ => ⟨hg, hG.1⟩) (by decide) (by omega)
  refine ⟨g', cp, w5, hrun, ⟨_, _, hq5, fun r hr => ?_⟩, hb5⟩
  have hno : ∀ k, w.heap.size ≤ k → tv.ownBlock ≠ some k := fun k h1 h2 => by have := (hq.own.lt k h2).2; omega
  by_cases c1 : r < i
  · simp only [if_pos c1]
    have hl := hq.hi r c1
    exact (hGg r c1).of_block ((hblk _ (Nat.lt_of_lt_of_le hl hb.size) (hq.ne r c1)).trans (hb.block _ hl)) hb5.size
  · obtain rfl : r = i := by omega
    simp only [if_neg c1]
    exact hG.of_block (hblk _ hG.1 (hno _ hg)) hs5
theorem Tw.cell {w : World} {base g cp n : Nat} (h : Tw w base (.slice (some ⟨g, 0, none⟩) n cp) n) {r : Nat} (hr : r < n) :
    ∃ G C, w.cell? ⟨g, r, none⟩ = some (.slice (some ⟨G, 0, none⟩) 56 C) ∧ Gg w G r := by
  obtain ⟨G, C, hq, hGg⟩ := h
  exact ⟨G r, C r, by rw [hq.own.cellAt r (by omega), lsq_get _ _ _ hr], hGg r hr⟩
end Go.Proofs.Ytdnjddnjaekgeab
