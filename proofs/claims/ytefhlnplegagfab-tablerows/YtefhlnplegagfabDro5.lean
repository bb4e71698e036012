import Derived.Test.YtefhlnplegagfabDap5
import Derived.Test.YtefhlnplegagfabRows
import Derived.Deep.RegionHeld
namespace Go.Proofs.Ytefhlnplegagfab
open Go.RowKit Gf2

set_option maxHeartbeats 1000000 in
set_option maxRecDepth 100000 in
theorem apart_none (w : World) :
    Calls Try.prog 9 #[.slice none 0 0] w fun e w' => e = .returned (.bool true) ∧ Below w.heap.size w w' := by
  have hmk := run_make_row' (P := Try.prog) 25 22 (.slice none 0 0) 24 Try.underlying25 info_list rfl .i64 .i64 0 (by omega) (by omega)
  have hmk : ∀ w, (Instr.makeSlice 25 (.int .i64 0) (.int .i64 0)).run Try.prog w = .ok (.slice (some ⟨w.heap.size, 0, none⟩) 0 0) (w.alloc (.cells (madeCells #[.slice none 0 0] 0) 22)) := hmk
  go_enter Try.func9, Try.ntmps9
  go_wp2
  go_loopw [3] (fun x wr => x = .int .i64 0 ∧ wr = w) (fun _ _ => 0)
  case atStart => exact ⟨rfl, rfl⟩
  case round =>
    obtain ⟨rfl, rfl⟩ := hrel
    go_wp2
    go_loopw [6] (fun x wq => x = .int .i64 0 ∧ wq = wr.alloc (.cells (madeCells #[.slice none 0 0] 0) 22)) (fun _ _ => 0)
    case atStart => exact ⟨rfl, rfl⟩
    case round =>
      obtain ⟨rfl, rfl⟩ := hrel
      go_wp2
      go_loopw [9] (fun x wq => x = .int .i64 0 ∧ wq = wr.alloc (.cells (madeCells #[.slice none 0 0] 0) 22)) (fun _ _ => 0)
      case atStart => exact ⟨rfl, rfl⟩
      case round =>
        obtain ⟨rfl, rfl⟩ := hrel
        go_wp2
        go_ret
        exact ⟨rfl, (Below.refl _ _).alloc (Nat.le_refl _) _⟩

/-- the lists that were made: where each lies. -/
def lst (B : Nat → Nat) (n : Nat) : List Value := (List.range n).map fun r => Value.slice (some ⟨B r, 0, none⟩) 256 256
theorem lst_get (B : Nat → Nat) {n r : Nat} (h : r < n) : (lst B n)[r]? = some (.slice (some ⟨B r, 0, none⟩) 256 256) := by
  simp [lst, h]
theorem lst_three (B : Nat → Nat) (n x y z : Nat) : lst B n ++ [.slice (some ⟨x, 0, none⟩) 256 256, .slice (some ⟨y, 0, none⟩) 256 256, .slice (some ⟨z, 0, none⟩) 256 256] =
    lst (fun r => if r < n then B r else if r = n then x else if r = n + 1 then y else z) (n + 3) := by
  unfold lst
  rw [List.range_succ, List.range_succ, List.range_succ]
  simp only [List.map_append, List.map_cons, List.map_nil, List.append_assoc, List.cons_append, List.nil_append]
  congr 1
  · apply List.map_congr_left
    intro r hr
    rw [if_pos (List.mem_range.1 hr)]
  · simp
    exact ⟨fun h => by omega, fun h => by omega⟩

/-- what is known while the lists are made. -/
structure Mk (wr : World) (base : Nat) (av : Value) (n : Nat) (B : Nat → Nat) (c : Nat → Nat) : Prop where
  own : wr.ownsRow base 22 1 av n (lst B n)
  inj : ∀ r s, r < n → s < n → B r = B s → r = s
  ne : ∀ r, r < n → av.ownBlock ≠ some (B r)
  lo : ∀ r, r < n → base ≤ B r
  rows : Rws wr n B (fun r x => fm 285 (c (r / 3)) x)

theorem Mk.below {w w' : World} {base n : Nat} {av : Value} {B c : Nat → Nat} (h : Mk w base av n B c) (hb : Below w.heap.size w w') : Mk w' base av n B c := by
  refine ⟨?_, h.inj, h.ne, h.lo, h.rows.below hb⟩
  refine h.own.kept (row := none) ⟨hb.os, hb.tape, hb.output, hb.size, fun k hk _ => hb.block k hk⟩ ?_
  cases e : av.ownBlock with
  | none => exact .inl rfl
  | some k => exact .inr (by simp)

theorem mk_step {wr w1 w2 w3 w5 : World} {o : Obj} {base i g cap : Nat} {av : Value} {B c : Nat → Nat} (h : Mk wr base av (3 * i) B c) (hbase : base ≤ wr.heap.size)
    (b1 : Below wr.heap.size wr w1) (s1 : w1.heap.size = wr.heap.size + 1) (r1 : w1.rowIs wr.heap.size 5 256 (fun x => .int .u8 (fm 285 (c i) x : Nat)))
    (b2 : Below w1.heap.size w1 w2) (s2 : w2.heap.size = w1.heap.size + 1) (r2 : w2.rowIs w1.heap.size 5 256 (fun x => .int .u8 (fm 285 (c i) x : Nat)))
    (b3 : Below w2.heap.size w2 w3) (s3 : w3.heap.size = w2.heap.size + 1) (r3 : w3.rowIs w2.heap.size 5 256 (fun x => .int .u8 (fm 285 (c i) x : Nat)))
    (own : w5.ownsRow base 22 1 (.slice (some ⟨g, 0, none⟩) (3 * i + 3) cap) (3 * i + 3) (lst B (3 * i) ++ [.slice (some ⟨wr.heap.size, 0, none⟩) 256 256, .slice (some ⟨w1.heap.size, 0, none⟩) 256 256, .slice (some ⟨w2.heap.size, 0, none⟩) 256 256]))
    (gr : (w3.alloc o).grownBy w5 av.ownBlock) (lies : av.ownBlock = some g ∨ g = (w3.alloc o).heap.size) :
    (∃ B', Mk w5 base (.slice (some ⟨g, 0, none⟩) (3 * i + 3) cap) (3 * (i + 1)) B' c) ∧ Below base wr w5 := by
  have hB : ∀ r, r < 3 * i → B r < wr.heap.size := fun r hr => (h.rows r hr).lt
  have hk : ∀ k, av.ownBlock = some k → base ≤ k ∧ k < wr.heap.size := h.own.lt
  have s4 : (w3.alloc o).heap.size = w3.heap.size + 1 := by simp
  have hblk : ∀ k, k < w3.heap.size → av.ownBlock ≠ some k → w5.heap[k]? = w3.heap[k]? := fun k h1 h2 =>
    (gr.block k (by omega) (fun e => h2 e.symm)).trans (Below.heap_alloc w3 o k h1)
  constructor
  · refine ⟨fun r => if r < 3 * i then B r else if r = 3 * i then wr.heap.size else if r = 3 * i + 1 then w1.heap.size else w2.heap.size, ?_, ?_, ?_, ?_, ?_⟩
    · rw [lst_three] at own
      exact own
    · intro r s hr hs e
      have x1 := h.inj r s
      have x2 := hB r
      have x3 := hB s
      by_cases c1 : r < 3 * i
      · by_cases c2 : s < 3 * i
        · simp only [if_pos c1, if_pos c2] at e
          exact x1 c1 c2 e
        · simp only [if_pos c1, if_neg c2] at e
          split at e
          · have := x2 c1; omega
          · split at e
            · have := x2 c1; omega
            · have := x2 c1; omega
      · by_cases c2 : s < 3 * i
        · simp only [if_neg c1, if_pos c2] at e
          split at e
          · have := x3 c2; omega
          · split at e
            · have := x3 c2; omega
            · have := x3 c2; omega
        · simp only [if_neg c1, if_neg c2] at e
          split at e <;> split at e <;> (try split at e) <;> (try split at e) <;> omega
    · intro r hr e
      have e : g = if r < 3 * i then B r else if r = 3 * i then wr.heap.size else if r = 3 * i + 1 then w1.heap.size else w2.heap.size := by simpa [Value.ownBlock] using e
      by_cases c1 : r < 3 * i
      · rw [if_pos c1] at e
        rcases lies with l | l
        · exact h.ne r c1 (by rw [l, e])
        · have := hB r c1; omega
      · rw [if_neg c1] at e
        rcases lies with l | l
        · have := (hk g l).2
          split at e
          · omega
          · split at e <;> omega
        · split at e
          · omega
          · split at e <;> omega
    · intro r hr
      have x1 := h.lo r
      split
      · next c1 => exact x1 c1
      · split
        · omega
        · split <;> omega
    · intro r hr
      by_cases c1 : r < 3 * i
      · simp only [if_pos c1]
        have hl := hB r c1
        refine (h.rows r c1).of_block ?_
        rw [hblk (B r) (by omega) (h.ne r c1), b3.block _ (by omega), b2.block _ (by omega), b1.block _ hl]
      · have hno : ∀ k, wr.heap.size ≤ k → av.ownBlock ≠ some k := fun k h1 h2 => by have := (hk k h2).2; omega
        have hd : r / 3 = i := by omega
        simp only [if_neg c1, hd]
        by_cases c2 : r = 3 * i
        · simp only [if_pos c2]
          refine r1.of_block ?_
          rw [hblk _ (by omega) (hno _ (by omega)), b3.block _ (by omega), b2.block _ (by omega)]
        · simp only [if_neg c2]
          by_cases c3 : r = 3 * i + 1
          · simp only [if_pos c3]
            refine r2.of_block ?_
            rw [hblk _ (by omega) (hno _ (by omega)), b3.block _ (by omega)]
          · simp only [if_neg c3]
            refine r3.of_block ?_
            rw [hblk _ (by omega) (hno _ (by omega))]
  · have y3 : Below base wr w3 := ((b1.mono hbase).trans (b2.mono (by omega))).trans (b3.mono (by omega))
    exact (y3.alloc (by omega) o).grown gr (by omega) (fun k e => (hk k e).1)

/-- a list of 256 at the head of a block. -/
def sl (b : Nat) : Value := .slice (some ⟨b, 0, none⟩) 256 256
theorem info_lists : ∃ i, Try.prog.info? 22 = some i ∧ i.zero = some (Value.slice none 0 0) ∧ i.size = 1 ∧ i.bytes = 24 := by
  obtain ⟨i, hi, hz⟩ := Option.map_eq_some_iff.1 info_list
  simp only [Prod.mk.injEq] at hz
  exact ⟨i, hi, hz.1, hz.2.1, hz.2.2⟩
theorem append3 {wr w1 w2 w3 : World} {base i : Nat} {av : Value} {B c : Nat → Nat} (h : Mk wr base av (3 * i) B c) (hbase : base ≤ wr.heap.size) (hi : i < 41)
    (b1 : Below wr.heap.size wr w1) (s1 : w1.heap.size = wr.heap.size + 1) (r1 : w1.rowIs wr.heap.size 5 256 (fun x => .int .u8 (fm 285 (c i) x : Nat)))
    (b2 : Below w1.heap.size w1 w2) (s2 : w2.heap.size = w1.heap.size + 1) (r2 : w2.rowIs w1.heap.size 5 256 (fun x => .int .u8 (fm 285 (c i) x : Nat)))
    (b3 : Below w2.heap.size w2 w3) (s3 : w3.heap.size = w2.heap.size + 1) (r3 : w3.rowIs w2.heap.size 5 256 (fun x => .int .u8 (fm 285 (c i) x : Nat))) :
    ∃ g cp w5, (Builtin.append_ #[25, 25] 25 #[av, .slice (some ⟨wr.heap.size + 1 + 1 + 1, 0, none⟩) 3 3]).run Try.prog
        (w3.alloc (.cells #[.slice (some ⟨wr.heap.size, 0, none⟩) 256 256, .slice (some ⟨wr.heap.size + 1, 0, none⟩) 256 256, .slice (some ⟨wr.heap.size + 1 + 1, 0, none⟩) 256 256] 22)) = .ok (.slice (some ⟨g, 0, none⟩) (3 * i + 3) cp) w5 ∧
      (∃ B', Mk w5 base (.slice (some ⟨g, 0, none⟩) (3 * i + 3) cp) (3 * (i + 1)) B' c) ∧ Below base wr w5 := by
  obtain ⟨iL, k1, k2, k3, k4⟩ := info_lists
  have hM : Mk w3 base av (3 * i) B c := h.below ((b1.trans (b2.mono (by omega))).trans (b3.mono (by omega)))
  have hnews : ∀ j u, [Value.slice (some ⟨wr.heap.size, 0, none⟩) 256 256, .slice (some ⟨wr.heap.size + 1, 0, none⟩) 256 256, .slice (some ⟨wr.heap.size + 1 + 1, 0, none⟩) 256 256][j]? = some u →
      (w3.alloc (.cells #[.slice (some ⟨wr.heap.size, 0, none⟩) 256 256, .slice (some ⟨wr.heap.size + 1, 0, none⟩) 256 256, .slice (some ⟨wr.heap.size + 1 + 1, 0, none⟩) 256 256] 22)).cell? ((⟨wr.heap.size + 1 + 1 + 1, 0, none⟩ : Addr).add j) = some u := by
    intro j u hu
    have hb := heap_alloc_new w3 (.cells #[Value.slice (some ⟨wr.heap.size, 0, none⟩) 256 256, .slice (some ⟨wr.heap.size + 1, 0, none⟩) 256 256, .slice (some ⟨wr.heap.size + 1 + 1, 0, none⟩) 256 256] 22)
    rw [show w3.heap.size = wr.heap.size + 1 + 1 + 1 by omega] at hb
    exact World.news_of_block hb j u (by simpa using hu)
  obtain ⟨g, cp, w5, hrun, own, gr, lies, -⟩ := run_append_lies (P := Try.prog) (w3.alloc (.cells #[.slice (some ⟨wr.heap.size, 0, none⟩) 256 256, .slice (some ⟨wr.heap.size + 1, 0, none⟩) 256 256, .slice (some ⟨wr.heap.size + 1 + 1, 0, none⟩) 256 256] 22))
    25 25 base 22 iL (.slice none 0 0) 1 24 Try.underlying25 k1 k2 k3 k4 rfl (by decide) av (3 * i) (lst B (3 * i)) (hM.own.alloc _) ⟨wr.heap.size + 1 + 1 + 1, 0, none⟩ 3 3
    [.slice (some ⟨wr.heap.size, 0, none⟩) 256 256, .slice (some ⟨wr.heap.size + 1, 0, none⟩) 256 256, .slice (some ⟨wr.heap.size + 1 + 1, 0, none⟩) 256 256] rfl hnews
    (fun u hu => by simp at hu; rcases hu with rfl | rfl | rfl <;> rfl) (by decide) (by unfold maxLen; omega) (by omega) (by simp; omega) _ rfl
  refine ⟨g, cp, w5, hrun, ?_⟩
  refine mk_step h hbase b1 s1 r1 b2 s2 r2 b3 s3 r3 ?_ gr lies
  rw [s2, s1]
  exact own
end Go.Proofs.Ytefhlnplegagfab
