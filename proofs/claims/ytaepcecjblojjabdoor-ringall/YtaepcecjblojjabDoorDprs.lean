import Derived.Test.YtaepcecjblojjabDoorDref
import Derived.Test.YtaepcecjblojjabDoorDops
import Derived.Lib.OthersKept
namespace Go.Proofs.YtaepcecjblojjabDoor
open Go.RowKit Gf2

/-- what the program's parser means. -/
def prgV (s : ByteArray) : Option Nat := if s.toList == [48] then some 0 else progP (byt s)
theorem prgV_zero {s : ByteArray} (h : (s.toList == [48]) = true) : parV (prgV s) = (0, 0) := by
  unfold prgV; rw [if_pos h]; rfl
theorem prgV_else {s : ByteArray} (h : (s.toList == [48]) = false) : prgV s = progP (byt s) := by
  unfold prgV; rw [if_neg (by rw [h]; decide)]

theorem Tab.below {w w' : World} (h : Tab w) (hb : Below w.heap.size w w') : Tab w' := fun j hj => by
  rw [hb.cell (p := ⟨0, j, none⟩) (cell_lt (h j hj))]
  exact h j hj
theorem Rd.block {w w' : World} {b : Nat} {s : St} (h : Rd w b s) (e : w'.heap[b]? = w.heap[b]?) : Rd w' b s := by
  obtain ⟨h0, h1, h2, f0, f1, f2⟩ := h
  have c : ∀ i, w'.cell? ⟨b, i, none⟩ = w.cell? ⟨b, i, none⟩ := fun i => World.cell?_of_block (w := w) e
  have f : ∀ i, w'.frozen? ⟨b, i, none⟩ = w.frozen? ⟨b, i, none⟩ := fun i => World.frozen?_of_block (w := w) e
  exact ⟨(c 0).trans h0, (c 1).trans h1, (c 2).trans h2, (f 0).trans f0, (f 1).trans f1, (f 2).trans f2⟩
/-- what every reader keeps. -/
def Fit (s : St) : Prop := s.poly < 18446744073709551616 ∧ s.exp ≤ 63 ∧ s.place ≤ 4
theorem Fit.endT {s t : St} (h : Fit s) (e : Gf2.endT s = some t) : Fit t := by
  unfold Gf2.endT at e
  split at e
  · cases e
    refine ⟨?_, h.2.1, by simp⟩
    have h2 : 2 ^ s.exp < 2 ^ 64 := Nat.pow_lt_pow_right (by decide) (by have := h.2.1; omega)
    exact Nat.or_lt_two_pow (n := 64) h.1 h2
  · cases e
theorem Fit.take {s t : St} {c : Nat} (h : Fit s) (e : take1 s c = some t) : Fit t := by
  unfold take1 at e
  split at e
  · exact h.endT e
  · split at e
    · cases e; exact ⟨h.1, by simp, by simp⟩
    · split at e
      · cases e; exact ⟨h.1, by simp, by simp⟩
      · split at e
        · cases e; exact ⟨h.1, by simp, by simp⟩
        · split at e
          · split at e
            · rename_i q; cases e; exact ⟨h.1, q, by simp⟩
            · cases e
          · cases e
theorem take_high {s : St} {c : Nat} (h : 128 ≤ c) : take1 s c = none := by
  unfold take1
  rw [if_neg (by omega), if_neg (by omega), if_neg (by omega), if_neg (by omega), if_neg (by omega)]
/-- what is left to read. -/
def left (s : ByteArray) (pos : Nat) (st : St) : Option Nat := ((runR ((byt s).drop pos) st).bind endT).map (·.poly)
theorem left_step {s : ByteArray} {pos : Nat} (st : St) (h : pos < s.size) : left s pos st = (take1 st s[pos].toNat).bind (left s (pos + 1)) := by
  have e : (byt s).drop pos = s[pos].toNat :: (byt s).drop (pos + 1) := by
    have h2 := head_at s pos h
    rw [← tail_at]
    cases hd : (byt s).drop pos with
    | nil => rw [hd] at h2; cases h2
    | cons x l => rw [hd] at h2; simp at h2; rw [h2]; rfl
  unfold left
  rw [e]
  simp only [runR]
  cases take1 st s[pos].toNat <;> rfl
theorem left_end {s : ByteArray} {pos : Nat} (st : St) (h : ¬ pos < s.size) : left s pos st = (endT st).map (·.poly) := by
  unfold left
  rw [(drop_nil s pos).2 (by omega)]
  rfl

set_option maxHeartbeats 1000000 in
theorem parse_any (s : ByteArray) (w : World) (ht : Tab w) :
    Calls Tryd.prog 42 #[.string s] w fun r w' => r = .returned (.tuple #[.int .u64 (parV (prgV s)).1, .int .i64 (parV (prgV s)).2]) ∧ Below w.heap.size w w' := by
  cases h48 : (s.toList == [48]) with
  | true =>
    rw [prgV_zero h48]
    go_enter Tryd.func42, Tryd.ntmps42
    go_wp2
    go_ret2
    exact ⟨rfl, Below.refl _ _⟩
  | false =>
  rw [prgV_else h48]
  have hV : left s 0 ⟨0, 0, 0⟩ = progP (byt s) := rfl
  generalize progP (byt s) = V at *
  go_enter Tryd.func42, Tryd.ntmps42
  go_wp2
  go_loopw [] (fun wr => ∃ (pos : Nat) (st : St), Rd wr w.heap.size st ∧ Fit st ∧ wr.heap[w.heap.size + 1]? = some (.stringIter s pos) ∧ Below w.heap.size w wr ∧ Hid (left s pos st = V)) (fun wr => s.size - wr.iterPos (w.heap.size + 1))
  case atStart =>
    refine ⟨0, ⟨0, 0, 0⟩, ?_, ⟨by decide, by decide, by decide⟩, ?_, ((Below.refl _ w).alloc (Nat.le_refl _) _).alloc (by simp) _, hV⟩
    · refine Rd.block (w := w.alloc (.cells #[.int .u64 0, .int .i64 0, .int .i64 0] 72)) ?_ ?_
      · refine ⟨?_, ?_, ?_, ?_, ?_, ?_⟩
        all_goals go_simp
      · exact Below.heap_alloc _ _ _ (by simp)
    · have := World.iter_heap (w.alloc (.cells #[.int .u64 0, .int .i64 0, .int .i64 0] 72)) s 0
      simpa using this
  case round =>
    obtain ⟨pos, st, hR, hF, hit, hbw, HL⟩ := hrel
    have hsz : w.heap.size + 1 < wr.heap.size := (Array.getElem?_eq_some_iff.1 hit).1
    by_cases hp : pos < s.size
    · have hnx : ∀ ty, (Instr.next (.pointer (some ⟨w.heap.size + 1, 0, none⟩)) true ty).run Tryd.prog wr = _ := fun ty => Lib.run_next_any_at wr (w.heap.size + 1) s pos ty hit hp
      have hd1 := decode_le s pos
      have hit2 := Lib.iterAt_heap wr (w.heap.size + 1) s pos (pos + (Utf8.decode s pos).2) hit
      have hbw2 := Lib.below_iterAt hbw (k := w.heap.size + 1) (by omega) s (pos + (Utf8.decode s pos).2)
      have hR2 := hR.block (Lib.iterAt_other wr (w.heap.size + 1) w.heap.size s (pos + (Utf8.decode s pos).2) (by omega))
      have ct := take_any w.heap.size st (Utf8.decode s pos).1 _ w.heap.size (Nat.le_refl _) (ht.below hbw2) hR2 hF.1 hF.2.1 hF.2.2
      have HS := left_step st hp
      have HD : Hid ((take1 st (Utf8.decode s pos).1 = none ∧ V = none) ∨ ∃ t, take1 st (Utf8.decode s pos).1 = some t ∧ (Utf8.decode s pos).2 = 1 ∧ left s (pos + 1) t = V) := by
        show _ ∨ _
        rw [← HL.out, HS]
        by_cases ha : (s[pos]'hp).toNat < 128
        · rw [decode_ascii s pos hp ha]
          cases hk : take1 st (s[pos]'hp).toNat with
          | none => exact .inl ⟨rfl, rfl⟩
          | some t => exact .inr ⟨t, rfl, rfl, rfl⟩
        · have h2 := decode_high s pos hp (by omega)
          rw [take_high (s := st) h2.1, take_high (s := st) (by omega)]
          exact .inl ⟨rfl, rfl⟩
      clear HS HL
      generalize (Utf8.decode s pos).2 = wd at *
      generalize (Utf8.decode s pos).1 = rn at *
      rcases HD.out with ⟨hn, hv⟩ | ⟨t, hn, hv1, hv2⟩
      · rw [hn] at ct
        unfold TakeOk at ct
        clear hn HD
        have HV : Hid (V = none) := hv
        clear hv
        go_wp2_with (go_at_call 54; with_reducible refine ct.mono ?_; rintro e w2 ⟨rfl, hb2, -⟩)
        go_ret2
        rw [HV.out]
        exact ⟨rfl, hbw2.trans hb2.1⟩
      · rw [hn] at ct
        unfold TakeOk at ct
        have hF2 := hF.take hn
        have HV : Hid (left s (pos + 1) t = V) := hv2
        clear hn HD hv2
        subst hv1
        go_wp2_with (go_at_call 54; with_reducible refine ct.mono ?_; rintro e w2 ⟨rfl, hb2, hb3⟩)
        have hit3 : w2.heap[w.heap.size + 1]? = some (.stringIter s (pos + 1)) := (hb2.2 _ (by omega)).trans hit2
        go_roundw
        case rel => exact ⟨pos + 1, t, (hb3 t rfl).1, hF2, hit3, hbw2.trans hb2.1, HV⟩
        case measure =>
          simp only [World.iterPos, hit3, hit]
          omega
    · have hnx : ∀ ty, (Instr.next (.pointer (some ⟨w.heap.size + 1, 0, none⟩)) true ty).run Tryd.prog wr = _ := fun ty => Lib.run_next_end_at wr (w.heap.size + 1) s pos ty hit hp
      have ct := endTerm_any w.heap.size st wr w.heap.size (Nat.le_refl _) (ht.below hbw) hR hF.1 hF.2.1 hF.2.2
      have HE := left_end st hp
      rw [HL.out] at HE
      clear HL
      cases hn : endT st with
      | none =>
        rw [hn] at ct HE
        have HV : Hid (V = none) := HE
        clear HE hn
        go_wp2_with (go_at_call 55; with_reducible refine ct.mono ?_; rintro e w2 ⟨rfl, hb2, -⟩)
        go_ret2
        rw [HV.out]
        exact ⟨rfl, hbw.trans hb2.1⟩
      | some t =>
        rw [hn] at ct HE
        have HV : Hid (V = some t.poly) := HE
        clear HE hn
        go_wp2_with (go_at_call 55; (with_reducible refine ct.mono ?_); rintro e w2 ⟨rfl, hb2, hb3⟩; have hq := (hb3 t rfl).1.1)
        go_ret2
        rw [HV.out]
        exact ⟨rfl, hbw.trans hb2.1⟩
end Go.Proofs.YtaepcecjblojjabDoor
