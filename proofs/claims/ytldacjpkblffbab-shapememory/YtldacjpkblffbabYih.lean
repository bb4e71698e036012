import Derived.Test.YtldacjpkblffbabYig
namespace Go.Proofs.Ytldacjpkblffbab
open Go.RowKit Gf2
set_option linter.unusedVariables false

-- layer 16: what ShapeTurned asks of the answers
theorem wle_rev (f k m : Int) (c : Nat) (n : Nat → Nat) : wle f k m c (rev16 c n) = wle f k m c n ∧ wlv f k m c (rev16 c n) = wlv f k m c n := by
  unfold wle wlv
  rw [aeb_rev, scf_rev]
  exact ⟨rfl, rfl⟩
theorem ple_rev (f k m : Int) (c : Nat) (n : Nat → Nat) : ple f k m c (rev16 c n) = ple f k m c n ∧ plv16 f k m c (rev16 c n) = plv16 f k m c n ∧ pll f k m c (rev16 c n) = pll f k m c n := by
  have h : ple f k m c (rev16 c n) = ple f k m c n := by unfold ple; rw [scf_rev, ems_rev_len]
  refine ⟨h, ?_, ?_⟩
  · unfold plv16; rw [h, scf_rev]
  · unfold pll; rw [h, ems_rev_len]
theorem scf_zeros (s : Option Nat) (k : Nat) : scf s (fun _ => 0) k = s := by
  induction k with
  | zero => rfl
  | succ k ih =>
    rw [scf, ih]
    cases s with
    | none => rfl
    | some l => simp
theorem olv_bad {f : Int} {q : Option Nat} (h : ole f q ≠ 0) : olv f q = 0 := by
  cases q with
  | none => rfl
  | some l =>
    by_cases e : f = 2 ∧ l % 2 = 1
    · exact olv_odd e
    · exact absurd (ole_even e) h
theorem fresh_none (f m : Int) (K c : Nat) (n : Nat → Nat) : fle f K m c n K (fun _ => 0) = wle f K m c n ∧ flv f K m c n K (fun _ => 0) = wlv f K m c n ∧ fll f K m c n K (fun _ => 0) = 0 := by
  have h : fle f K m c n K (fun _ => 0) = wle f K m c n := by
    unfold fle wle
    rw [scf_zeros]
    by_cases hp : prm f K m = 0
    · rw [if_pos hp, if_pos hp]
      by_cases hc : (c : Int) = K + m
      · rw [if_pos ⟨hc, rfl⟩, if_pos hc]
      · rw [if_neg (fun e => hc e.1), if_neg hc]
    · rw [if_neg hp, if_neg hp]
  refine ⟨h, ?_, ?_⟩
  · unfold flv
    rw [h, scf_zeros]
    unfold wlv wle
    by_cases hp : prm f K m = 0
    · rw [if_pos hp, if_pos hp]
      by_cases hc : (c : Int) = K + m
      · rw [if_pos hc, if_pos hc]
        cases ha : aeb n c
        · have hne : ¬ (false = true) := by decide
          rw [if_neg hne, if_neg hne]
          by_cases ho : ole f (scf (some 0) n c) = 0
          · rw [if_pos ho]
          · rw [if_neg ho, olv_bad ho]
        · rw [if_pos rfl, if_pos rfl]; rfl
      · rw [if_neg hc, if_neg hc]; rfl
    · rw [if_neg hp, if_neg hp, if_neg hp]
  · unfold fll
    have : (ems (ful fun _ => 0) K).length = 0 := ems_zero.2 (fun _ _ => rfl)
    rw [this]
    split <;> rfl
/-- where Partial answers without an error. -/
structure POk (f k m : Int) (c : Nat) (n : Nat → Nat) (l L : Nat) : Prop where
  hp : prm f k m = 0
  hc : (c : Int) = k + m
  sc : scf (some 0) n c = some l
  hL : L = (ems (emp n) c).length
  ho : ole f (some l) = 0
  hv : plv16 f k m c n = (l : Int)
  hll : pll f k m c n = L
  few : (L : Int) ≤ m
  hw0 : L = 0 → wle f k m c n = 0 ∧ wlv f k m c n = (l : Int)
  hw1 : 0 < L → wle f k m c n = 161
theorem ple_ok {f k m : Int} {c : Nat} {n : Nat → Nat} (h : ple f k m c n = 0) : ∃ l L, POk f k m c n l L := by
  have h' := h
  unfold ple at h'
  by_cases hp : prm f k m = 0
  · rw [if_pos hp] at h'
    by_cases hc : (c : Int) = k + m
    · rw [if_pos hc] at h'
      by_cases hf : (ems (emp n) c).length = c
      · rw [if_pos hf] at h'; cases h'
      · rw [if_neg hf] at h'
        by_cases ho : ole f (scf (some 0) n c) = 0
        · rw [if_pos ho] at h'
          by_cases hm : m < ((ems (emp n) c).length : Int)
          · rw [if_pos hm] at h'; cases h'
          · cases hs : scf (some 0) n c with
            | none => rw [hs] at ho; cases ho
            | some l =>
              rw [hs] at ho
              have hodd : ¬ (f = 2 ∧ l % 2 = 1) := fun e => by rw [ole_odd e] at ho; cases ho
              refine ⟨l, _, hp, hc, hs, rfl, ho, ?_, ?_, by omega, fun h0 => ?_, fun h0 => ?_⟩
              · unfold plv16; rw [h, if_pos rfl, hs, olv_even hodd]
              · unfold pll; rw [h, if_pos rfl]
              · have ha := (ems_aeb n c).1 h0
                unfold wle wlv
                rw [if_pos hp, if_pos hc, if_pos hp, if_pos hc, ha, if_neg (by decide), if_neg (by decide), hs, ho, olv_even hodd]
                exact ⟨rfl, rfl⟩
              · have ha : aeb n c = true := by
                  cases e : aeb n c
                  · have := (ems_aeb n c).2 e
                    have h0' : 0 < (ems (fun i => n i == 0) c).length := h0
                    omega
                  · rfl
                unfold wle
                rw [if_pos hp, if_pos hc, ha, if_pos rfl]
        · rw [if_neg ho] at h'; exact absurd h' ho
    · rw [if_neg hc] at h'; cases h'
  · rw [if_neg hp] at h'; exact absurd h' hp
/-- the list being turned round. -/
structure Rv (w wr : World) (c t : Nat) (V : Nat → Value) : Prop where
  bel : Below w.heap.size w wr
  row : wr.rowIs w.heap.size 24 c (fun i => if i < t then V (c - 1 - i) else .slice none 0 0)
theorem Rv.start (w : World) (c : Nat) (V : Nat → Value) : Rv w (w.alloc (.cells (madeCells #[.slice none 0 0] c) 24)) c 0 V :=
  ⟨balloc16 _ _, (World.rowIs_made w (.slice none 0 0) c 24).congr (fun i _ => (if_neg (Nat.not_lt_zero _)).symm)⟩
theorem Rv.next {w wr : World} {c t : Nat} {V : Nat → Value} (h : Rv w wr c t V) (ht : t < c) : Rv w (wr.setCell ⟨w.heap.size, t, none⟩ (V (c - 1 - t))) c (t + 1) V := by
  refine ⟨h.bel.setCell (Nat.le_refl _) _, (h.row.set t _).congr (fun i hi => ?_)⟩
  by_cases e : i = t
  · rw [if_pos e, if_pos (by omega), e]
  · rw [if_neg e]
    by_cases e2 : i < t
    · rw [if_pos e2, if_pos (by omega)]
    · rw [if_neg e2, if_neg (by omega)]
theorem Rv.ln {w wr : World} {c : Nat} {V : Nat → Value} {n : Nat → Nat} (h : Rv w wr c c V) (hc : c ≤ 281474976710656) (hV : ∀ i, i < c → n i ≤ big ∧ ∃ x y, V i = .slice x (n i) y) : Ln wr (.slice (some ⟨w.heap.size, 0, none⟩) c c) c (rev16 c n) := by
  refine ⟨hc, fun i hi => (hV _ (rev_lt hi)).1, _, _, rfl, Nat.le_refl _, by unfold big; omega, fun h0 => ⟨_, 0, rfl, h.row.lt, fun i hi => ?_⟩⟩
  obtain ⟨x, y, e⟩ := (hV _ (rev_lt hi)).2
  refine ⟨x, y, ?_⟩
  rw [Nat.zero_add, h.row.cell hi, if_pos hi, e]
  rfl
/-- a list of nothing but empty lists. -/
theorem ln_none (w : World) (K : Nat) (hK : K ≤ 281474976710656) : Ln (w.alloc (.cells (madeCells #[.slice none 0 0] K) 24)) (.slice (some ⟨w.heap.size, 0, none⟩) K K) K (fun _ => 0) := by
  have r := World.rowIs_made w (.slice none 0 0) K 24
  refine ⟨hK, fun _ _ => Nat.zero_le _, _, _, rfl, Nat.le_refl _, by unfold big; omega, fun h0 => ⟨_, 0, rfl, r.lt, fun i hi => ⟨none, 0, ?_⟩⟩⟩
  rw [Nat.zero_add, r.cell hi]
end Go.Proofs.Ytldacjpkblffbab
