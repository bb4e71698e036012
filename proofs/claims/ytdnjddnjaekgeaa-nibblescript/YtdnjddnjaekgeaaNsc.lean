import Derived.Test.YtdnjddnjaekgeaaNsb
namespace Go.Proofs.Ytdnjddnjaekgeaa
open Go.RowKit Gf2
set_option linter.unusedVariables false

def lis (f : Nat → Value) (k : Nat) : List Value := (List.range k).map f
def hsl (B n : Nat → Nat) (r : Nat) : Value := .slice (some ⟨B r, 0, none⟩) (n r) (n r)
theorem lis_get (f : Nat → Value) {k r : Nat} (h : r < k) : (lis f k)[r]? = some (f r) := by simp [lis, h]
theorem lis_up (B n : Nat → Nat) (k x : Nat) : lis (hsl B n) k ++ [.slice (some ⟨x, 0, none⟩) (n k) (n k)] = lis (hsl (upn B k x) n) (k + 1) := by
  unfold lis
  rw [List.range_succ, List.map_append]
  congr 1
  · apply List.map_congr_left
    intro r hr
    have := List.mem_range.1 hr
    unfold hsl
    rw [upn_other _ _ (by omega)]
  · simp [hsl, upn_same]
theorem owns_below {W W' : World} {base k : Nat} {v : Value} {xs : List Value} (h : W.ownsRow base 22 1 v k xs) (hb : Below W.heap.size W W') : W'.ownsRow base 22 1 v k xs := by
  refine h.kept (row := none) ⟨hb.os, hb.tape, hb.output, hb.size, fun k hk _ => hb.block k hk⟩ ?_
  cases e : v.ownBlock with
  | none => exact .inl rfl
  | some k => exact .inr (by simp)
theorem owns_block {W W' : World} {base k : Nat} {v : Value} {xs : List Value} (h : W.ownsRow base 22 1 v k xs) (he : ∀ b, v.ownBlock = some b → W'.heap[b]? = W.heap[b]?) : W'.ownsRow base 22 1 v k xs := by
  refine ⟨h.1, ?_⟩
  rcases h.2 with hn | ⟨g, cap, cur, rfl, hb, hgg, rest⟩
  · exact .inl hn
  · exact .inr ⟨g, cap, cur, rfl, hb, (he g rfl).trans hgg, rest⟩

/-- the lists that are made, one beside the other. -/
structure Pa (w1 wr : World) (hv wv : Value) (kh kw : Nat) (n : Nat → Nat) (S : Nat → Nat → Nat) (Bh Bw : Nat → Nat) : Prop where
  bel : Below w1.heap.size w1 wr
  oh : wr.ownsRow w1.heap.size 22 1 hv kh (lis (hsl Bh n) kh)
  ow : wr.ownsRow w1.heap.size 22 1 wv kw (lis (hsl Bw n) kw)
  rh : ∀ r, r < kh → w1.heap.size ≤ Bh r ∧ Rw wr (Bh r) (n r) (S r)
  rw : ∀ r, r < kw → w1.heap.size ≤ Bw r ∧ Rw wr (Bw r) (n r) (S r)
  ih : ∀ r s, r < kh → s < kh → r ≠ s → Bh r ≠ Bh s
  iw : ∀ r s, r < kw → s < kw → r ≠ s → Bw r ≠ Bw s
  far : ∀ r s, r < kh → s < kw → Bh r ≠ Bw s
  hh : ∀ r, r < kh → hv.ownBlock ≠ some (Bh r)
  hw : ∀ r, r < kw → hv.ownBlock ≠ some (Bw r)
  wh : ∀ r, r < kh → wv.ownBlock ≠ some (Bh r)
  ww : ∀ r, r < kw → wv.ownBlock ≠ some (Bw r)
  df : ∀ k, hv.ownBlock = some k → wv.ownBlock ≠ some k
theorem Pa.swap {w1 wr : World} {hv wv : Value} {kh kw : Nat} {n : Nat → Nat} {S : Nat → Nat → Nat} {Bh Bw : Nat → Nat} (h : Pa w1 wr hv wv kh kw n S Bh Bw) : Pa w1 wr wv hv kw kh n S Bw Bh :=
  ⟨h.bel, h.ow, h.oh, h.rw, h.rh, h.iw, h.ih, fun r s hr hs e => h.far s r hs hr e.symm, h.ww, h.wh, h.hw, h.hh, fun k e1 e2 => h.df k e2 e1⟩

/-- one list more, copied into memory of its own, behind the first ones. -/
theorem Pa.step {w1 wr W w' : World} {hv wv : Value} {kh kw g cap : Nat} {n : Nat → Nat} {S : Nat → Nat → Nat} {Bh Bw : Nat → Nat} (h : Pa w1 wr hv wv kh kw n S Bh Bw)
    (hb : Below wr.heap.size wr W) (hs : W.heap.size = wr.heap.size + 1) (hr : Rw W wr.heap.size (n kh) (S kh))
    (o' : w'.ownsRow w1.heap.size 22 1 (.slice (some ⟨g, 0, none⟩) (kh + 1) cap) (kh + 1) (lis (hsl Bh n) kh ++ [.slice (some ⟨wr.heap.size, 0, none⟩) (n kh) (n kh)]))
    (hk : ∀ k, k < W.heap.size → hv.ownBlock ≠ some k → w'.heap[k]? = W.heap[k]?) (hw' : Below w1.heap.size W w') (hg : hv.ownBlock = some g ∨ W.heap.size ≤ g) :
    Pa w1 w' (.slice (some ⟨g, 0, none⟩) (kh + 1) cap) wv (kh + 1) kw n S (upn Bh kh wr.heap.size) Bw := by
  have hvl : ∀ k, hv.ownBlock = some k → k < wr.heap.size := fun k e => (h.oh.lt k e).2
  have wvl : ∀ k, wv.ownBlock = some k → k < wr.heap.size := fun k e => (h.ow.lt k e).2
  have lh : ∀ r, r < kh → Bh r < wr.heap.size := fun r hr => (h.rh r hr).2.lt
  have lw : ∀ r, r < kw → Bw r < wr.heap.size := fun r hr => (h.rw r hr).2.lt
  have old : ∀ k, k < wr.heap.size → hv.ownBlock ≠ some k → w'.heap[k]? = wr.heap[k]? := fun k hk1 hk2 => (hk k (by omega) hk2).trans (hb.block k hk1)
  have gne : ∀ k, k < wr.heap.size → hv.ownBlock ≠ some k → g ≠ k := fun k h1 h2 e => by
    rcases hg with hg | hg
    · exact h2 (by rw [hg, e])
    · omega
  refine ⟨h.bel.trans ((hb.mono h.bel.size).trans hw'), ?_, ?_, fun r hr' => ?_, fun r hr' => ?_, fun r s hr' hs' hrs => ?_, h.iw, fun r s hr' hs' => ?_, fun r hr' => ?_, fun r hr' => ?_, fun r hr' => ?_, h.ww, fun k e => ?_⟩
  · rw [← lis_up]; exact o'
  · exact owns_block h.ow (fun b e => old b (wvl b e) (fun e2 => h.df b e2 e))
  · by_cases e : r = kh
    · subst e
      rw [upn_same]
      exact ⟨h.bel.size, hr.of_block (hk _ (by omega) (fun e => by have := hvl _ e; omega))⟩
    · rw [upn_other _ _ e]
      exact ⟨(h.rh r (by omega)).1, (h.rh r (by omega)).2.of_block (old _ (lh r (by omega)) (h.hh r (by omega)))⟩
  · exact ⟨(h.rw r hr').1, (h.rw r hr').2.of_block (old _ (lw r hr') (h.hw r hr'))⟩
  · by_cases e : r = kh
    · subst e
      rw [upn_same, upn_other _ _ (fun e => hrs e.symm)]
      have := lh s (by omega)
      omega
    · rw [upn_other _ _ e]
      by_cases e2 : s = kh
      · subst e2
        rw [upn_same]
        have := lh r (by omega)
        omega
      · rw [upn_other _ _ e2]
        exact h.ih r s (by omega) (by omega) hrs
  · by_cases e : r = kh
    · subst e
      rw [upn_same]
      have := lw s hs'
      omega
    · rw [upn_other _ _ e]
      exact h.far r s (by omega) hs'
  · show some g ≠ some _
    by_cases e : r = kh
    · subst e
      rw [upn_same]
      intro e
      injection e with e
      rcases hg with hg | hg
      · have := hvl _ hg; omega
      · omega
    · rw [upn_other _ _ e]
      intro e
      injection e with e
      exact gne _ (lh r (by omega)) (h.hh r (by omega)) e
  · show some g ≠ some _
    intro e
    injection e with e
    exact gne _ (lw r hr') (h.hw r hr') e
  · by_cases e : r = kh
    · subst e
      rw [upn_same]
      intro e
      have := wvl _ e
      omega
    · rw [upn_other _ _ e]
      exact h.wh r (by omega)
  · have e : some g = some k := e
    injection e with e
    subst e
    intro e
    rcases hg with hg | hg
    · exact h.df g hg e
    · have := wvl _ e; omega
end Go.Proofs.Ytdnjddnjaekgeaa
