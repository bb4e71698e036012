import Derived.Test.YtldacjpkblffbabYhh
import Derived.Test.YtldacjpkblffbabMxa
import Derived.Deep.OwnRows
namespace Go.Proofs.Ytldacjpkblffbab
open Go.RowKit Gf2
set_option linter.unusedVariables false

-- layer 16: a list of lists that is made and filled from the front; pieces of lists
/-- the list lies in block g and has m places, the first k are filled. -/
structure Fl (w wr : World) (g m k : Nat) (n C B : Nat → Nat) (S : Nat → Nat → Nat) : Prop where
  bel : Below w.heap.size w wr
  lo : w.heap.size ≤ g
  list : wr.rowIs g 24 m (fun i => if i < k then .slice (some ⟨B i, 0, none⟩) (n i) (C i) else .slice none 0 0)
  rows : ∀ i, i < k → w.heap.size ≤ B i ∧ B i ≠ g ∧ n i ≤ C i ∧ Rw wr (B i) (C i) (S i)
  inj : ∀ i j, i < k → j < k → B i = B j → i = j
section
variable {w wr w' : World} {g m k : Nat} {n C B : Nat → Nat} {S : Nat → Nat → Nat}
theorem Fl.start (w : World) (m : Nat) (n C B : Nat → Nat) (S : Nat → Nat → Nat) : Fl w (w.alloc (.cells (madeCells #[.slice none 0 0] m) 24)) w.heap.size m 0 n C B S :=
  ⟨(Below.refl _ _).alloc (Nat.le_refl _) _, Nat.le_refl _, (World.rowIs_made w (.slice none 0 0) m 24).congr (fun i _ => (if_neg (Nat.not_lt_zero _)).symm), fun i hi => absurd hi (Nat.not_lt_zero _), fun i j hi => absurd hi (Nat.not_lt_zero _)⟩
theorem Fl.below (h : Fl w wr g m k n C B S) (hb : Below wr.heap.size wr w') : Fl w w' g m k n C B S :=
  ⟨h.bel.trans (hb.mono h.bel.size), h.lo, h.list.of_block (hb.block g h.list.lt), fun i hi => ⟨(h.rows i hi).1, (h.rows i hi).2.1, (h.rows i hi).2.2.1, rw_below (h.rows i hi).2.2.2 hb⟩, h.inj⟩
theorem Fl.drewN (h : Fl w wr g m k n C B S) (q : Nat) : Fl w (wr.drewN q) g m k n C B S := h.below (below_drewN (Below.refl _ _) q)
theorem Fl.cell (h : Fl w wr g m k n C B S) {i : Nat} (hi : i < k) (hk : k ≤ m) : wr.cell? ⟨g, i, none⟩ = some (.slice (some ⟨B i, 0, none⟩) (n i) (C i)) := by
  rw [h.list.cell (by omega), if_pos hi]
theorem Fl.bare (h : Fl w wr g m k n C B S) (hk : k < m) : wr.cell? ⟨g, k, none⟩ = some (.slice none 0 0) := by
  rw [h.list.cell hk, if_neg (Nat.lt_irrefl _)]
theorem Fl.froz (h : Fl w wr g m k n C B S) (i : Nat) : wr.frozen? ⟨g, i, none⟩ = false := h.list.frozen i
theorem Fl.next {wx : World} {b c l : Nat} {F : Nat → Nat} (h : Fl w wr g m k n C B S) (hk : k < m) (hb : Below wr.heap.size wr wx) (hb1 : wr.heap.size ≤ b) (hr : Rw wx b c F) (hl : l ≤ c) :
    Fl w (wx.setCell ⟨g, k, none⟩ (.slice (some ⟨b, 0, none⟩) l c)) g m (k + 1) (upn n k l) (upn C k c) (upn B k b) (upn S k F) := by
  have hx := h.below hb
  have gl := h.list.lt
  have ho : Only g wx (wx.setCell ⟨g, k, none⟩ (.slice (some ⟨b, 0, none⟩) l c)) := (Only.refl _ _).setCell _ _
  refine ⟨hx.bel.setCell h.lo _, h.lo, (hx.list.set k _).congr (fun i hi => ?_), fun i hi => ?_, fun i j hi hj hij => ?_⟩
  · by_cases e : i = k
    · subst e; rw [if_pos rfl, if_pos (Nat.lt_succ_self _), upn_same, upn_same, upn_same]
    · rw [if_neg e, upn_other _ _ e, upn_other _ _ e, upn_other _ _ e]
      by_cases e2 : i < k
      · rw [if_pos e2, if_pos (by omega)]
      · rw [if_neg e2, if_neg (by omega)]
  · by_cases e : i = k
    · subst e
      rw [upn_same, upn_same, upn_same, upn_same]
      exact ⟨Nat.le_trans h.bel.size hb1, by omega, hl, ho.rw_ hr (by omega)⟩
    · rw [upn_other _ _ e, upn_other _ _ e, upn_other _ _ e, upn_other _ _ e]
      obtain ⟨r1, r2, r3, r4⟩ := hx.rows i (by omega)
      exact ⟨r1, r2, r3, ho.rw_ r4 r2⟩
  · by_cases e1 : i = k
    · subst e1
      rw [upn_same] at hij
      by_cases e2 : j = i
      · exact e2.symm
      · rw [upn_other _ _ e2] at hij
        have := (h.rows j (by omega)).2.2.2.lt
        omega
    · rw [upn_other _ _ e1] at hij
      by_cases e2 : j = k
      · subst e2
        rw [upn_same] at hij
        have := (h.rows i (by omega)).2.2.2.lt
        omega
      · rw [upn_other _ _ e2] at hij
        exact h.inj i j (by omega) (by omega) hij
theorem Fl.turn {i : Nat} {F : Nat → Nat} (h : Fl w wr g m k n C B S) (hi : i < k) (ho : Kp (B i) wr w') (hr : Rw w' (B i) (C i) F) : Fl w w' g m k n C B (upn S i F) := by
  obtain ⟨r1, r2, r3, r4⟩ := h.rows i hi
  refine ⟨h.bel.trans (ho.below r1 h.bel.size), h.lo, h.list.of_block (ho.2 g h.list.lt (fun e => r2 e.symm)), fun j hj => ?_, h.inj⟩
  obtain ⟨q1, q2, q3, q4⟩ := h.rows j hj
  by_cases e : j = i
  · subst e; rw [upn_same]; exact ⟨q1, q2, q3, hr⟩
  · rw [upn_other _ _ e]
    exact ⟨q1, q2, q3, ho.rw_ q4 (fun e2 => e (h.inj j i hj hi e2))⟩
theorem Fl.congr {n' C' B' : Nat → Nat} {T : Nat → Nat → Nat} (h : Fl w wr g m k n C B S) (hn : ∀ i, i < k → n i = n' i) (hC : ∀ i, i < k → C i = C' i) (hB : ∀ i, i < k → B i = B' i) (hS : ∀ i, i < k → ∀ j, j < C i → S i j = T i j) : Fl w wr g m k n' C' B' T := by
  refine ⟨h.bel, h.lo, h.list.congr (fun i hi => ?_), fun i hi => ?_, fun i j hi hj e => h.inj i j hi hj (by rw [hB i hi, hB j hj]; exact e)⟩
  · by_cases e : i < k
    · rw [if_pos e, if_pos e, hn i e, hC i e, hB i e]
    · rw [if_neg e, if_neg e]
  · obtain ⟨r1, r2, r3, r4⟩ := h.rows i hi
    rw [← hn i hi, ← hC i hi, ← hB i hi]
    exact ⟨r1, r2, r3, r4.congr (hS i hi)⟩
theorem Fl.cs (h : Fl w wr g m m n C B S) (hm : m ≤ big) : Cs w.heap.size wr.heap.size wr (.slice (some ⟨g, 0, none⟩) m m) m n C B S := by
  refine ⟨hm, Nat.le_refl _, ⟨_, _, rfl, Nat.le_refl _, hm, fun h0 => ⟨g, rfl, h.lo, h.list.lt, fun i hi => (h.rows i hi).2.1, fun i hi => h.cell hi (Nat.le_refl _)⟩⟩, fun i hi => ?_, h.inj⟩
  obtain ⟨r1, r2, r3, r4⟩ := h.rows i hi
  exact ⟨r1, r4.lt, r3, r4⟩
end
/-- x[lo:] of bytes. -/
theorem from8 (a : Option Addr) (L C lo : Nat) (hlo : lo ≤ L) (hL : L ≤ C) : ∃ a', (∀ b o, a = some ⟨b, o, none⟩ → 0 < L - lo → a' = some ⟨b, o + lo, none⟩) ∧
    ∀ W : World, (Instr.slice 24 (.slice a L C) (some (.int .i64 (lo : Int))) none none).run Try.prog W = .ok (.slice a' (L - lo) (C - lo)) W := by
  have he : Try.prog.elem 24 = 5 := by kernel_rfl
  have hsz : ∀ W : World, (sizeOf 5).run Try.prog W = .ok 1 W := fun W => by
    obtain ⟨i, hi, -, hs, -⟩ := info_u8a
    simp [sizeOf, typeInfo, hi, hs]
  refine ⟨if C = lo then a else a.map (·.add (lo * 1)), fun b o e h0 => ?_, fun W => ?_⟩
  · subst e
    rw [if_neg (by omega)]
    show some ((⟨b, o, none⟩ : Addr).add (lo * 1)) = _
    rw [Addr.add_lit, Nat.mul_one]
  · have h := run_slice_l (P := Try.prog) (w := W) 24 a L C (by rw [he]; exact Try.underlying24) .i64 (lo : Int) (by omega) (by omega)
    rw [h, he, hsz]
    have e2 : (lo : Int).toNat = lo := by omega
    simp only [Result.andThen, sliced, e2]
theorem rb_from8 {w : World} {a a' : Option Addr} {L C lo : Nat} {F : Nat → Nat} (h : Rb w (.slice a L C) L F) (hlo : lo ≤ L) (ha : ∀ b o, a = some ⟨b, o, none⟩ → 0 < L - lo → a' = some ⟨b, o + lo, none⟩) : Rb w (.slice a' (L - lo) (C - lo)) (L - lo) (fun i => F (lo + i)) := by
  obtain ⟨h1, h2, x, cap, h3, h5, h6, h4⟩ := h
  cases h3
  refine ⟨by omega, fun i hi => h2 _ (by omega), _, _, rfl, by omega, by omega, fun h0 => ?_⟩
  obtain ⟨b, o, e, hl, hc⟩ := h4 (by omega)
  exact ⟨b, o + lo, ha b o e h0, hl, fun i hi => by rw [Nat.add_assoc]; exact hc (lo + i) (by omega)⟩
/-- what Split lays: byte j of shard i. -/
def spl (l n : Nat) (D : Nat → Nat) (i j : Nat) : Nat := if i * l + j < n then D (i * l + j) else 0
theorem spl_lt {l n : Nat} {D : Nat → Nat} (h : ∀ i, i < n → D i < 256) (i j : Nat) : spl l n D i j < 256 := by
  unfold spl
  split
  · rename_i h1; exact h _ h1
  · decide
theorem ln16_ge (f : Int) {k n : Nat} (hk : 1 ≤ k) : n ≤ k * ln16 f k n := by
  have h : n ≤ k * ((n + k - 1) / k) := by
    rw [ceil16 hk]
    have := Nat.div_add_mod n k
    split
    · omega
    · have := Nat.mod_lt n (show 0 < k by omega)
      rw [Nat.mul_add, Nat.mul_one]
      omega
  unfold ln16
  split
  · rw [Nat.mul_add]; omega
  · exact h
theorem ln16_le (f : Int) {k n : Nat} (hk : 1 ≤ k) : ln16 f k n ≤ n + 1 := by
  have h : (n + k - 1) / k ≤ n := by
    rw [ceil16 hk]
    rcases Nat.lt_or_ge 1 k with h1 | h1
    · by_cases h0 : n = 0
      · rw [if_pos (by rw [h0, Nat.zero_mod])]; exact Nat.div_le_self _ _
      · split
        · exact Nat.div_le_self _ _
        · exact Nat.div_lt_self (by omega) h1
    · obtain rfl : k = 1 := by omega
      rw [if_pos (Nat.mod_one _), Nat.div_one]; exact Nat.le_refl _
  unfold ln16
  split <;> omega
end Go.Proofs.Ytldacjpkblffbab
