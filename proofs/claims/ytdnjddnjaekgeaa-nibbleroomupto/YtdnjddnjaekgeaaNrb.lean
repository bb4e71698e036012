import Derived.Test.YtdnjddnjaekgeaaNra
namespace Go.Proofs.Ytdnjddnjaekgeaa
open Go.RowKit Gf2
set_option linter.unusedVariables false

/-- three lists behind one another, as two appends lay them. -/
def cat3 (nA nD : Nat) (A D B : Nat → Nat) (i : Nat) : Nat := if i < nA + nD then (if i < nA then A i else D (i - nA)) else B (i - (nA + nD))
theorem cat3_mid {nA nD : Nat} {A D B : Nat → Nat} {j : Nat} (h : j < nD) : cat3 nA nD A D B (nA + j) = D j := by
  unfold cat3
  rw [if_pos (by omega), if_neg (by omega), Nat.add_sub_cancel_left]
theorem cat3_piece (f : Nat → Nat → Nat) {nA nD nS n : Nat} {A D B S FR F' : Nat → Nat} (hn : nA + nD ≤ n) (eR : ∀ i, i < n → FR i = cat3 nA nD A D B i) (eF : ∀ i, F' i = pl FR nA nD (wantT f nD nS (fun j => FR (nA + j)) S) i) :
    ∀ i, i < n → F' i = cat3 nA nD A (wantT f nD nS D S) B i := by
  intro i hi
  rw [eF i]
  unfold pl
  by_cases e : nA ≤ i ∧ i < nA + nD
  · rw [if_pos e]
    obtain ⟨j, rfl⟩ : ∃ j, i = nA + j := ⟨i - nA, by omega⟩
    rw [cat3_mid (by omega), Nat.add_sub_cancel_left]
    unfold wantT
    dsimp only
    rw [eR (nA + j) (by omega), cat3_mid (by omega)]
  · rw [if_neg e, eR i hi]
    unfold cat3
    by_cases e1 : i < nA + nD
    · rw [if_pos e1, if_pos e1, if_pos (by omega), if_pos (by omega)]
    · rw [if_neg e1, if_neg e1]
/-- a row's piece, apart from another block. -/
theorem piece_far {w : World} {h N o n g : Nat} {F S : Nat → Nat} {x : Option Addr} (hr : Rw w h N F) (hne : h ≠ g) (hn : o + n ≤ N) (hx : 0 < n → x = some ⟨h, o, none⟩) (e : ∀ i, i < n → F (o + i) = S i) : Fk w g n x S :=
  ⟨fun i hi => by rw [← e i hi]; exact hr.2.1 _ (by omega), fun h0 => ⟨h, o, hx h0, hne, hr.lt, fun i hi => by rw [← e i hi]; exact hr.2.2.cell (i := o + i) (by omega)⟩⟩
/-- a row's beginning as a list. -/
theorem head_rb {w : World} {g N n : Nat} {F T : Nat → Nat} (hr : Rw w g N F) (hn : n ≤ N) (e : ∀ i, i < n → F i = T i) : Rb w (.slice (some ⟨g, 0, none⟩) n N) n T :=
  (hr.rb (o := 0) (n := n) (cap := N) (by omega) hn hr.1).congr (fun i hi => by rw [Nat.zero_add]; exact e i hi)
theorem kp_below_all {g : Nat} {a b c : World} (h : Below a.heap.size a b) (k : Kp g b c) (hg : a.heap.size ≤ g) : Below a.heap.size a c := h.trans (k.below hg h.size)
theorem room_ready {W w4 w7 w8 w9 : World} {gR CR gF CF nA nD nS nB : Nat} {A D S B : Nat → Nat} {aS : Option Addr} (oR : Own8 W w4 gR CR (nA + nD + nB) (cat3 nA nD A D B)) (oF : Own8 w4 w7 gF CF (nB + nS + nA) (cat3 nB nS B S A))
    (rW : Rw w8 w7.heap.size (nB + nS + nA) (cat3 nB nS B S A)) (bW : Below w7.heap.size w7 w8) (eS : 0 < nS → aS = some ⟨gF, nB, none⟩) (bN : Below w8.heap.size w8 w9) :
    ∃ FR, Rw w9 gR CR FR ∧ (∀ i, i < nA + nD + nB → FR i = cat3 nA nD A D B i) ∧ Fk w9 gR nS aS S ∧ (∃ FF, Rw w9 gF CF FF ∧ ∀ i, i < nB + nS + nA → FF i = cat3 nB nS B S A i) ∧ Rw w9 w7.heap.size (nB + nS + nA) (cat3 nB nS B S A) ∧ gF ≠ gR ∧ w7.heap.size ≠ gR ∧ W.heap.size ≤ gR ∧ gR < w8.heap.size ∧ Below W.heap.size W w9 := by
  obtain ⟨FR, rR, eR⟩ := oR.row
  obtain ⟨FF, rF, eF⟩ := oF.row
  have l1 := rR.lt
  have l2 := rF.lt
  have s7 := oF.2.2.1.size
  have s8 := bW.size
  have lF := oF.2.1
  have hF9 := rw_below (rw_below rF bW) bN
  have b48 : Below w4.heap.size w4 w8 := oF.2.2.1.trans (bW.mono s7)
  have b49 : Below w4.heap.size w4 w9 := b48.trans (bN.mono b48.size)
  have s4 := oR.2.2.1.size
  refine ⟨FR, rw_below rR b49, eR, piece_far (h := gF) (o := nB) hF9 (by omega) (Nat.le_trans (Nat.le_add_right _ _) oF.1) eS (fun i hi => by rw [eF _ (by omega), cat3_mid hi]), ⟨FF, hF9, eF⟩, rw_below rW bN, by omega, by omega, oR.2.1, by omega, oR.2.2.1.trans (b49.mono s4)⟩
end Go.Proofs.Ytdnjddnjaekgeaa
