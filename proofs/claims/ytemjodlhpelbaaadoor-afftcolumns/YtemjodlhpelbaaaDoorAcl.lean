import Derived.Test.YtemjodlhpelbaaaDoorAfftBackWalk
import Derived.Test.YtemjodlhpelbaaaDoorApz
namespace Go.Proofs.YtemjodlhpelbaaaDoor
open Go.RowKit Gf2
set_option linter.unusedVariables false

theorem info_l14 : (Tryd.prog.info? 22).map (fun i => (i.zero, i.size, i.bytes)) = some (some (Value.slice none 0 0), 1, 24) := by kernel_rfl
theorem make_rows14 (n : Nat) (hn : 24 * n ≤ 140737488355328) (w : World) : (Instr.makeSlice 39 (.int .i64 (n : Int)) (.int .i64 (n : Int))).run Tryd.prog w = .ok (.slice (some ⟨w.heap.size, 0, none⟩) n n) (w.alloc (.cells (madeCells #[.slice none 0 0] n) 22)) :=
  run_make_row' (P := Tryd.prog) 39 22 (.slice none 0 0) 24 Tryd.underlying39 info_l14 rfl .i64 .i64 n (by omega) (by omega) w
/-- columns % 5, none below nought. -/
theorem col_q (c : Int) : ∃ (r v : Int) (q : Nat), c.tmod 5 = r ∧ wrap64 (r + 5) = v ∧ v.tmod 5 = (q : Int) ∧ q < 5 := by
  have r1 : c.tmod 5 < 5 := Int.tmod_lt_of_pos _ (by decide)
  have r2 : -5 < c.tmod 5 := by
    have := Int.tmod_lt_of_pos (-c) (show (0 : Int) < 5 by decide)
    rw [Int.neg_tmod] at this
    omega
  refine ⟨c.tmod 5, c.tmod 5 + 5, (c.tmod 5 + 5).toNat % 5, rfl, ?_, ?_, Nat.mod_lt _ (by decide)⟩
  · generalize c.tmod 5 = r at *
    unfold wrap64; omega
  · rw [Int.tmod_eq_emod_of_nonneg (by omega)]
    have : (c.tmod 5 + 5) = ((c.tmod 5 + 5).toNat : Int) := by omega
    rw [this]
    simp
theorem col_wraps {i q N n X : Nat} (hi : i < N) (hq : q < 5) (hN : N ≤ 256) (hn : N * q ≤ n) (hX : X = i * q) : wrap64 ((i : Int) * (q : Int)) = (X : Int) ∧ wrap64 ((X : Int) + (q : Int)) = ((X + q : Nat) : Int) ∧ X + q ≤ n ∧ ((i : Nat) : Int) < (N : Int) ∧ wrap64 ((i : Int) + 1) = (i : Int) + 1 ∧ X ≤ 2048 := by
  have h1 := Nat.mul_le_mul_right q (show i + 1 ≤ N from hi)
  rw [Nat.add_mul, Nat.one_mul] at h1
  have h2 : i * q ≤ 256 * 5 := Nat.mul_le_mul (by omega) (by omega)
  have e : ((i : Int) * (q : Int)) = (X : Int) := by rw [hX]; simp
  refine ⟨?_, ?_, by omega, by omega, ?_, by omega⟩
  · rw [e]; unfold wrap64; omega
  · unfold wrap64; omega
  · unfold wrap64; omega
theorem col_at {X c n q : Nat} (hX : X ≤ 2048) (hc : c < q) (hq : q < 5) (h : X + q ≤ n) {Y : Nat} (hY : Y = X + c) : wrap64 ((X : Int) + (c : Int)) = (Y : Int) ∧ ((Y : Nat) : Int) < (n : Int) ∧ Y < n := by
  refine ⟨?_, by omega, by omega⟩
  unfold wrap64; omega
/-- the rows, i of them laid. -/
structure Cl (w0 wr : World) (gr N q i : Nat) (B C : Nat → Nat) (G : Nat → Nat → Nat) (F : Nat → Nat) : Prop where
  bel : Below w0.heap.size w0 wr
  lst : wr.rowIs gr 22 N (fun j => if j < i then .slice (some ⟨B j, 0, none⟩) q (C j) else .slice none 0 0)
  row : ∀ j, j < i → R6 wr (B j) (C j) (G j) ∧ q ≤ C j ∧ gr < B j ∧ ∀ x, x < q → G j x = F (j * q + x)
  inj : ∀ j j', j < i → j' < i → B j = B j' → j = j'
theorem Cl.next {w0 wr w' : World} {gr N q i g C0 : Nat} {B C : Nat → Nat} {G : Nat → Nat → Nat} {F F0 : Nat → Nat} (h : Cl w0 wr gr N q i B C G F) (h0 : w0.heap.size ≤ gr) (hi : i < N) (hb : Below wr.heap.size wr w') (hg : wr.heap.size ≤ g) (hR : R6 w' g C0 F0) (hC : q ≤ C0) (hF : ∀ x, x < q → F0 x = F (i * q + x)) :
    Cl w0 (w'.setCell ⟨gr, i, none⟩ (.slice (some ⟨g, 0, none⟩) q C0)) gr N q (i + 1) (fun j => if j = i then g else B j) (fun j => if j = i then C0 else C j) (fun j => if j = i then F0 else G j) F := by
  have glt := h.lst.lt
  have k : Kp gr w' (w'.setCell ⟨gr, i, none⟩ (.slice (some ⟨g, 0, none⟩) q C0)) := (Kp.refl gr w').setCell _ _
  have b1 := h.bel.trans (hb.mono h.bel.size)
  refine ⟨b1.trans (k.below h0 b1.size), ((h.lst.of_block (hb.block gr glt)).set i _).congr (fun j hj => ?_), fun j hj => ?_, fun j j' hj hj' e => ?_⟩
  · by_cases e : j = i
    · rw [if_pos e, if_pos (by omega), if_pos e, if_pos e]
    · rw [if_neg e]
      by_cases e2 : j < i
      · rw [if_pos e2, if_pos (by omega), if_neg e, if_neg e]
      · rw [if_neg e2, if_neg (by omega)]
  · by_cases e : j = i
    · simp only [if_pos e]
      exact ⟨hR.kp k (by omega), hC, by omega, fun x hx => by rw [e]; exact hF x hx⟩
    · simp only [if_neg e]
      obtain ⟨a1, a2, a3, a4⟩ := h.row j (by omega)
      exact ⟨(a1.below hb).kp k (by omega), a2, a3, a4⟩
  · by_cases e1 : j = i
    · by_cases e2 : j' = i
      · rw [e1, e2]
      · simp only [if_pos e1, if_neg e2] at e
        have := (h.row j' (by omega)).1.lt
        omega
    · by_cases e2 : j' = i
      · simp only [if_neg e1, if_pos e2] at e
        have := (h.row j (by omega)).1.lt
        omega
      · simp only [if_neg e1, if_neg e2] at e
        exact h.inj j j' (by omega) (by omega) e
theorem Cl.rw {w0 wr : World} {gr N q : Nat} {B C : Nat → Nat} {G : Nat → Nat → Nat} {F : Nat → Nat} (h : Cl w0 wr gr N q N B C G F) : Rw wr gr 0 N q B C G := by
  refine ⟨fun j hj => ?_, fun j hj => (h.row j hj).1, fun j hj => (h.row j hj).2.1, h.inj, fun j hj => by have := (h.row j hj).2.2.1; omega, h.lst.lt⟩
  have := h.lst.cell (i := j) hj
  rw [if_pos hj] at this
  rw [Nat.zero_add]
  exact this
theorem cols_first (b o n cap q N0 : Nat) (a : Int) (w : World) (hN0 : 0 < N0) (hN1 : 2 * N0 ≤ 140737488351232) (hC : Cab w) (hT : Tzt w) :
    Calls Tryd.prog 9 #[] w fun e w1 => e = .returned (.bool true) ∧ Hid (Below w.heap.size w w1) ∧
    Calls Tryd.prog 10 #[.slice (some ⟨w1.heap.size, 0, none⟩) N0 N0, .int .i64 256] (w1.alloc (.cells (madeCells #[.int .u16 0] N0) 31)) fun e w2 => ∃ (k c : Nat), e = .returned (.slice (some ⟨w1.heap.size, 0, none⟩) c N0) ∧ Hid (0 < c ∧ c = 2 ^ k ∧ c ≤ N0 ∧ c ≤ 256) ∧
    Calls Tryd.prog 11 #[.int .i64 a, .int .i64 (c : Int)] w2 fun e w3 => ∃ s : Nat, e = .returned (.int .i64 (s : Int)) ∧ Hid (c ∣ s ∧ s + c ≤ 65536) ∧ Hid (Below w.heap.size w w3) := by
  refine (awake14 w hC hT).mono fun e w1 ⟨he, b1⟩ => ⟨he, b1, ?_⟩
  refine (cut14 w1.heap.size 0 N0 N0 256 hN0 (Nat.le_refl _) (by decide) (by decide) _).mono fun e w2 ⟨k, c, he, hk, hw⟩ => ⟨k, c, he, ?_⟩
  subst hw
  obtain ⟨hk1, hk2, hk3⟩ := hk.out
  refine ⟨⟨by rw [hk1]; exact Nat.two_pow_pos k, hk1, hk2, hk3⟩, ?_⟩
  refine (begin14 a k c hk1 (by omega) _).mono fun e w3 ⟨s, he, hs, hw⟩ => ⟨s, he, hs, ?_⟩
  subst hw
  exact bthen13 b1 (made_b6 N0 w1)
theorem div_nums {n q N0 : Nat} (hq : 0 < q) (h : N0 = n / q) (hn : q ≤ n) : 0 < N0 ∧ (n : Int).tdiv (q : Int) = (N0 : Int) ∧ N0 ≤ n ∧ N0 * q ≤ n := by
  refine ⟨?_, ?_, by rw [h]; exact Nat.div_le_self _ _, by rw [h]; exact Nat.div_mul_le_self n q⟩
  · rw [h]; exact Nat.div_pos hn hq
  · rw [Int.tdiv_eq_ediv_of_nonneg (by omega), h]; rfl
theorem wrap_N {N0 n : Nat} (h : N0 ≤ n) (hn : 2 * n ≤ 140737488351232) : wrap64 (N0 : Int) = (N0 : Int) := by unfold wrap64; omega
end Go.Proofs.YtemjodlhpelbaaaDoor
