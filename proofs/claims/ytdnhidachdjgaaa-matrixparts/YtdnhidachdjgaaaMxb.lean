import Derived.Test.YtdnhidachdjgaaaMxa
import Derived.Test.YtdnhidachdjgaaaMj1
import Derived.Test.YtdnhidachdjgaaaMj4
namespace Go.Proofs.Ytdnhidachdjgaaa
open Go.RowKit Gf2
set_option linter.unusedVariables false

/-- T in the rows below r and in row r below column c, else S. -/
def fil (T S : Nat → Nat → Nat) (r c : Nat) : Nat → Nat → Nat := fun i j => if i < r ∨ (i = r ∧ j < c) then T i j else S i j
section
variable {lo hi m k : Nat} {w w' : World} {v : Value} {B : Nat → Nat} {S T : Nat → Nat → Nat}
theorem Cs.fil_start (T : Nat → Nat → Nat) (h : Cs lo hi w v m (fun _ => k) (fun _ => k) B S) : Cs lo hi w v m (fun _ => k) (fun _ => k) B (fil T S 0 0) :=
  h.congr (fun i _ j _ => by unfold fil; rw [if_neg (by omega)])
theorem Cs.fil_set {r c : Nat} (h : Cs lo hi w v m (fun _ => k) (fun _ => k) B (fil T S r c)) (hr : r < m) (hx : T r c < 256) : Cs lo hi (w.setCell ⟨B r, c, none⟩ (.int .u8 (T r c : Nat))) v m (fun _ => k) (fun _ => k) B (fil T S r (c + 1)) :=
  (h.set hr c (T r c) hx).congr (fun i _ j _ => by
    unfold st2 fil
    by_cases e : i = r ∧ j = c
    · rw [if_pos e, if_pos (by omega), e.1, e.2]
    · rw [if_neg e]
      by_cases e2 : i < r ∨ i = r ∧ j < c
      · rw [if_pos e2, if_pos (by omega)]
      · rw [if_neg e2, if_neg (by omega)])
theorem Cs.fil_row {r : Nat} (h : Cs lo hi w v m (fun _ => k) (fun _ => k) B (fil T S r k)) : Cs lo hi w v m (fun _ => k) (fun _ => k) B (fil T S (r + 1) 0) :=
  h.congr (fun i _ j hj => by
    unfold fil
    by_cases e2 : i < r ∨ i = r ∧ j < k
    · rw [if_pos e2, if_pos (by omega)]
    · rw [if_neg e2, if_neg (by omega)])
theorem Cs.fil_end (h : Cs lo hi w v m (fun _ => k) (fun _ => k) B (fil T S m 0)) : Cs lo hi w v m (fun _ => k) (fun _ => k) B T :=
  h.congr (fun i hi' j hj => by unfold fil; rw [if_pos (by omega)])
end
/-- a matrix that is answered: new memory, each row of its own. -/
def Ans (w w' : World) (v : Value) (m c : Nat) (S : Nat → Nat → Nat) : Prop := (∃ B, Cs w.heap.size w'.heap.size w' v m (fun _ => c) (fun _ => c) B S) ∧ Below w.heap.size w w'
theorem Cs.ans {lo hi m c : Nat} {w w' : World} {v : Value} {B : Nat → Nat} {S : Nat → Nat → Nat} (h : Cs lo hi w' v m (fun _ => c) (fun _ => c) B S) (hl : w.heap.size ≤ lo) (hb : Below w.heap.size w w') : Ans w w' v m c S :=
  ⟨⟨B, h.wide hl h.hw (Nat.le_refl _)⟩, hb⟩
theorem Ans.congr {m c : Nat} {w w' : World} {v : Value} {S T : Nat → Nat → Nat} (h : Ans w w' v m c S) (e : ∀ i, i < m → ∀ j, j < c → S i j = T i j) : Ans w w' v m c T := by
  obtain ⟨⟨B, h1⟩, h2⟩ := h
  exact ⟨⟨B, h1.congr e⟩, h2⟩
theorem Ans.lb {m c : Nat} {w w' : World} {v : Value} {S : Nat → Nat → Nat} (h : Ans w w' v m c S) : Lb w' v m (fun _ => c) S := by
  obtain ⟨⟨B, h1⟩, h2⟩ := h
  exact h1.lb

/-- a matrix has form. -/
def Fm (m : Nat) (n : Nat → Nat) : Prop := 1 ≤ m ∧ m ≤ 256 ∧ 1 ≤ n 0 ∧ n 0 ≤ 512 ∧ ∀ i, i < m → n i = n 0

set_option maxHeartbeats 400000 in
theorem within10_yes (n most : Int) (w : World) (h : 1 ≤ n) (k : n ≤ most) :
    Calls Try.prog 37 #[.int .i64 n, .int .i64 most] w fun e w' => e = .returned (.bool true) ∧ w' = w := by
  go_enter Try.func37, Try.ntmps37
  go_wp2
  go_ret
  exact ⟨rfl, rfl⟩
set_option maxHeartbeats 400000 in
theorem within10_no (n most : Int) (w : World) (h : n < 1 ∨ most < n) :
    Calls Try.prog 37 #[.int .i64 n, .int .i64 most] w fun e w' => e = .returned (.bool false) ∧ w' = w := by
  rcases Classical.em (1 ≤ n) with h1 | h1
  · have h2 : ¬ n ≤ most := by omega
    go_enter Try.func37, Try.ntmps37
    go_wp2
    go_ret
    exact ⟨rfl, rfl⟩
  · go_enter Try.func37, Try.ntmps37
    go_wp2
    go_ret
    exact ⟨rfl, rfl⟩
end Go.Proofs.Ytdnhidachdjgaaa
