import Derived.Test.YtaepcecjblojjabDoorDtra
import Derived.Deep.QuietTactic
import Derived.BigQuiet
namespace Go.Proofs.YtaepcecjblojjabDoor
open Go.RowKit Gf2

/-- the reader in memory. -/
def Rd (w : World) (b : Nat) (s : St) : Prop :=
  w.cell? ⟨b, 0, none⟩ = some (.int .u64 (s.poly : Int)) ∧ w.cell? ⟨b, 1, none⟩ = some (.int .i64 (s.place : Int)) ∧ w.cell? ⟨b, 2, none⟩ = some (.int .i64 (s.exp : Int)) ∧
  w.frozen? ⟨b, 0, none⟩ = false ∧ w.frozen? ⟨b, 1, none⟩ = false ∧ w.frozen? ⟨b, 2, none⟩ = false

/-- nothing below N has turned, and nothing but block b. -/
def Keep (N b : Nat) (w w' : World) : Prop := Below N w w' ∧ ∀ j, j ≠ b → w'.heap[j]? = w.heap[j]?
theorem Keep.refl (N b : Nat) (w : World) : Keep N b w w := ⟨Below.refl N w, fun _ _ => rfl⟩
theorem Keep.drewN {N b : Nat} {a w : World} (h : Keep N b a w) (n : Nat) : Keep N b a (w.drewN n) := ⟨below_drewN h.1 n, h.2⟩
theorem Keep.set {N b : Nat} {a w : World} (h : Keep N b a w) (hN : N ≤ b) (i : Nat) (u : Value) : Keep N b a (w.setCell ⟨b, i, none⟩ u) :=
  ⟨h.1.setCell (p := ⟨b, i, none⟩) hN u, fun j hj => (Below.heap_setCell w ⟨b, i, none⟩ u j hj).trans (h.2 j hj)⟩

def whole (s : St) : Bool := decide (s.place = 1 ∨ s.place = 2 ∨ (s.place = 4 ∧ 2 ≤ s.exp))

theorem tz_le (p : Nat) : ∀ f, f ≤ 64 → tz p f ≤ 64 := by
  intro f
  induction f with
  | zero => intro _; exact Nat.le_refl _
  | succ f ih =>
    intro h
    simp only [tz]
    split
    · omega
    · exact ih (by omega)
theorem Tab.drew {w : World} (h : Tab w) : Tab w.drew := h

set_option maxHeartbeats 2000000 in
theorem endTerm_yes (b : Nat) (s : St) (w : World) (N : Nat) (hN : N ≤ b) (ht : Tab w) (hr : Rd w b s) (hp : s.poly < 18446744073709551616) (he : s.exp ≤ 63) (hw : whole s = true) (hz : s.exp < tz64 s.poly) :
    Calls Tryd.prog 55 #[.pointer (some ⟨b, 0, none⟩)] w fun r w' => r = .returned (.bool true) ∧ Rd w' b ⟨s.poly ||| 2 ^ s.exp, 0, s.exp⟩ ∧ Keep N b w w' ∧ w'.heap.size = w.heap.size := by
  obtain ⟨poly, place, exp⟩ := s
  simp only at *
  obtain ⟨r0, r1, r2, f0, f1, f2⟩ := hr
  simp only at *
  have htn : ∀ n, Tab (w.drewN n) := fun n j hj => by simpa using ht j hj
  have hzl : exp + 1 ≤ tz64 poly := hz
  have hz64 : tz64 poly ≤ 64 := tz_le poly 64 (by decide)
  have hpw : 2 ^ exp < 18446744073709551616 := by
    have : 2 ^ exp ≤ 2 ^ 63 := Nat.pow_le_pow_right (by decide) he
    have e : (2 : Nat) ^ 63 = 9223372036854775808 := rfl
    omega
  have X := shift_or poly exp hp hpw
  have hpl2 : place = 1 ∨ place = 2 ∨ (place = 4 ∧ 2 ≤ exp) := by simpa [whole] using hw
  have D2 : (place = 1 ∨ place = 2) ∨ decide ((2 : Int) ≤ (exp : Int)) = true := by
    rcases hpl2 with h | h | h
    · exact .inl (.inl h)
    · exact .inl (.inr h)
    · right; simp; omega
  have fin : ∀ n, Rd (((w.drewN n).setCell ⟨b, 0, none⟩ (.int .u64 ((poly ||| 2 ^ exp : Nat) : Int))).setCell ⟨b, 1, none⟩ (.int .i64 0)) b ⟨poly ||| 2 ^ exp, 0, exp⟩ ∧
      Keep N b w (((w.drewN n).setCell ⟨b, 0, none⟩ (.int .u64 ((poly ||| 2 ^ exp : Nat) : Int))).setCell ⟨b, 1, none⟩ (.int .i64 0)) ∧
      (((w.drewN n).setCell ⟨b, 0, none⟩ (.int .u64 ((poly ||| 2 ^ exp : Nat) : Int))).setCell ⟨b, 1, none⟩ (.int .i64 0)).heap.size = w.heap.size := by
    intro n
    refine ⟨⟨?_, ?_, ?_, ?_, ?_, ?_⟩, ?_, by simp⟩
    · go_simp
    · go_simp
    · go_simp
    · go_simp
    · go_simp
    · go_simp
    · exact ((Keep.drewN (Keep.refl N b w) n).set hN 0 _).set hN 1 _
  rcases hpl2 with rfl | rfl | ⟨rfl, h2⟩
  all_goals
    clear hw
    rcases D2 with D2 | D2
  all_goals
    first
      | (exfalso; omega)
      | (go_enter Tryd.func55, Tryd.ntmps55
         go_wp2
         go_quiet ((go_at_call 59; exact Calls.quiet_of_same (trailing_nat _ _ hp (htn _))))
         go_wp2
         go_region
         go_wp2
         go_ret
         exact ⟨rfl, fin _⟩)

set_option maxHeartbeats 2000000 in
theorem endTerm_late (b : Nat) (s : St) (w : World) (N : Nat) (ht : Tab w) (hr : Rd w b s) (hp : s.poly < 18446744073709551616) (he : s.exp ≤ 63) (hw : whole s = true) (hz : ¬ s.exp < tz64 s.poly) :
    Calls Tryd.prog 55 #[.pointer (some ⟨b, 0, none⟩)] w fun r w' => r = .returned (.bool false) ∧ Keep N b w w' := by
  obtain ⟨poly, place, exp⟩ := s
  simp only at *
  obtain ⟨r0, r1, r2, f0, f1, f2⟩ := hr
  simp only at *
  have htn : ∀ n, Tab (w.drewN n) := fun n j hj => by simpa using ht j hj
  have hzl : tz64 poly ≤ exp := by omega
  have hpl2 : place = 1 ∨ place = 2 ∨ (place = 4 ∧ 2 ≤ exp) := by simpa [whole] using hw
  have D2 : (place = 1 ∨ place = 2) ∨ decide ((2 : Int) ≤ (exp : Int)) = true := by
    rcases hpl2 with h | h | h
    · exact .inl (.inl h)
    · exact .inl (.inr h)
    · right; simp; omega
  rcases hpl2 with rfl | rfl | ⟨rfl, h2⟩
  all_goals
    clear hw hz
    rcases D2 with D2 | D2
  all_goals
    first
      | (exfalso; omega)
      | (go_enter Tryd.func55, Tryd.ntmps55
         go_wp2
         go_quiet ((go_at_call 59; exact Calls.quiet_of_same (trailing_nat _ _ hp (htn _))))
         go_wp2
         go_ret
         exact ⟨rfl, Keep.drewN (Keep.refl N b w) _⟩)

set_option maxHeartbeats 2000000 in
theorem endTerm_part (b : Nat) (s : St) (w : World) (N : Nat) (hr : Rd w b s) (hpl : s.place ≤ 4) (hw : whole s = false) :
    Calls Tryd.prog 55 #[.pointer (some ⟨b, 0, none⟩)] w fun r w' => r = .returned (.bool false) ∧ Keep N b w w' := by
  obtain ⟨poly, place, exp⟩ := s
  simp only at *
  obtain ⟨r0, r1, r2, f0, f1, f2⟩ := hr
  simp only at *
  have hpl2 : place = 0 ∨ place = 3 ∨ (place = 4 ∧ exp < 2) := by
    have : ¬ (place = 1 ∨ place = 2 ∨ (place = 4 ∧ 2 ≤ exp)) := by simpa [whole] using hw
    omega
  have D2 : (place = 0 ∨ place = 3) ∨ decide ((2 : Int) ≤ (exp : Int)) = false := by
    rcases hpl2 with h | h | h
    · exact .inl (.inl h)
    · exact .inl (.inr h)
    · right; simp; omega
  rcases hpl2 with rfl | rfl | ⟨rfl, h2⟩
  all_goals
    clear hw
    rcases D2 with D2 | D2
  all_goals
    first
      | (exfalso; omega)
      | (go_enter Tryd.func55, Tryd.ntmps55
         go_wp2
         go_quiet (fail)
         go_wp2
         go_ret
         exact ⟨rfl, Keep.drewN (Keep.refl N b w) _⟩)

/-- endTerm, whatever the reader holds. -/
theorem endTerm_any (b : Nat) (s : St) (w : World) (N : Nat) (hN : N ≤ b) (ht : Tab w) (hr : Rd w b s) (hp : s.poly < 18446744073709551616) (he : s.exp ≤ 63) (hpl : s.place ≤ 4) :
    Calls Tryd.prog 55 #[.pointer (some ⟨b, 0, none⟩)] w fun r w' => r = .returned (.bool (endT s).isSome) ∧ Keep N b w w' ∧ ∀ t, endT s = some t → Rd w' b t ∧ w'.heap.size = w.heap.size := by
  cases hw : whole s with
  | false =>
    have hn : endT s = none := by
      unfold endT; rw [if_neg]
      rintro ⟨h, -⟩
      simp [whole] at hw
      omega
    rw [hn]
    exact (endTerm_part b s w N hr hpl hw).mono fun r w' ⟨h1, h2⟩ => ⟨h1, h2, fun t h => by cases h⟩
  | true =>
    by_cases hz : s.exp < tz64 s.poly
    · have hs : endT s = some ⟨s.poly ||| 2 ^ s.exp, 0, s.exp⟩ := by
        unfold endT; rw [if_pos]
        exact ⟨by simpa [whole] using hw, hz⟩
      rw [hs]
      exact (endTerm_yes b s w N hN ht hr hp he hw hz).mono fun r w' ⟨h1, h2, h3, h4⟩ => ⟨h1, h3, fun t h => by cases h; exact ⟨h2, h4⟩⟩
    · have hn : endT s = none := by
        unfold endT; rw [if_neg]
        rintro ⟨-, h⟩; exact hz h
      rw [hn]
      exact (endTerm_late b s w N ht hr hp he hw hz).mono fun r w' ⟨h1, h2⟩ => ⟨h1, h2, fun t h => by cases h⟩
end Go.Proofs.YtaepcecjblojjabDoor
