import Derived.Test.YtaepcecjblojjabDoorDrea
namespace Go.Proofs.YtaepcecjblojjabDoor
open Go.RowKit Gf2

/-- the reader behind two stores. -/
theorem rd_two {w : World} {b N : Nat} {s : St} {pl ex : Nat} (hN : N ≤ b) (hr : Rd w b s) :
    Rd ((w.setCell ⟨b, 1, none⟩ (.int .i64 (pl : Int))).setCell ⟨b, 2, none⟩ (.int .i64 (ex : Int))) b ⟨s.poly, pl, ex⟩ ∧
    Keep N b w ((w.setCell ⟨b, 1, none⟩ (.int .i64 (pl : Int))).setCell ⟨b, 2, none⟩ (.int .i64 (ex : Int))) ∧
    ((w.setCell ⟨b, 1, none⟩ (.int .i64 (pl : Int))).setCell ⟨b, 2, none⟩ (.int .i64 (ex : Int))).heap.size = w.heap.size := by
  obtain ⟨r0, r1, r2, f0, f1, f2⟩ := hr
  refine ⟨⟨?_, ?_, ?_, ?_, ?_, ?_⟩, ?_, by simp⟩
  · go_simp
  · go_simp
  · go_simp
  · go_simp
  · go_simp
  · go_simp
  · exact ((Keep.refl N b w).set hN 1 _).set hN 2 _

/-- what 'take' does, said by the plain function. -/
def TakeOk (b N : Nat) (w : World) (o : Option St) (r : Ending) (w' : World) : Prop :=
  r = .returned (.bool o.isSome) ∧ Keep N b w w' ∧ ∀ t, o = some t → Rd w' b t ∧ w'.heap.size = w.heap.size

set_option maxHeartbeats 2000000 in
theorem take_plus (b : Nat) (s : St) (w : World) (N : Nat) (hN : N ≤ b) (ht : Tab w) (hr : Rd w b s) (hp : s.poly < 18446744073709551616) (he : s.exp ≤ 63) (hpl : s.place ≤ 4) :
    Calls Tryd.prog 54 #[.pointer (some ⟨b, 0, none⟩), .int .i32 43] w (TakeOk b N w (endT s)) := by
  have c1 := endTerm_any b s w N hN ht hr hp he hpl
  go_enter Tryd.func54, Tryd.ntmps54
  go_wp2_with (go_at_call 55; with_reducible refine c1.mono ?_; rintro e w1 ⟨rfl, hb1, hb2⟩)
  go_ret
  exact ⟨rfl, hb1, hb2⟩

set_option maxHeartbeats 2000000 in
theorem take_start (b : Nat) (poly exp : Nat) (c : Int) (w : World) (N : Nat) (hN : N ≤ b) (hr : Rd w b ⟨poly, 0, exp⟩) (h43 : (c == 43) = false) :
    Calls Tryd.prog 54 #[.pointer (some ⟨b, 0, none⟩), .int .i32 c] w (TakeOk b N w (if c = 49 then some ⟨poly, 1, 0⟩ else if c = 120 then some ⟨poly, 2, 1⟩ else none)) := by
  have q1 := rd_two (pl := 1) (ex := 0) (N := N) hN hr
  have q2 := rd_two (pl := 2) (ex := 1) (N := N) hN hr
  obtain ⟨r0, r1, r2, f0, f1, f2⟩ := hr
  simp only at *
  by_cases h1 : c = 49
  · subst h1
    go_enter Tryd.func54, Tryd.ntmps54
    go_wp2
    go_ret
    exact ⟨rfl, q1.2.1, fun t h => by cases h; exact ⟨q1.1, q1.2.2⟩⟩
  · by_cases h2 : c = 120
    · subst h2
      go_enter Tryd.func54, Tryd.ntmps54
      go_wp2
      go_ret
      exact ⟨rfl, q2.2.1, fun t h => by cases h; exact ⟨q2.1, q2.2.2⟩⟩
    · rw [if_neg h1, if_neg h2]
      have e1 : (c == 49) = false := by simpa using h1
      have e2 : (c == 120) = false := by simpa using h2
      clear q1 q2 h1 h2
      go_enter Tryd.func54, Tryd.ntmps54
      go_wp2
      go_ret
      exact ⟨rfl, Keep.refl _ _ _, fun t h => by cases h⟩

set_option maxHeartbeats 2000000 in
theorem take_one (b : Nat) (poly exp : Nat) (c : Int) (w : World) (N : Nat) (hr : Rd w b ⟨poly, 1, exp⟩) (h43 : (c == 43) = false) :
    Calls Tryd.prog 54 #[.pointer (some ⟨b, 0, none⟩), .int .i32 c] w (TakeOk b N w none) := by
  obtain ⟨r0, r1, r2, f0, f1, f2⟩ := hr
  simp only at *
  go_enter Tryd.func54, Tryd.ntmps54
  go_wp2
  go_ret
  exact ⟨rfl, Keep.refl _ _ _, fun t h => by cases h⟩

set_option maxHeartbeats 2000000 in
theorem take_x (b : Nat) (poly exp : Nat) (c : Int) (w : World) (N : Nat) (hN : N ≤ b) (hr : Rd w b ⟨poly, 2, exp⟩) (h43 : (c == 43) = false) :
    Calls Tryd.prog 54 #[.pointer (some ⟨b, 0, none⟩), .int .i32 c] w (TakeOk b N w (if c = 94 then some ⟨poly, 3, 0⟩ else none)) := by
  have q1 := rd_two (pl := 3) (ex := 0) (N := N) hN hr
  obtain ⟨r0, r1, r2, f0, f1, f2⟩ := hr
  simp only at *
  by_cases h1 : c = 94
  · subst h1
    go_enter Tryd.func54, Tryd.ntmps54
    go_wp2
    go_ret
    exact ⟨rfl, q1.2.1, fun t h => by cases h; exact ⟨q1.1, q1.2.2⟩⟩
  · rw [if_neg h1]
    have e1 : (c == 94) = false := by simpa using h1
    clear q1 h1
    go_enter Tryd.func54, Tryd.ntmps54
    go_wp2
    go_ret
    exact ⟨rfl, Keep.refl _ _ _, fun t h => by cases h⟩

theorem ret_bool2 {a b : Bool} (h : a = b) : Ending.returned (.bool a) = .returned (.bool b) := by rw [h]

set_option maxHeartbeats 2000000 in
theorem take_digit (b : Nat) (poly place exp k : Nat) (w : World) (N : Nat) (hN : N ≤ b) (hr : Rd w b ⟨poly, place, exp⟩) (he : exp ≤ 63) (hk : (place = 3 ∧ 49 ≤ k ∧ k ≤ 57) ∨ (place = 4 ∧ 48 ≤ k ∧ k ≤ 57)) :
    Calls Tryd.prog 54 #[.pointer (some ⟨b, 0, none⟩), .int .i32 (k : Int)] w (TakeOk b N w (if 10 * exp + (k - 48) ≤ 63 then some ⟨poly, 4, 10 * exp + (k - 48)⟩ else none)) := by
  have q1 := rd_two (pl := 4) (ex := 10 * exp + (k - 48)) (N := N) hN hr
  have hv : (10 * (exp : Int) + ((k : Int) - 48)) = ((10 * exp + (k - 48) : Nat) : Int) := by omega
  have h43 : ((k : Int) == 43) = false := by simp; omega
  have h94 : ((k : Int) == 94) = false := by simp; omega
  have hq : 10 * exp + (k - 48) ≤ 639 := by omega
  have hk2 : 48 ≤ k ∧ k ≤ 57 := by omega
  obtain ⟨r0, r1, r2, f0, f1, f2⟩ := hr
  simp only at *
  generalize hg : 10 * exp + (k - 48) = v at *
  by_cases h63 : v ≤ 63
  · rw [if_pos h63]
    rcases hk with ⟨rfl, h1, h2⟩ | ⟨rfl, h1, h2⟩
    all_goals
      go_enter Tryd.func54, Tryd.ntmps54
      go_wp2
      go_ret
      exact ⟨ret_bool2 (by simp <;> omega), q1.2.1, fun t h => by cases h; exact ⟨q1.1, q1.2.2⟩⟩
  · rw [if_neg h63]
    rcases hk with ⟨rfl, h1, h2⟩ | ⟨rfl, h1, h2⟩
    all_goals
      go_enter Tryd.func54, Tryd.ntmps54
      go_wp2
      go_ret
      exact ⟨ret_bool2 (by simp <;> omega), q1.2.1, fun t h => by cases h⟩

set_option maxHeartbeats 2000000 in
theorem take_nodigit (b : Nat) (poly place exp : Nat) (c : Int) (w : World) (N : Nat) (hr : Rd w b ⟨poly, place, exp⟩) (h43 : (c == 43) = false) (hk : (place = 3 ∧ (c < 49 ∨ 57 < c)) ∨ (place = 4 ∧ (c < 48 ∨ 57 < c))) :
    Calls Tryd.prog 54 #[.pointer (some ⟨b, 0, none⟩), .int .i32 c] w (TakeOk b N w none) := by
  obtain ⟨r0, r1, r2, f0, f1, f2⟩ := hr
  simp only at *
  rcases hk with ⟨rfl, h1 | h1⟩ | ⟨rfl, h1 | h1⟩
  all_goals
    go_enter Tryd.func54, Tryd.ntmps54
    go_wp2
    go_ret
    exact ⟨rfl, Keep.refl _ _ _, fun t h => by cases h⟩

/-- 'take', whatever the reader holds and whatever comes (c: a rune from 0 on). -/
theorem take_any (b : Nat) (s : St) (k : Nat) (w : World) (N : Nat) (hN : N ≤ b) (ht : Tab w) (hr : Rd w b s) (hp : s.poly < 18446744073709551616) (he : s.exp ≤ 63) (hpl : s.place ≤ 4) :
    Calls Tryd.prog 54 #[.pointer (some ⟨b, 0, none⟩), .int .i32 (k : Int)] w (TakeOk b N w (take1 s k)) := by
  by_cases h43 : k = 43
  · subst h43
    have : take1 s 43 = endT s := by unfold take1; rw [if_pos rfl]
    rw [this]
    exact take_plus b s w N hN ht hr hp he hpl
  have h43' : ((k : Int) == 43) = false := by simp; omega
  obtain ⟨poly, place, exp⟩ := s
  simp only at *
  have hpl5 : place = 0 ∨ place = 1 ∨ place = 2 ∨ place = 3 ∨ place = 4 := by omega
  unfold take1
  rw [if_neg h43]
  simp only
  rcases hpl5 with rfl | rfl | rfl | rfl | rfl
  · have h := take_start b poly exp (k : Int) w N hN hr h43'
    have e : (if (k : Int) = 49 then some ({ poly := poly, place := 1, exp := 0 } : St) else if (k : Int) = 120 then some ⟨poly, 2, 1⟩ else none) =
        (if (0 : Nat) = 0 ∧ k = 49 then some ⟨poly, 1, 0⟩ else if (0 : Nat) = 0 ∧ k = 120 then some ⟨poly, 2, 1⟩ else if (0 : Nat) = 2 ∧ k = 94 then some ⟨poly, 3, 0⟩ else if ((0 : Nat) = 3 ∧ 49 ≤ k ∧ k ≤ 57) ∨ ((0 : Nat) = 4 ∧ 48 ≤ k ∧ k ≤ 57) then (if 10 * exp + (k - 48) ≤ 63 then some ⟨poly, 4, 10 * exp + (k - 48)⟩ else none) else none) := by
      by_cases a : k = 49
      · subst a; simp
      · by_cases c : k = 120
        · subst c; simp
        · have a' : ¬ (k : Int) = 49 := by omega
          have c' : ¬ (k : Int) = 120 := by omega
          simp [a, c, a', c']
    rw [← e]; exact h
  · simpa using take_one b poly exp (k : Int) w N hr h43'
  · have h := take_x b poly exp (k : Int) w N hN hr h43'
    by_cases a : k = 94
    · subst a; simpa using h
    · have a' : ¬ (k : Int) = 94 := by omega
      simpa [a, a'] using h
  · by_cases a : 49 ≤ k ∧ k ≤ 57
    · have h := take_digit b poly 3 exp k w N hN hr he (.inl ⟨rfl, a.1, a.2⟩)
      simpa [a] using h
    · have h := take_nodigit b poly 3 exp (k : Int) w N hr h43' (.inl ⟨rfl, by omega⟩)
      simpa [a] using h
  · by_cases a : 48 ≤ k ∧ k ≤ 57
    · have h := take_digit b poly 4 exp k w N hN hr he (.inr ⟨rfl, a.1, a.2⟩)
      simpa [a] using h
    · have h := take_nodigit b poly 4 exp (k : Int) w N hr h43' (.inr ⟨rfl, by omega⟩)
      simpa [a] using h
end Go.Proofs.YtaepcecjblojjabDoor
