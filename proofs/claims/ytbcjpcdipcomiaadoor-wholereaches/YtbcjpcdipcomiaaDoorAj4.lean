import Derived.Test.YtbcjpcdipcomiaaDoorAj3
import Derived.Deep.CutRange
namespace Go.Proofs.YtbcjpcdipcomiaaDoor
open Go.RowKit Gf2
set_option linter.unusedVariables false

-- layer 14: what is refused, and lists whole
set_option maxHeartbeats 2000000 in
set_option maxRecDepth 100000 in
theorem isPow14_yes (k n : Nat) (hn : n = 2 ^ k) (hm : n ≤ 65536) (w : World) :
    Calls Tryd.prog 16 #[.int .i64 (n : Int)] w fun e w' => e = .returned (.bool true) ∧ w' = w := by
  have h0 : 0 < n := by rw [hn]; exact Nat.two_pow_pos k
  have A1 : bits .and .i64 (n : Int) ((n : Int) - 1) = 0 := by
    have := i64_and13 n (n - 1) (by omega) (by omega)
    rw [hn, and_pow, ← hn] at this
    rw [show ((n : Int) - 1) = ((n - 1 : Nat) : Int) by omega, this]; rfl
  have W1 : wrap64 ((n : Int) - 1) = (n : Int) - 1 := by unfold wrap64; omega
  have D1 : decide ((0 : Int) < (n : Int)) = true := by simp; omega
  have D2 : (n : Int) ≤ 65536 := by omega
  clear hn hm
  go_enter Tryd.func16, Tryd.ntmps16
  go_wp2
  go_ret
  exact ⟨rfl, rfl⟩
set_option maxHeartbeats 2000000 in
set_option maxRecDepth 100000 in
theorem isPow14_no (n : Int) (hn : ∀ m : Nat, n = m → ¬ pw2 m 65536) (h64 : n ≤ 9223372036854775807) (w : World) :
    Calls Tryd.prog 16 #[.int .i64 n] w fun e w' => e = .returned (.bool false) ∧ w' = w := by
  by_cases h0 : 0 < n
  · obtain ⟨m, rfl⟩ := Int.eq_ofNat_of_zero_le (show 0 ≤ n by omega)
    by_cases h1 : m ≤ 65536
    · have D2 : (m : Int) ≤ 65536 := by omega
      have W1 : wrap64 ((m : Int) - 1) = (m : Int) - 1 := by unfold wrap64; omega
      have A0 := i64_and13 m (m - 1) (by omega) (by omega)
      have hz : m &&& (m - 1) ≠ 0 := fun e => by
        obtain ⟨k, hk⟩ := pow_and (by omega) e
        exact hn m rfl ⟨k, hk, h1⟩
      obtain ⟨Z, hZ⟩ : ∃ Z, Z = m &&& (m - 1) := ⟨_, rfl⟩
      rw [← hZ] at hz A0
      rw [show ((m - 1 : Nat) : Int) = (m : Int) - 1 by omega] at A0
      have D3 : ((Z : Int) == 0) = false := by simp; omega
      clear hZ hz hn h1 h64
      go_enter Tryd.func16, Tryd.ntmps16
      go_wp2
      go_ret
      exact ⟨rfl, rfl⟩
    · have D2 : ¬ (m : Int) ≤ 65536 := by omega
      clear h1 hn h64
      go_enter Tryd.func16, Tryd.ntmps16
      go_wp2
      go_ret
      exact ⟨rfl, rfl⟩
  · have D1 : ¬ 0 < n := h0
    clear hn h64
    go_enter Tryd.func16, Tryd.ntmps16
    go_wp2
    go_ret
    exact ⟨rfl, rfl⟩
/-- a coset of n points begins at s, and p points from there on are there. -/
abbrev Beg (s : Int) (n p : Nat) : Prop := 0 ≤ s ∧ s % (n : Int) = 0 ∧ s + (p : Int) ≤ 65536
theorem begin_nums {s n p : Nat} (hp : p ≤ 9223372036854775807) : wrap64 (65536 - (p : Int)) = 65536 - (p : Int) := by unfold wrap64; omega
set_option maxHeartbeats 2000000 in
set_option maxRecDepth 100000 in
theorem isBeg14 (s : Int) (n p : Nat) (hn : 0 < n) (hp : p ≤ 9223372036854775807) (w : World) :
    Calls Tryd.prog 24 #[.int .i64 s, .int .i64 (n : Int), .int .i64 (p : Int)] w fun e w' => e = .returned (.bool (decide (Beg s n p))) ∧ w' = w := by
  by_cases h0 : 0 ≤ s
  · obtain ⟨m, rfl⟩ := Int.eq_ofNat_of_zero_le h0
    have W1 := begin_nums (s := m) (n := n) hp
    have tm : (m : Int).tmod (n : Int) = ((m % n : Nat) : Int) := by rw [Int.tmod_eq_emod_of_nonneg (by omega)]; rfl
    have n0 : ((n : Int) == 0) = false := by simp; omega
    have n1 : (n : Int) ≠ 0 := by omega
    have hB : decide (Beg (m : Int) n p) = (decide (m % n = 0) && decide ((m : Int) ≤ 65536 - (p : Int))) := by
      have e : ((m : Int) % (n : Int) = 0) ↔ m % n = 0 := by
        rw [show ((m : Int) % (n : Int)) = ((m % n : Nat) : Int) by simp]; omega
      unfold Beg
      by_cases a : m % n = 0 <;> by_cases b : (m : Int) ≤ 65536 - (p : Int) <;> simp [a, b, e] <;> omega
    rw [hB]
    obtain ⟨R, hR⟩ : ∃ R, R = m % n := ⟨_, rfl⟩
    rw [← hR] at tm ⊢
    by_cases a : R = 0
    · subst a
      by_cases b : (m : Int) ≤ 65536 - (p : Int)
      · clear hB hR hp
        go_enter Tryd.func24, Tryd.ntmps24
        go_wp2
        go_ret
        exact ⟨by simp [b], rfl⟩
      · clear hB hR hp
        go_enter Tryd.func24, Tryd.ntmps24
        go_wp2
        go_ret
        exact ⟨by simp [b], rfl⟩
    · have a2 : ((R : Int) == 0) = false := by simp; omega
      clear hB hR hp W1
      go_enter Tryd.func24, Tryd.ntmps24
      go_wp2
      go_ret
      exact ⟨by simp [a], rfl⟩
  · rw [show decide (Beg s n p) = false by unfold Beg; simp [h0]]
    clear hp
    go_enter Tryd.func24, Tryd.ntmps24
    go_wp2
    go_ret
    exact ⟨rfl, rfl⟩
set_option maxHeartbeats 2000000 in
set_option maxRecDepth 100000 in
theorem chkCoset14 (s : Int) (n : Nat) (hn : 0 < n) (hp : n ≤ 9223372036854775807) (w : World) :
    Calls Tryd.prog 17 #[.int .i64 s, .int .i64 (n : Int)] w fun e w' => e = .returned (.int .i64 (if Beg s n n then 0 else 140)) ∧ w' = w := by
  have c1 := isBeg14 s n n hn hp w
  by_cases h : Beg s n n
  · rw [show decide (Beg s n n) = true by simpa using h] at c1
    rw [if_pos h]
    clear h hn hp
    go_enter Tryd.func17, Tryd.ntmps17
    go_wp2_with (go_at_call 24; ((with_reducible refine (c1).mono ?_); rintro e w' ⟨rfl, rfl⟩))
    go_ret
    exact ⟨rfl, rfl⟩
  · rw [show decide (Beg s n n) = false by simpa using h] at c1
    rw [if_neg h]
    clear h hn hp
    go_enter Tryd.func17, Tryd.ntmps17
    go_wp2_with (go_at_call 24; ((with_reducible refine (c1).mono ?_); rintro e w' ⟨rfl, rfl⟩))
    go_ret
    exact ⟨rfl, rfl⟩
set_option maxHeartbeats 2000000 in
set_option maxRecDepth 100000 in
theorem chkList14_pow (s : Int) (k n cap : Nat) (a : Option Addr) (hn : n = 2 ^ k) (hm : n ≤ 65536) (w : World) :
    Calls Tryd.prog 9 #[.slice a n cap, .int .i64 s] w fun e w' => e = .returned (.int .i64 (if Beg s n n then 0 else 140)) ∧ w' = w := by
  have c1 := isPow14_yes k n hn hm w
  have c2 := chkCoset14 s n (by rw [hn]; exact Nat.two_pow_pos k) (by omega) w
  generalize (if Beg s n n then (0 : Int) else 140) = Z at c2 ⊢
  clear hn hm
  go_enter Tryd.func9, Tryd.ntmps9
  go_wp2_with (first | (go_at_call 16; ((with_reducible refine (c1).mono ?_); rintro e w' ⟨rfl, rfl⟩)) | (go_at_call 17; ((with_reducible refine (c2).mono ?_); rintro e w' ⟨rfl, rfl⟩)))
  go_ret
  exact ⟨rfl, rfl⟩
set_option maxHeartbeats 2000000 in
set_option maxRecDepth 100000 in
theorem chkList14_no (s : Int) (n cap : Nat) (a : Option Addr) (hn : ¬ pw2 n 65536) (h64 : n ≤ 9223372036854775807) (w : World) :
    Calls Tryd.prog 9 #[.slice a n cap, .int .i64 s] w fun e w' => e = .returned (.int .i64 130) ∧ w' = w := by
  have c1 := isPow14_no (n : Int) (fun m e => by rw [show m = n by omega]; exact hn) (by omega) w
  clear hn h64
  go_enter Tryd.func9, Tryd.ntmps9
  go_wp2_with (go_at_call 16; ((with_reducible refine (c1).mono ?_); rintro e w' ⟨rfl, rfl⟩))
  go_ret
  exact ⟨rfl, rfl⟩
set_option maxHeartbeats 2000000 in
set_option maxRecDepth 100000 in
theorem copied14_any (v : Value) (n : Nat) (F : Nat → Nat) (w : World) (h : Q6 w v n F) (hn : 2 * n ≤ 140737488355328) :
    Calls Tryd.prog 10 #[v] w fun e w' => e = .returned (.slice (some ⟨w.heap.size, 0, none⟩) n n) ∧ R6 w' w.heap.size n F ∧ Below w.heap.size w w' ∧ w'.heap.size = w.heap.size + 1 := by
  have hmk := make_w6 n hn
  have r0 := made_r6 n (by omega) w
  have b0 := made_b6 n w
  obtain ⟨-, hF, a, cap, rfl, -, -, h4⟩ := h
  obtain ⟨w1, hrun, hR, ho⟩ := copy6w _ r0 (a := a) (cap' := cap) (S := F) hF (fun h0 => by
    obtain ⟨b, o, e, hl, hc⟩ := h4 h0
    exact ⟨b, o, e, fun i hi => (b0.cell (p := ⟨b, o + i, none⟩) hl).trans (hc i hi)⟩)
  have HR : Hid (R6 w1 w.heap.size n F ∧ Below w.heap.size w w1 ∧ w1.heap.size = w.heap.size + 1) := ⟨hR, b0.trans (ho.below (Nat.le_refl _)), by rw [ho.2.1]; simp⟩
  clear h4 hR ho r0 b0 hn hF
  go_enter Tryd.func10, Tryd.ntmps10
  go_wp2
  go_ret
  exact ⟨rfl, HR.out⟩
end Go.Proofs.YtbcjpcdipcomiaaDoor
namespace Go.Proofs.YtbcjpcdipcomiaaDoor
open Go.RowKit Gf2
set_option linter.unusedVariables false

-- layer 14: Forward and Inverse (laid by wip/genagj.py)
theorem beg_of {s n : Nat} (hd : n ∣ s) (hs : s + n ≤ 65536) : Beg (s : Int) n n := by
  refine ⟨by omega, ?_, by omega⟩
  rw [show ((s : Int) % (n : Int)) = ((s % n : Nat) : Int) by simp, Nat.mod_eq_zero_of_dvd hd]; rfl
theorem chkList14_of (v : Value) (k n s : Nat) (F : Nat → Nat) (w : World) (h : Q6 w v n F) (hn : n = 2 ^ k) (hd : n ∣ s) (hs : s + n ≤ 65536) :
    Calls Tryd.prog 9 #[v, .int .i64 (s : Int)] w fun e w' => e = .returned (.int .i64 0) ∧ w' = w := by
  obtain ⟨-, -, a, cap, rfl, -⟩ := h
  have := chkList14_pow (s : Int) k n cap a hn (by omega) w
  rw [if_pos (beg_of hd hs)] at this
  exact this
set_option maxHeartbeats 4000000 in
set_option maxRecDepth 100000 in
theorem fwd14 (v : Value) (k n s : Nat) (F : Nat → Nat) (w0 w : World) (hB : Bs w0 w) (h : Q6 w v n F) (hk : k ≤ 16) (hn : n = 2 ^ k) (hd : n ∣ s) (hs : s + n ≤ 65536) :
    Calls Tryd.prog 8 #[v, .int .i64 (s : Int)] w fun e w' => e = .returned (.tuple #[.slice (some ⟨w.heap.size, 0, none⟩) n n, .int .i64 0]) ∧ R6 w' w.heap.size n (fw s k F k) ∧ Below w.heap.size w w' := by
  have k0 := chkList14_of v k n s F w h hn hd hs
  have k1 : Calls Tryd.prog 10 #[v] w fun e w1 => e = .returned (.slice (some ⟨w.heap.size, 0, none⟩) n n) ∧
      Calls Tryd.prog 12 #[.slice (some ⟨w.heap.size, 0, none⟩) n n, .func (.func 15) #[] #[]] w1 fun e w2 => e = .returned (.func (.func 20) #[] #[.pointer (some ⟨w1.heap.size + 1, 0, none⟩), .pointer (some ⟨w1.heap.size, 0, none⟩)]) ∧
      Calls Tryd.prog 14 #[.int .i64 (n : Int), .int .i64 (s : Int), .func (.func 20) #[] #[.pointer (some ⟨w1.heap.size + 1, 0, none⟩), .pointer (some ⟨w1.heap.size, 0, none⟩)]] w2 fun e w3 => e = .returned (.tuple #[]) ∧ Hid (R6 w3 w.heap.size n (fw s k F k) ∧ Below w.heap.size w w3) := by
    refine (copied14_any v n F w h (by omega)).mono fun e w1 ⟨he, r1, b1, z1⟩ => ⟨he, ?_⟩
    refine (ofList14 _ n n 15 w1).mono fun e w2 ⟨he, z2, l2, d2, b2⟩ => ⟨he, ?_⟩
    refine (fwdL14 w0 w2 k n s w.heap.size w1.heap.size (w1.heap.size + 1) F ((hB.then b1).then b2) hB.b.size ⟨l2, d2, by omega, by omega, by omega, by omega⟩ (r1.below b2) hk hn hs).mono fun e w3 ⟨he, r3, p3⟩ => ⟨he, r3, ?_⟩
    exact (bthen13 b1 b2).trans (p3.below (Nat.le_refl _) (by omega))
  clear hB h hk hn hd hs
  go_enter Tryd.func8, Tryd.ntmps8
  go_wp2_with (first | (go_at_call 9; ((with_reducible refine (k0).mono ?_); rintro e w' ⟨rfl, rfl⟩)) | (go_at_call 10; ((with_reducible refine (k1).mono ?_); (rintro e w1 ⟨rfl, k2⟩))) | (go_at_call 12; ((with_reducible refine (k2).mono ?_); (rintro e w2 ⟨rfl, k3⟩))) | (go_at_call 14; ((with_reducible refine (k3).mono ?_); (rintro e w3 ⟨rfl, HV⟩))))
  go_ret2
  exact ⟨rfl, HV.out⟩
set_option maxHeartbeats 4000000 in
set_option maxRecDepth 100000 in
theorem fwd14_no (a : Option Addr) (n cap : Nat) (s : Int) (z : Int) (w : World) (hz : (¬ pw2 n 65536 ∧ z = 130) ∨ (pw2 n 65536 ∧ ¬ Beg s n n ∧ z = 140)) (h64 : n ≤ 9223372036854775807) :
    Calls Tryd.prog 8 #[.slice a n cap, .int .i64 s] w fun e w' => e = .returned (.tuple #[.slice none 0 0, .int .i64 z]) ∧ w' = w := by
  have k0 : Calls Tryd.prog 9 #[.slice a n cap, .int .i64 s] w fun e w' => e = .returned (.int .i64 z) ∧ w' = w := by
    rcases hz with ⟨h1, rfl⟩ | ⟨⟨k, h1, h2⟩, h3, rfl⟩
    · exact chkList14_no s n cap a h1 h64 w
    · have := chkList14_pow s k n cap a h1 h2 w
      rw [if_neg h3] at this
      exact this
  have z0 : (z == 0) = false := by rcases hz with ⟨-, rfl⟩ | ⟨-, -, rfl⟩ <;> rfl
  clear hz h64
  go_enter Tryd.func8, Tryd.ntmps8
  go_wp2_with (go_at_call 9; ((with_reducible refine (k0).mono ?_); rintro e w' ⟨rfl, rfl⟩))
  go_ret2
  exact ⟨rfl, rfl⟩
set_option maxHeartbeats 4000000 in
set_option maxRecDepth 100000 in
theorem inv14 (v : Value) (k n s : Nat) (F : Nat → Nat) (w0 w : World) (hB : Bs w0 w) (h : Q6 w v n F) (hk : k ≤ 16) (hn : n = 2 ^ k) (hd : n ∣ s) (hs : s + n ≤ 65536) :
    Calls Tryd.prog 7 #[v, .int .i64 (s : Int)] w fun e w' => e = .returned (.tuple #[.slice (some ⟨w.heap.size, 0, none⟩) n n, .int .i64 0]) ∧ R6 w' w.heap.size n (iw s F k) ∧ Below w.heap.size w w' := by
  have k0 := chkList14_of v k n s F w h hn hd hs
  have k1 : Calls Tryd.prog 10 #[v] w fun e w1 => e = .returned (.slice (some ⟨w.heap.size, 0, none⟩) n n) ∧
      Calls Tryd.prog 12 #[.slice (some ⟨w.heap.size, 0, none⟩) n n, .func (.func 13) #[] #[]] w1 fun e w2 => e = .returned (.func (.func 20) #[] #[.pointer (some ⟨w1.heap.size + 1, 0, none⟩), .pointer (some ⟨w1.heap.size, 0, none⟩)]) ∧
      Calls Tryd.prog 11 #[.int .i64 (n : Int), .int .i64 (s : Int), .func (.func 20) #[] #[.pointer (some ⟨w1.heap.size + 1, 0, none⟩), .pointer (some ⟨w1.heap.size, 0, none⟩)]] w2 fun e w3 => e = .returned (.tuple #[]) ∧ Hid (R6 w3 w.heap.size n (iw s F k) ∧ Below w.heap.size w w3) := by
    refine (copied14_any v n F w h (by omega)).mono fun e w1 ⟨he, r1, b1, z1⟩ => ⟨he, ?_⟩
    refine (ofList14 _ n n 13 w1).mono fun e w2 ⟨he, z2, l2, d2, b2⟩ => ⟨he, ?_⟩
    refine (invL14 w0 w2 k n s w.heap.size w1.heap.size (w1.heap.size + 1) F ((hB.then b1).then b2) hB.b.size ⟨l2, d2, by omega, by omega, by omega, by omega⟩ (r1.below b2) hk hn hs).mono fun e w3 ⟨he, r3, p3⟩ => ⟨he, r3, ?_⟩
    exact (bthen13 b1 b2).trans (p3.below (Nat.le_refl _) (by omega))
  clear hB h hk hn hd hs
  go_enter Tryd.func7, Tryd.ntmps7
  go_wp2_with (first | (go_at_call 9; ((with_reducible refine (k0).mono ?_); rintro e w' ⟨rfl, rfl⟩)) | (go_at_call 10; ((with_reducible refine (k1).mono ?_); (rintro e w1 ⟨rfl, k2⟩))) | (go_at_call 12; ((with_reducible refine (k2).mono ?_); (rintro e w2 ⟨rfl, k3⟩))) | (go_at_call 11; ((with_reducible refine (k3).mono ?_); (rintro e w3 ⟨rfl, HV⟩))))
  go_ret2
  exact ⟨rfl, HV.out⟩
set_option maxHeartbeats 4000000 in
set_option maxRecDepth 100000 in
theorem inv14_no (a : Option Addr) (n cap : Nat) (s : Int) (z : Int) (w : World) (hz : (¬ pw2 n 65536 ∧ z = 130) ∨ (pw2 n 65536 ∧ ¬ Beg s n n ∧ z = 140)) (h64 : n ≤ 9223372036854775807) :
    Calls Tryd.prog 7 #[.slice a n cap, .int .i64 s] w fun e w' => e = .returned (.tuple #[.slice none 0 0, .int .i64 z]) ∧ w' = w := by
  have k0 : Calls Tryd.prog 9 #[.slice a n cap, .int .i64 s] w fun e w' => e = .returned (.int .i64 z) ∧ w' = w := by
    rcases hz with ⟨h1, rfl⟩ | ⟨⟨k, h1, h2⟩, h3, rfl⟩
    · exact chkList14_no s n cap a h1 h64 w
    · have := chkList14_pow s k n cap a h1 h2 w
      rw [if_neg h3] at this
      exact this
  have z0 : (z == 0) = false := by rcases hz with ⟨-, rfl⟩ | ⟨-, -, rfl⟩ <;> rfl
  clear hz h64
  go_enter Tryd.func7, Tryd.ntmps7
  go_wp2_with (go_at_call 9; ((with_reducible refine (k0).mono ?_); rintro e w' ⟨rfl, rfl⟩))
  go_ret2
  exact ⟨rfl, rfl⟩
set_option maxHeartbeats 4000000 in
set_option maxRecDepth 100000 in
theorem ext14 (v : Value) (k n s t : Nat) (F : Nat → Nat) (w0 w : World) (hB : Bs w0 w) (h : Q6 w v n F) (hk : k ≤ 16) (hn : n = 2 ^ k) (hd : n ∣ s) (hs : s + n ≤ 65536) (hd2 : n ∣ t) (hs2 : t + n ≤ 65536) :
    Calls Tryd.prog 4 #[v, .int .i64 (s : Int), .int .i64 (t : Int)] w fun e w' => ∃ g, e = .returned (.tuple #[.slice (some ⟨g, 0, none⟩) n n, .int .i64 0]) ∧ w.heap.size ≤ g ∧ R6 w' g n (ex s t k F) ∧ Below w.heap.size w w' := by
  have k1 : Calls Tryd.prog 7 #[v, .int .i64 (s : Int)] w fun e w1 => e = .returned (.tuple #[.slice (some ⟨w.heap.size, 0, none⟩) n n, .int .i64 0]) ∧
      Calls Tryd.prog 8 #[.slice (some ⟨w.heap.size, 0, none⟩) n n, .int .i64 (t : Int)] w1 fun e w2 => e = .returned (.tuple #[.slice (some ⟨w1.heap.size, 0, none⟩) n n, .int .i64 0]) ∧ Hid (w.heap.size ≤ w1.heap.size ∧ R6 w2 w1.heap.size n (ex s t k F) ∧ Below w.heap.size w w2) := by
    refine (inv14 v k n s F w0 w hB h hk hn hd hs).mono fun e w1 ⟨he, r1, b1⟩ => ⟨he, ?_⟩
    refine (fwd14 _ k n t (iw s F k) w0 w1 (hB.then b1) r1.all hk hn hd2 hs2).mono fun e w2 ⟨he, r2, b2⟩ => ⟨he, b1.size, r2, bthen13 b1 b2⟩
  clear hB h hk hn hd hs hd2 hs2
  go_enter Tryd.func4, Tryd.ntmps4
  go_wp2_with (first | (go_at_call 7; ((with_reducible refine (k1).mono ?_); (rintro e w1 ⟨rfl, k2⟩))) | (go_at_call 8; ((with_reducible refine (k2).mono ?_); (rintro e w2 ⟨rfl, HV⟩))))
  go_ret2
  exact ⟨_, rfl, HV.out⟩
end Go.Proofs.YtbcjpcdipcomiaaDoor
namespace Go.Proofs.YtbcjpcdipcomiaaDoor
open Go.RowKit Gf2
set_option linter.unusedVariables false

-- layer 14: Fold
/-- copy over a whole row of words, out of a list that may be longer. -/
theorem copy6x (w : World) {g n n2 : Nat} {F : Nat → Nat} (hr : R6 w g n F) (h0 : 0 < n) (hn2 : n ≤ n2) {b p cap' : Nat} {S : Nat → Nat} (hS : ∀ i, i < n → S i < 65536)
    (hcell : ∀ i, i < n → w.cell? ⟨b, p + i, none⟩ = some (.int .u16 (S i : Nat))) :
    ∃ w', (Builtin.copy_ #[22, 22] 3 #[.slice (some ⟨g, 0, none⟩) n n, .slice (some ⟨b, p, none⟩) n2 cap']).run Tryd.prog w = .ok (goInt n) w' ∧ R6 w' g n S ∧ Only g w w' := by
  obtain ⟨h1, -, c, hc, hs, hv⟩ := hr
  obtain ⟨cs, hcs⟩ : ∃ cs : List Value, cs = (List.range n).map (fun i => Value.int .u16 ((S i : Nat) : Int)) := ⟨_, rfl⟩
  have hlen : cs.length = n := by rw [hcs]; simp
  have hget : ∀ j, j < n → cs[j]? = some (Value.int .u16 ((S j : Nat) : Int)) := fun j hj => by rw [hcs]; simp [hj]
  have hr := run_copy_row (P := Tryd.prog) w 22 22 3 26 g 0 n n ⟨b, p, none⟩ n2 cap' c 26 cs Tryd.underlying22 info_w6s hc (by rw [hlen]; exact (Nat.min_eq_right hn2).symm)
    (fun j u hu => by
      have hj : j < n := by
        rcases Nat.lt_or_ge j n with h9 | h9
        · exact h9
        · rw [List.getElem?_eq_none (by omega)] at hu; cases hu
      rw [hget j hj] at hu
      cases hu
      have ea : (⟨b, p, none⟩ : Addr).add j = ⟨b, p + j, none⟩ := by unfold Addr.add; split <;> simp_all
      rw [ea]
      exact hcell j hj) (by rw [hlen, hs]; omega) (fun u hu => by
      rw [hcs] at hu
      obtain ⟨x, _, rfl⟩ := List.mem_map.1 hu
      rfl)
  rw [hlen] at hr
  refine ⟨_, hr, ⟨h1, hS, _, setRow_heap _ _ _ _ _ _ hc, ?_, fun i hi => ?_⟩, (Only.refl _ _).setRow _⟩
  · simp [hlen, hs]
  · rw [List.getElem?_toArray]
    simp only [List.take_zero, List.nil_append]
    rw [List.getElem?_append_left (by rw [hlen]; exact hi)]
    exact hget i hi
theorem Cap.other {w w' : World} {b : Bool} {bl bd g N x : Nat} (h : Cap w b bl bd g N) (hk : Kp x w w') (h1 : bl ≠ x) (h2 : bd ≠ x) : Cap w' b bl bd g N :=
  ⟨(hk.cell h.ll h1).trans h.l, (hk.cell h.ld h2).trans h.d, h.nl, h.nd, Nat.lt_of_lt_of_le h.ll hk.size, Nat.lt_of_lt_of_le h.ld hk.size⟩
/-- Fold's state behind P pieces. -/
structure Fo (w0 w wr : World) (s k n ga gp bl bd : Nat) (F : Nat → Nat) (P : Nat) : Prop where
  bs : Bs w0 wr
  bel : Below w.heap.size w wr
  sum : R6 wr ga n (fd s k F P)
  pc : ∃ G, R6 wr gp n G
  cap : Cap wr true bl bd gp n
theorem fold_round {w0 w wr w1 : World} {s k n L ga gp bl bd P : Nat} {F : Nat → Nat} (h : Fo w0 w wr s k n ga gp bl bd F P) (hw : w0.heap.size ≤ w.heap.size) (ha : w.heap.size ≤ ga) (hp : w.heap.size ≤ gp) (hne : ga ≠ gp) (hl : bl ≠ ga) (hd : bd ≠ ga)
    (hk : k ≤ 16) (hn : n = 2 ^ k) (hL : (P + 1) * n ≤ L) (hs : s + L ≤ 65536) (hF : ∀ i, i < L → F i < 65536) (r1 : R6 w1 gp n (fun i => F (P * n + i))) (o1 : Only gp wr w1) {A : Nat} (hA : A = s + P * n) :
    Calls Tryd.prog 11 #[.int .i64 (n : Int), .int .i64 (A : Int), clL bl bd] w1 fun e w2 => e = .returned (.tuple #[]) ∧
      Calls Tryd.prog 22 #[.slice (some ⟨ga, 0, none⟩) n n, .slice (some ⟨gp, 0, none⟩) n n] w2 fun e w3 => e = .returned (.tuple #[]) ∧ Hid (Fo w0 w w3 s k n ga gp bl bd F (P + 1)) := by
  rw [Nat.add_mul, Nat.one_mul] at hL
  have bs1 := h.bs.kp o1.kp (Nat.le_trans hw hp)
  refine (invL14 w0 w1 k n A gp bl bd _ bs1 (Nat.le_trans hw hp) (h.cap.kp o1.kp) r1 hk hn (by omega)).mono fun e w2 ⟨he, r2, k2⟩ => ⟨he, ?_⟩
  have sum2 : R6 w2 ga n (fd s k F P) := (h.sum.kp o1.kp hne).kp k2 hne
  have q2 := r2.src (p := 0) (n := n) (by omega)
  refine (add14 _ _ ga n 0 n n gp 0 n _ (fun i => iw A (fun y => F (P * n + y)) k (0 + i)) w2 sum2 (by omega) (by have := hs; omega) (fun _ => rfl) (fun _ => rfl) (fun i hi => r2.2.1 (0 + i) (by omega)) q2 (.inl (Ne.symm hne))).mono fun e w3 ⟨he, r3, o3⟩ => ⟨he, ?_⟩
  have bs2 := bs1.kp k2 (Nat.le_trans hw hp)
  refine ⟨bs2.kp o3.kp (Nat.le_trans hw ha), ?_, r3.congr (fun i hi => ?_), ⟨_, r2.kp o3.kp (Ne.symm hne)⟩, ((h.cap.kp o1.kp).kp k2).other o3.kp hl hd⟩
  · have b1 := h.bel.trans (o1.kp.below hp h.bel.size)
    have b2 := b1.trans (k2.below hp b1.size)
    exact b2.trans (o3.kp.below ha b2.size)
  · show pl _ 0 n _ i = fd s k F P i ^^^ iw (s + P * 2 ^ k) (fun y => F (P * 2 ^ k + y)) k i
    have := pl_in (F := fd s k F P) (o := 0) (S := fun i => fd s k F P (0 + i) ^^^ iw A (fun y => F (P * n + y)) k (0 + i)) hi
    rw [Nat.zero_add] at this
    rw [this, hA, hn]
/-- two new rows. -/
theorem two_rows (n : Nat) (w : World) (hn : n ≤ 140737488355328) : R6 ((w.alloc (.cells (madeCells #[.int .u16 0] n) 26)).alloc (.cells (madeCells #[.int .u16 0] n) 26)).drew w.heap.size n (fun _ => 0) ∧ R6 ((w.alloc (.cells (madeCells #[.int .u16 0] n) 26)).alloc (.cells (madeCells #[.int .u16 0] n) 26)).drew (w.heap.size + 1) n (fun _ => 0) ∧
      Below w.heap.size w ((w.alloc (.cells (madeCells #[.int .u16 0] n) 26)).alloc (.cells (madeCells #[.int .u16 0] n) 26)).drew := by
  have r1 := made_r6 n hn w
  have b1 := made_b6 n w
  have r2 := made_r6 n hn (w.alloc (.cells (madeCells #[.int .u16 0] n) 26))
  have b2 := made_b6 n (w.alloc (.cells (madeCells #[.int .u16 0] n) 26))
  rw [show (w.alloc (.cells (madeCells #[.int .u16 0] n) 26)).heap.size = w.heap.size + 1 by simp] at r2
  exact ⟨(r1.below b2).drewN 1, r2.drewN 1, below_drewN (bthen13 b1 b2) 1⟩
theorem fold_nums {P J m n L s : Nat} (hL : L = J * n) (hn : 0 < n) (hm : m = P * n) (hlt : m < L) (hs : s + L ≤ 65536) : (P + 1) * n ≤ L ∧ P < J ∧ m + n = (P + 1) * n ∧ ((m : Nat) : Int) < (L : Int) ∧ n ≤ L - m ∧ m + n ≤ L := by
  have hj : P < J := by
    rcases Nat.lt_or_ge P J with h | h
    · exact h
    · have := Nat.mul_le_mul_right n h
      omega
  have h2 := Nat.mul_le_mul_right n (show P + 1 ≤ J from hj)
  have h3 : (P + 1) * n = P * n + n := by rw [Nat.add_mul, Nat.one_mul]
  exact ⟨by omega, hj, by omega, by omega, by omega, by omega⟩
theorem fold_wraps {A s m n L : Nat} (hA : A = s + m) (hs : s + L ≤ 65536) (hm : m + n ≤ L) : wrap64 ((s : Int) + (m : Int)) = (A : Int) ∧ wrap64 ((m : Int) + (n : Int)) = ((m + n : Nat) : Int) := by
  constructor
  · unfold wrap64; omega
  · unfold wrap64; omega
theorem meas_fold {m n L : Nat} (h : m < L) (h0 : 0 < n) : L - (intOf (Value.int .i64 ((m + n : Nat) : Int))).toNat < L - (intOf (Value.int .i64 (m : Int))).toNat := by
  simp only [intOf]; omega
end Go.Proofs.YtbcjpcdipcomiaaDoor
