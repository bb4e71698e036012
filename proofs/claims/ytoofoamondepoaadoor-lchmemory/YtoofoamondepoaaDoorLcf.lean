import Derived.Test.YtoofoamondepoaaDoorLce
namespace Go.Proofs.YtoofoamondepoaaDoor
open Go.RowKit Gf2
set_option linter.unusedVariables false
theorem R6.step {w : World} {g n j v : Nat} {A B : Nat → Nat} (h : R6 w g n (fun x => if x < j then A x else B x)) (hv : v < 65536) (e : v = A j) :
    R6 (w.setCell ⟨g, j, none⟩ (.int .u16 ((v : Nat) : Int))) g n (fun x => if x < j + 1 then A x else B x) :=
  (h.set j v hv).congr (fun x _ => by
    by_cases e1 : x = j
    · subst e1
      rw [if_pos rfl, if_pos (Nat.lt_succ_self _), e]
    · rw [if_neg e1]
      by_cases e2 : x < j
      · rw [if_pos e2, if_pos (by omega)]
      · rw [if_neg e2, if_neg (by omega)])
theorem R6.skip {w : World} {g n j : Nat} {A B : Nat → Nat} (h : R6 w g n (fun x => if x < j then A x else B x)) (e : B j = A j) : R6 w g n (fun x => if x < j + 1 then A x else B x) :=
  h.congr (fun x _ => by
    by_cases e1 : x = j
    · subst e1
      rw [if_neg (Nat.lt_irrefl _), if_pos (Nat.lt_succ_self _), e]
    · by_cases e2 : x < j
      · rw [if_pos e2, if_pos (by omega)]
      · rw [if_neg e2, if_neg (by omega)])
theorem R6.done {w : World} {g n : Nat} {A B : Nat → Nat} (h : R6 w g n (fun x => if x < n then A x else B x)) : R6 w g n A := h.congr (fun x hx => if_pos hx)
theorem R6.begin {w : World} {g n : Nat} {A B : Nat → Nat} (h : R6 w g n B) : R6 w g n (fun x => if x < 0 then A x else B x) := h.congr (fun x _ => (if_neg (Nat.not_lt_zero _)).symm)
theorem R6.drew {w : World} {g N : Nat} {F : Nat → Nat} (h : R6 w g N F) : R6 w.drew g N F := ⟨h.1, h.2.1, h.2.2.drew⟩
theorem dvs_yes {i j : Nat} {F : Nat → Nat} {P : Nat} (hP : P = 2 ^ i) (h : j / 2 ^ i % 2 = 0) : dvs i F j ^^^ F (j + P) = dvs (i + 1) F j := by subst hP; unfold dvs; rw [if_pos h]; cases i <;> rfl
theorem dvs_no {i j : Nat} {F : Nat → Nat} (h : ¬ j / 2 ^ i % 2 = 0) : dvs i F j = dvs (i + 1) F j := by
  show _ = dvs i F j ^^^ (if j / 2 ^ i % 2 = 0 then F (j + 2 ^ i) else 0)
  rw [if_neg h, Nat.xor_zero]
theorem wrap_k {x y : Int} (h : wrap64 x = y) : IntKind.i64.wrap x = y := by rw [IntKind.wrap_i64]; unfold wrap64 at h; exact h
theorem wrap_add13 {j P n : Nat} (h : j + P < n) (hn : n ≤ 65536) : wrap64 ((j : Int) + (P : Int)) = (j : Int) + (P : Int) ∧ (j : Int) + (P : Int) < (n : Int) := by unfold wrap64; omega
set_option maxHeartbeats 4000000 in
set_option maxRecDepth 100000 in
theorem derivative13_yes (v : Value) (k n : Nat) (F : Nat → Nat) (hn : n = 2 ^ k) (hk : k ≤ 16) (w : World) (h : Q6 w v n F) (hT : Tzt w) :
    Calls Tryd.prog 12 #[v] w fun e w' => e = .returned (.tuple #[.slice (some ⟨w.heap.size, 0, none⟩) n n, .int .i64 0]) ∧ R6 w' w.heap.size n (dvs k F) ∧ Below w.heap.size w w' := by
  have hn2 : n ≤ 65536 := by rw [hn]; exact Nat.pow_le_pow_right (by decide) hk
  have h0 : 0 < n := by rw [hn]; exact Nat.two_pow_pos k
  obtain ⟨hb0, hF, a, cap, rfl, hc1, hc2, h4⟩ := h
  obtain ⟨b, o, rfl, hbl, hcell⟩ := h4 h0
  have c1 : Calls Tryd.prog 24 #[.int .i64 (n : Int), .int .i64 65536] w fun e w' => e = .returned (.bool true) ∧ w' = w := isPower_yes k n 65536 hn hn2 (Nat.le_refl _) w
  have hmk := make_w6 n (by omega)
  have b0 := made_b6 n w
  have c2 := levels13 k n (by omega) hn (some ⟨b, o, none⟩) cap _ (hT.below b0)
  have HN : Hid (n = 2 ^ k ∧ n ≤ 65536 ∧ 0 < n ∧ k ≤ 16) := ⟨hn, hn2, h0, hk⟩
  have HF : Hid (∀ j, j < n → F j < 65536) := hF
  have HC : Hid (∀ i, i < n → w.cell? ⟨b, o + i, none⟩ = some (.int .u16 (F i : Nat))) := hcell
  have HB : Hid (b < w.heap.size) := hbl
  have R0 : Hid (R6 (w.alloc (.cells (madeCells #[.int .u16 0] n) 26)) w.heap.size n (fun _ => 0)) := made_r6 n (by omega) w
  have B0 : Hid (Below w.heap.size w (w.alloc (.cells (madeCells #[.int .u16 0] n) 26))) := b0
  clear hn hn2 h0 hk hF hcell hbl h4 hT hc1 hc2 hb0 b0
  go_enter Tryd.func12, Tryd.ntmps12
  go_wp2_with (first | (go_at_call 24; ((with_reducible refine (c1).mono ?_); (rintro e w9 ⟨rfl, hw9⟩; have hw9 := hw9.symm; subst hw9))) | (go_at_call 26; ((with_reducible refine (c2).mono ?_); (rintro e w9 ⟨rfl, hw9⟩; have hw9 := hw9.symm; subst hw9))))
  clear hmk c1 c2
  go_loopw [16] (fun iv wr => ∃ i : Nat, i ≤ k ∧ iv = .int .i64 i ∧ R6 wr w.heap.size n (dvs i F) ∧ Below w.heap.size w wr) (fun iv _ => k - (intOf iv).toNat)
  case atStart => exact ⟨0, Nat.zero_le _, rfl, R0.out, B0.out⟩
  case round =>
    obtain ⟨i, hi, rfl, hr, hb⟩ := hrel
    by_cases hlt : i < k
    · have ib : ((i : Nat) : Int) < (k : Int) := by omega
      have W1 := wrap_succ8 (j := i) (by have := HN.out.2.2.2; unfold big; omega)
      have HR : Hid (R6 wr w.heap.size n (dvs i F) ∧ Below w.heap.size w wr) := ⟨hr, hb⟩
      have i16 : i < 16 := by have := HN.out.2.2.2; omega
      have M : min i 64 = i := by omega
      clear hr hb
      go_wp2
      go_loopw [21] (fun jv wq => ∃ j : Nat, j ≤ n ∧ jv = .int .i64 j ∧ R6 wq w.heap.size n (fun x => if x < j then dvs (i + 1) F x else dvs i F x) ∧ Below w.heap.size w wq) (fun jv _ => n - (intOf jv).toNat)
      case atStart => exact ⟨0, Nat.zero_le _, rfl, HR.out.1.congr (fun x _ => (if_neg (Nat.not_lt_zero _)).symm), HR.out.2⟩
      case round =>
        obtain ⟨j, hj, rfl, hr, hb⟩ := hrel
        by_cases hjt : j < n
        · have jb : ((j : Nat) : Int) < (n : Int) := by omega
          have W2 := wrap_succ8 (j := j) (by have := HN.out.2.1; unfold big; omega)
          have A1 := i64_andH j i (by have := HN.out.2.1; omega)
          by_cases hbit : j / 2 ^ i % 2 = 0
          · have hup : j + 2 ^ i < n := by rw [HN.out.1]; exact up_lt hlt (by rw [← HN.out.1]; exact hjt) hbit
            obtain ⟨P, hP⟩ : ∃ P, P = 2 ^ i := ⟨_, rfl⟩
            have hP0 : 0 < P := by rw [hP]; exact Nat.two_pow_pos i
            have E : wrap64 (2 ^ i) = (P : Int) := by
              have e : ((2 : Int) ^ i) = ((2 ^ i : Nat) : Int) := by simp
              have := HN.out.2.1
              rw [← hP] at hup
              rw [e, ← hP]; unfold wrap64; omega
            rw [hbit] at A1
            have q1 := hr.2.2.cell hjt
            simp only [Nat.lt_irrefl, if_false] at q1
            have q2 := hr.2.2.frozen j
            have q3 : wr.cell? ⟨b, o + (j + P), none⟩ = some (.int .u16 (F (j + P) : Nat)) := by
              rw [hP]
              exact (hb.cell (p := ⟨b, o + (j + 2 ^ i), none⟩) HB.out).trans (HC.out _ hup)
            have l1 : dvs i F j < 65536 := dvs_lt (k := k) (fun x hx => HF.out x (by rw [HN.out.1]; exact hx)) i (by omega) j (by rw [← HN.out.1]; exact hjt)
            have l2 : F (j + P) < 65536 := HF.out _ (by rw [hP]; exact hup)
            have X := u16_xor_nat (dvs i F j) (F (j + P)) l1 l2
            have lx : dvs i F j ^^^ F (j + P) < 65536 := Nat.xor_lt_two_pow (n := 16) l1 l2
            have hup' : j + P < n := hP ▸ hup
            obtain ⟨W3, jb3⟩ := wrap_add13 hup' HN.out.2.1
            obtain ⟨J, hJ⟩ : ∃ J, J = j + P := ⟨_, rfl⟩
            rw [show (j : Int) + (P : Int) = (J : Int) by rw [hJ]; rfl] at jb3
            have W4 : wrap64 ((j : Int) + (P : Int)) = (J : Int) := by rw [W3, hJ]; rfl
            have E2 := wrap_k E
            have W5 := wrap_k W4
            clear W3
            rw [← hJ] at q3 l2 X lx
            have HV : Hid (R6 (wr.setCell ⟨w.heap.size, j, none⟩ (.int .u16 ((dvs i F j ^^^ F J : Nat) : Int))) w.heap.size n (fun x => if x < j + 1 then dvs (i + 1) F x else dvs i F x) ∧ Below w.heap.size w (wr.setCell ⟨w.heap.size, j, none⟩ (.int .u16 ((dvs i F j ^^^ F J : Nat) : Int)))) := ⟨hr.step lx (hJ ▸ dvs_yes hP hbit), hb.setCell (Nat.le_refl _) _⟩
            obtain ⟨D, hD⟩ : ∃ D, D = dvs i F j := ⟨_, rfl⟩
            obtain ⟨G, hG⟩ : ∃ G, G = F J := ⟨_, rfl⟩
            rw [← hD, ← hG] at X HV
            rw [← hD] at q1
            rw [← hG] at q3
            clear hr hb hup hup' l1 l2 lx hbit hP hD hG hJ
            go_wp2
            refine region_tail13 13 (by kernel_rfl) (by kernel_rfl) ?_
            simp only [List.take_succ_cons, List.take_zero, List.drop_succ_cons, List.drop_zero]
            repeat still_step
            refine wpStill_nil ?_
            go_wp2
            go_roundw
            case rel => exact ⟨j + 1, hjt, by first | rfl | (rw [W2]; rfl), ⟨HV.out.1.1, HV.out.1.2.1, HV.out.1.2.2.drew⟩, HV.out.2.drew⟩
            case measure => first | exact meas_lt8 hjt | (rw [W2]; exact meas_lt8 hjt)
          · have hb1 : j / 2 ^ i % 2 = 1 := by omega
            rw [hb1] at A1
            have HV : Hid (R6 wr w.heap.size n (fun x => if x < j + 1 then dvs (i + 1) F x else dvs i F x) ∧ Below w.heap.size w wr) := ⟨hr.skip (dvs_no hbit), hb⟩
            clear hr hb hbit hb1
            go_wp2
            go_roundw
            case rel => exact ⟨j + 1, hjt, by first | rfl | (rw [W2]; rfl), HV.out.1, HV.out.2⟩
            case measure => first | exact meas_lt8 hjt | (rw [W2]; exact meas_lt8 hjt)
        · have hjn : j = n := by omega
          subst hjn
          have HV : Hid (R6 wr w.heap.size j (dvs (i + 1) F) ∧ Below w.heap.size w wr) := ⟨hr.congr (fun x hx => if_pos hx), hb⟩
          clear hr hb
          go_wp2
          go_roundw
          case rel => exact ⟨i + 1, hlt, by first | rfl | (rw [W1]; rfl), HV.out.1, HV.out.2⟩
          case measure => first | exact meas_lt8 hlt | (rw [W1]; exact meas_lt8 hlt)
    · have hik : i = k := by omega
      subst hik
      have HV : Hid (R6 wr w.heap.size n (dvs i F) ∧ Below w.heap.size w wr) := ⟨hr, hb⟩
      clear hr hb
      go_wp2
      go_ret2
      exact ⟨rfl, HV.out⟩
set_option maxHeartbeats 4000000 in
set_option maxRecDepth 100000 in
theorem derivative13_no (v : Value) (n : Nat) (F : Nat → Nat) (w : World) (h : Q6 w v n F) (hn : ¬ pw2 n 65536) :
    Calls Tryd.prog 12 #[v] w fun e w' => e = .returned (.tuple #[.slice none 0 0, .int .i64 130]) ∧ w' = w := by
  obtain ⟨hb0, hF, a, cap, rfl, hc1, hc2, h4⟩ := h
  have c1 : Calls Tryd.prog 24 #[.int .i64 (n : Int), .int .i64 65536] w fun e w' => e = .returned (.bool false) ∧ w' = w := isPower_no n 65536 hn (Nat.le_refl _) hb0 w
  clear hb0 hF hc1 hc2 h4 hn
  go_enter Tryd.func12, Tryd.ntmps12
  go_wp2_with (go_at_call 24; ((with_reducible refine (c1).mono ?_); rintro e w' ⟨rfl, rfl⟩))
  go_ret2
  exact ⟨rfl, rfl⟩
end Go.Proofs.YtoofoamondepoaaDoor
