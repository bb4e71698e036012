import Derived.Test.YtidcdbjhkgpjcaaDoorTj5
namespace Go.Proofs.YtidcdbjhkgpjcaaDoor
open Go.RowKit Gf2
set_option linter.unusedVariables false

theorem elem_w6 : Tryd.prog.elem 27 = 26 := by kernel_rfl
theorem size_w6 (W : World) : (sizeOf 26).run Tryd.prog W = .ok 1 W := by
  obtain ⟨i, hi, -, hs, -⟩ := info_w6a
  simp [sizeOf, typeInfo, hi, hs]
/-- a piece of a list of words. -/
theorem run_cut6 (x : Option Addr) (n cx f t : Nat) (hft : f ≤ t) (ht : t ≤ cx) (W : World) :
    (Instr.slice 27 (.slice x n cx) (some (.int .i64 (f : Int))) (some (.int .i64 (t : Int))) none).run Tryd.prog W = .ok (.slice (if cx = f then x else x.map (·.add f)) (t - f) (cx - f)) W := by
  have hu : Tryd.prog.underlying 27 = some (.slice (Tryd.prog.elem 27)) := by rw [elem_w6]; exact Tryd.underlying27
  have h := run_slice_lh (P := Tryd.prog) (w := W) 27 x n cx hu .i64 .i64 (f : Int) (t : Int) (by omega) (by omega) (by omega)
  rw [h, elem_w6, size_w6]
  simp only [Result.andThen, sliced, Int.toNat_natCast, Nat.mul_one]
theorem cut6 (b o n cx f t : Nat) (hft : f < t) (ht : t ≤ n) (hn : n ≤ cx) (W : World) :
    (Instr.slice 27 (.slice (some ⟨b, o, none⟩) n cx) (some (.int .i64 (f : Int))) (some (.int .i64 (t : Int))) none).run Tryd.prog W = .ok (.slice (some ⟨b, o + f, none⟩) (t - f) (cx - f)) W := by
  rw [run_cut6 _ _ _ _ _ (by omega) (by omega), if_neg (by omega)]
  show Result.ok (Value.slice (some ((⟨b, o, none⟩ : Addr).add f)) (t - f) (cx - f)) W = _
  rw [Addr.add_lit]
/-- x[lo:]. -/
theorem from6 (b o L C lo : Nat) (hb : lo < L) (hL : L ≤ C) (W : World) : (Instr.slice 27 (.slice (some ⟨b, o, none⟩) L C) (some (.int .i64 (lo : Int))) none none).run Tryd.prog W = .ok (.slice (some ⟨b, o + lo, none⟩) (L - lo) (C - lo)) W := by
  have h := run_slice_l (P := Tryd.prog) (w := W) 27 (some ⟨b, o, none⟩) L C (by rw [elem_w6]; exact Tryd.underlying27) .i64 (lo : Int) (by omega) (by omega)
  rw [h, elem_w6, size_w6]
  have e2 : (lo : Int).toNat = lo := by omega
  simp only [Result.andThen, sliced, e2, Nat.mul_one]
  rw [if_neg (by omega)]
  show Result.ok (Value.slice (some ((⟨b, o, none⟩ : Addr).add lo)) _ _) W = _
  rw [Addr.add_lit]
/-- x[:m]. -/
theorem head6 (b o n cx m : Nat) (hm : m ≤ cx) (W : World) : (Instr.slice 27 (.slice (some ⟨b, o, none⟩) n cx) none (some (.int .i64 (m : Int))) none).run Tryd.prog W = .ok (.slice (some ⟨b, o, none⟩) m cx) W := by
  have hu : Tryd.prog.underlying 27 = some (.slice (Tryd.prog.elem 27)) := by rw [elem_w6]; exact Tryd.underlying27
  have h := run_slice_h (P := Tryd.prog) (w := W) 27 (some ⟨b, o, none⟩) n cx hu .i64 (m : Int) (by omega) (by omega)
  have e : (if cx = 0 then some (⟨b, o, none⟩ : Addr) else (some (⟨b, o, none⟩ : Addr)).map (·.add 0)) = some ⟨b, o, none⟩ := by
    split
    · rfl
    · show some ((⟨b, o, none⟩ : Addr).add 0) = _
      rw [Addr.add_lit]; rfl
  rw [h, elem_w6, size_w6]
  simp only [Result.andThen, sliced, Int.toNat_natCast, Nat.zero_mul, Nat.sub_zero, e]

/-- the first T rounds of spread. -/
def spr (o i j : Nat) : Nat → (Nat → Nat) → Nat → Nat
  | 0, F => F
  | t + 1, F => if oc t i = 1 then (fun x => if x = o + (j + 2 ^ t) then spr o i j t F (o + (j + 2 ^ t)) ^^^ spr o i j t F (o + (j + 2 ^ i)) else spr o i j t F x) else spr o i j t F
theorem pow_cast {t : Nat} {A : Nat} (h : A = 2 ^ t) (hA : A ≤ 65536) : wrap64 (2 ^ t) = (A : Int) := by
  have e : ((2 : Int) ^ t) = ((2 ^ t : Nat) : Int) := by simp
  rw [e, ← h]; unfold wrap64; omega
theorem wrap_add_eq {a b c : Nat} (h : c = a + b) (hc : c ≤ 131072) : wrap64 ((a : Int) + (b : Int)) = (c : Int) := by unfold wrap64; omega
theorem spr_nums {j A B L o N JA JB : Nat} (hB : B ≤ 32768) (hAB : A < B) (hj : j < B) (hL : L = 2 * B) (hoL : o + L ≤ N) (hA : JA = j + A) (hJB : JB = j + B) :
    A ≤ 65536 ∧ JA ≤ 131072 ∧ JB ≤ 131072 ∧ ((JA : Nat) : Int) < (L : Int) ∧ ((JB : Nat) : Int) < (L : Int) ∧ o + JA < N ∧ o + JB < N := by omega
set_option maxHeartbeats 4000000 in
set_option maxRecDepth 100000 in
theorem spread13 (g N o i j B L cap : Nat) (F : Nat → Nat) (w : World) (hi : i ≤ 15) (hB : B = 2 ^ i) (hj : j < B) (hL : L = 2 * B) (hoL : o + L ≤ N) (hR : R6 w g N F) :
    Calls Tryd.prog 59 #[.slice (some ⟨g, o, none⟩) L cap, .int .i64 (i : Int), .int .i64 (j : Int)] w fun e w' => e = .returned (.tuple #[]) ∧ R6 w' g N (spr o i j i F) ∧ Only g w w' := by
  have hB2 : B ≤ 32768 := by rw [hB]; exact Nat.pow_le_pow_right (by decide) hi
  have E1 := pow_cast hB (by omega)
  have HN : Hid (B = 2 ^ i ∧ B ≤ 32768 ∧ j < B ∧ L = 2 * B ∧ o + L ≤ N) := ⟨hB, hB2, hj, hL, hoL⟩
  have HR : Hid (R6 w g N F) := hR
  have M : min i 64 = i := by omega
  clear hB hB2 hj hL hoL hR
  go_enter Tryd.func59, Tryd.ntmps59
  go_wp2
  go_loopw [8] (fun tv wr => ∃ t : Nat, t ≤ i ∧ tv = .int .i64 t ∧ R6 wr g N (spr o i j t F) ∧ Only g w wr) (fun tv _ => i - (intOf tv).toNat)
  case atStart => exact ⟨0, Nat.zero_le _, rfl, HR.out, Only.refl _ _⟩
  case round =>
    obtain ⟨t, ht, rfl, hr, hb⟩ := hrel
    by_cases hlt : t < i
    · have c2 := occurs13 t i (by omega) (by omega) wr
      have tb : ((t : Nat) : Int) < (i : Int) := by omega
      have W1 := wrap_succ8 (j := t) (by unfold big; omega)
      rcases oc_bit t i with ho | ho
      · rw [ho, show decide (0 = 1) = false by decide] at c2
        have HV : Hid (R6 wr g N (spr o i j (t + 1) F) ∧ Only g w wr) := ⟨by rw [spr, if_neg (by omega)]; exact hr, hb⟩
        clear hr hb ho
        go_wp2_with (go_at_call 26; ((with_reducible refine (c2).mono ?_); (rintro e w9 ⟨rfl, hw9⟩; have hw9 := hw9.symm; subst hw9)))
        go_roundw
        case rel => exact ⟨t + 1, hlt, by first | rfl | (rw [W1]; rfl), HV.out.1, HV.out.2⟩
        case measure => first | exact meas_lt8 hlt | (rw [W1]; exact meas_lt8 hlt)
      · rw [ho, show decide (1 = 1) = true by decide] at c2
        obtain ⟨n1, n2, n3, n4, n5⟩ := HN.out
        obtain ⟨A, hA⟩ : ∃ A, A = 2 ^ t := ⟨_, rfl⟩
        have hAB : A < B := by rw [hA, n1]; exact Nat.pow_lt_pow_right (by decide) hlt
        obtain ⟨JA, hJA⟩ : ∃ JA, JA = j + A := ⟨_, rfl⟩
        obtain ⟨JB, hJB⟩ : ∃ JB, JB = j + B := ⟨_, rfl⟩
        obtain ⟨m1, m2, m3, jb1, jb2, m4, m5⟩ := spr_nums n2 hAB n3 n4 n5 hJA hJB
        have E2 := pow_cast hA m1
        have W2 := wrap_add_eq hJA m2
        have W3 := wrap_add_eq hJB m3
        have E3 := wrap_k E1
        have E4 := wrap_k E2
        have W4 := wrap_k W2
        have W5 := wrap_k W3
        have M2 : min t 64 = t := Nat.min_eq_left (Nat.le_trans ht (Nat.le_trans hi (by decide)))
        have l1 := hr.2.1 (o + JA) m4
        have l2 := hr.2.1 (o + JB) m5
        have q1 := hr.2.2.cell (i := o + JA) m4
        have q2 := hr.2.2.frozen (o + JA)
        have q3 := hr.2.2.cell (i := o + JB) m5
        have lx := Nat.xor_lt_two_pow (n := 16) l1 l2
        have HV : Hid (R6 (wr.setCell ⟨g, o + JA, none⟩ (.int .u16 ((spr o i j t F (o + JA) ^^^ spr o i j t F (o + JB) : Nat) : Int))) g N (spr o i j (t + 1) F) ∧ Only g w (wr.setCell ⟨g, o + JA, none⟩ (.int .u16 ((spr o i j t F (o + JA) ^^^ spr o i j t F (o + JB) : Nat) : Int)))) :=
          ⟨by rw [spr, if_pos ho, ← hA, ← n1, ← hJA, ← hJB]; exact hr.set _ _ lx, hb.setCell _ _⟩
        have X := u16_xor_nat (spr o i j t F (o + JA)) (spr o i j t F (o + JB)) l1 l2
        obtain ⟨D, hD⟩ : ∃ D, D = spr o i j t F (o + JA) := ⟨_, rfl⟩
        obtain ⟨G, hG⟩ : ∃ G, G = spr o i j t F (o + JB) := ⟨_, rfl⟩
        rw [← hD, ← hG] at X HV
        rw [← hD] at q1
        rw [← hG] at q3
        clear hr hb ho n1 n2 n3 n4 n5 m1 m2 m3 m4 m5 hA hAB hJA hJB l1 l2 lx hD hG
        go_wp2_with (go_at_call 26; ((with_reducible refine (c2).mono ?_); (rintro e w9 ⟨rfl, hw9⟩; have hw9 := hw9.symm; subst hw9)))
        refine region_tail13 16 (by kernel_rfl) (by kernel_rfl) ?_
        simp only [List.take_succ_cons, List.take_zero, List.drop_succ_cons, List.drop_zero]
        repeat still_step
        refine wpStill_nil ?_
        go_wp2
        go_roundw
        case rel => exact ⟨t + 1, hlt, by first | rfl | (rw [W1]; rfl), HV.out.1.drew, HV.out.2.drew⟩
        case measure => first | exact meas_lt8 hlt | (rw [W1]; exact meas_lt8 hlt)
    · have hti : t = i := by omega
      subst hti
      have HV : Hid (R6 wr g N (spr o t j t F) ∧ Only g w wr) := ⟨hr, hb⟩
      clear hr hb
      go_wp2
      ((try simp only [Exit.inBlock, Exit.then]); first | (refine bodyPost_ret (results_none rfl _ _ _) rfl ?_) | (refine bodyPost_end (results_none rfl _ _ _) rfl ?_))
      exact ⟨rfl, HV.out⟩
/-- J rounds of multiply. -/
def mlp (o i : Nat) : Nat → (Nat → Nat) → Nat → Nat
  | 0, F => F
  | J + 1, F => spr o i J i (mlp o i J F)
/-- c rounds of divide. -/
def dvp (o i B : Nat) : Nat → (Nat → Nat) → Nat → Nat
  | 0, F => F
  | c + 1, F => spr o i (B - 1 - c) i (dvp o i B c F)
set_option maxHeartbeats 4000000 in
set_option maxRecDepth 100000 in
theorem multiply13 (g N o i B L cap : Nat) (F : Nat → Nat) (w : World) (hi : i ≤ 15) (hB : B = 2 ^ i) (hL : L = 2 * B) (hoL : o + L ≤ N) (hR : R6 w g N F) :
    Calls Tryd.prog 48 #[.slice (some ⟨g, o, none⟩) L cap, .int .i64 (i : Int)] w fun e w' => e = .returned (.tuple #[]) ∧ R6 w' g N (mlp o i B F) ∧ Only g w w' := by
  have hB2 : B ≤ 32768 := by rw [hB]; exact Nat.pow_le_pow_right (by decide) hi
  have E1 := pow_cast hB (by omega)
  have HN : Hid (B = 2 ^ i ∧ B ≤ 32768 ∧ L = 2 * B ∧ o + L ≤ N) := ⟨hB, hB2, hL, hoL⟩
  have HR : Hid (R6 w g N F) := hR
  have M : min i 64 = i := by omega
  clear hB hB2 hL hoL hR
  go_enter Tryd.func48, Tryd.ntmps48
  go_wp2
  rw [E1]
  go_loopw [7] (fun tv wr => ∃ t : Nat, t ≤ B ∧ tv = .int .i64 t ∧ R6 wr g N (mlp o i t F) ∧ Only g w wr) (fun tv _ => B - (intOf tv).toNat)
  case atStart => exact ⟨0, Nat.zero_le _, rfl, HR.out, Only.refl _ _⟩
  case round =>
    obtain ⟨t, ht, rfl, hr, hb⟩ := hrel
    by_cases hlt : t < B
    · have c2 := spread13 g N o i t B L cap (mlp o i t F) wr hi HN.out.1 hlt HN.out.2.2.1 HN.out.2.2.2 hr
      have tb : ((t : Nat) : Int) < (B : Int) := by omega
      have W1 := wrap_succ8 (j := t) (by have := HN.out.2.1; unfold big; omega)
      have HO : Hid (Only g w wr) := hb
      clear hr hb
      go_wp2_with (go_at_call 59; ((with_reducible refine (c2).mono ?_); (rintro e w9 ⟨rfl, hr9, ho9⟩; have HV : Hid (R6 w9 g N (mlp o i (t + 1) F) ∧ Only g w w9) := ⟨hr9, HO.out.trans ho9⟩; clear hr9 ho9)))
      go_roundw
      case rel => first | exact ⟨t + 1, hlt, by first | rfl | (rw [W1]; rfl), HV.out.1, HV.out.2⟩ | (rw [W1]; (repeat apply Exists.intro); exact ⟨⟨t + 1, hlt, rfl, HV.out.1, HV.out.2⟩, rfl⟩)
      case measure => first | exact meas_lt8 hlt | (rw [W1]; exact meas_lt8 hlt)
    · have hti : t = B := by omega
      subst hti
      have HV : Hid (R6 wr g N (mlp o i t F) ∧ Only g w wr) := ⟨hr, hb⟩
      clear hr hb
      go_wp2
      ((try simp only [Exit.inBlock, Exit.then]); first | (refine bodyPost_ret (results_none rfl _ _ _) rfl ?_) | (refine bodyPost_end (results_none rfl _ _ _) rfl ?_))
      exact ⟨rfl, HV.out⟩
set_option maxHeartbeats 4000000 in
set_option maxRecDepth 100000 in
theorem divide13 (g N o i B L cap : Nat) (F : Nat → Nat) (w : World) (hi : i ≤ 15) (hB : B = 2 ^ i) (hL : L = 2 * B) (hoL : o + L ≤ N) (hR : R6 w g N F) :
    Calls Tryd.prog 49 #[.slice (some ⟨g, o, none⟩) L cap, .int .i64 (i : Int)] w fun e w' => e = .returned (.tuple #[]) ∧ R6 w' g N (dvp o i B B F) ∧ Only g w w' := by
  have hB2 : B ≤ 32768 := by rw [hB]; exact Nat.pow_le_pow_right (by decide) hi
  have E1 := pow_cast hB (by omega)
  have W0 : wrap64 ((B : Int) - 1) = (B : Int) - 1 := by unfold wrap64; omega
  have HN : Hid (B = 2 ^ i ∧ B ≤ 32768 ∧ L = 2 * B ∧ o + L ≤ N) := ⟨hB, hB2, hL, hoL⟩
  have HR : Hid (R6 w g N F) := hR
  have M : min i 64 = i := by omega
  clear hB hB2 hL hoL hR
  go_enter Tryd.func49, Tryd.ntmps49
  go_wp2
  simp only [E1, W0]
  go_loopw [4] (fun tv wr => ∃ (c J : Nat) (v : Int), c + J = B ∧ v + 1 = (J : Int) ∧ tv = .int .i64 v ∧ R6 wr g N (dvp o i B c F) ∧ Only g w wr) (fun tv _ => (intOf tv + 1).toNat)
  case atStart => exact ⟨0, B, (B : Int) - 1, Nat.zero_add _, by omega, rfl, HR.out, Only.refl _ _⟩
  case round =>
    obtain ⟨c, J, v, hcJ, hv, rfl, hr, hb⟩ := hrel
    cases J with
    | succ K =>
      obtain rfl : v = (K : Int) := by omega
      have eK : B - 1 - c = K := by omega
      have c2 := spread13 g N o i K B L cap (dvp o i B c F) wr hi HN.out.1 (by omega) HN.out.2.2.1 HN.out.2.2.2 hr
      have W1 : wrap64 ((K : Int) - 1) = (K : Int) - 1 := by have := HN.out.2.1; unfold wrap64; omega
      have HO : Hid (Only g w wr) := hb
      have HE : Hid (B - 1 - c = K) := eK
      clear hr hb eK hv
      go_wp2_with (go_at_call 59; ((with_reducible refine (c2).mono ?_); (rintro e w9 ⟨rfl, hr9, ho9⟩; have HV : Hid (R6 w9 g N (dvp o i B (c + 1) F) ∧ Only g w w9) := ⟨by rw [dvp, HE.out]; exact hr9, HO.out.trans ho9⟩; clear hr9 ho9)))
      go_roundw
      case rel => exact ⟨c + 1, K, (K : Int) - 1, by omega, by omega, by first | rfl | rw [W1], HV.out.1, HV.out.2⟩
      case measure => simp [intOf]; omega
    | zero =>
      obtain rfl : v = -1 := by omega
      obtain rfl : c = B := by omega
      have HV : Hid (R6 wr g N (dvp o i c c F) ∧ Only g w wr) := ⟨hr, hb⟩
      clear hr hb hv
      go_wp2
      ((try simp only [Exit.inBlock, Exit.then]); first | (refine bodyPost_ret (results_none rfl _ _ _) rfl ?_) | (refine bodyPost_end (results_none rfl _ _ _) rfl ?_))
      exact ⟨rfl, HV.out⟩
end Go.Proofs.YtidcdbjhkgpjcaaDoor
