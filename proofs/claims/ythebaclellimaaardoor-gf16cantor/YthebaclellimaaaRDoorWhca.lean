import Derived.Test.YthebaclellimaaaRDoorWhtr
namespace Go.Proofs.YthebaclellimaaaRDoor
open Go.RowKit Gf2

theorem bthen {w a b : World} (h : Below w.heap.size w a) (k : Below a.heap.size a b) : Below w.heap.size w b := h.trans (k.mono h.size)
theorem mask_i64 (k : Nat) (hk : k ≤ 62) (n : Int) (m : Nat) (hm : m = 2 ^ k - 1) : bits BinOp.and IntKind.i64 n (m : Int) = n % (2 ^ k : Nat) := by
  have hp : 2 ^ k ≤ 2 ^ 62 := Nat.pow_le_pow_right (by decide) hk
  have hp0 := Nat.two_pow_pos k
  have h127 : (BitVec.ofInt 64 (m : Int)).toNat = 2 ^ k - 1 := by rw [hm, ofInt_u64 _ (by omega)]
  have key : (BitVec.ofInt 64 n &&& BitVec.ofInt 64 (m : Int)).toNat = (n % ((2 ^ 64 : Nat) : Int)).toNat % 2 ^ k := by
    rw [BitVec.toNat_and, BitVec.toNat_ofInt, h127, Nat.and_two_pow_sub_one_eq_mod]
  show IntKind.i64.wrap ((BitVec.ofInt 64 n &&& BitVec.ofInt 64 (m : Int)).toNat : Nat) = _
  rw [key]
  have hd : ((2 ^ k : Nat) : Int) ∣ ((2 ^ 64 : Nat) : Int) := Int.natCast_dvd_natCast.2 (Nat.pow_dvd_pow 2 (by omega))
  have h1 : (((n % ((2 ^ 64 : Nat) : Int)).toNat % 2 ^ k : Nat) : Int) = n % ((2 ^ k : Nat) : Int) := by
    rw [Int.natCast_emod, Int.toNat_of_nonneg (Int.emod_nonneg _ (by decide)), Int.emod_emod_of_dvd _ hd]
  rw [h1, IntKind.wrap_i64]
  have h2 : 0 ≤ n % ((2 ^ k : Nat) : Int) := Int.emod_nonneg _ (by omega)
  have h3 : n % ((2 ^ k : Nat) : Int) < ((2 ^ k : Nat) : Int) := Int.emod_lt_of_pos _ (by omega)
  generalize n % ((2 ^ k : Nat) : Int) = x at *
  generalize (2 : Nat) ^ k = q at *
  omega

theorem ew_nat {n : Nat} (h : n ≤ 65535) : ew (n : Int) = we n ∧ ee (n : Int) = 0 := by
  unfold ew ee
  rw [if_pos (by omega), if_pos (by omega)]
  exact ⟨rfl, rfl⟩
theorem ew_out {n : Int} (h : ¬ (0 ≤ n ∧ n ≤ 65535)) : ew n = 0 ∧ ee n = 31 := by
  unfold ew ee
  rw [if_neg h, if_neg h]
  exact ⟨rfl, rfl⟩

set_option maxHeartbeats 4000000 in
set_option maxRecDepth 100000 in
theorem indexed_any (a : Nat) (n : Int) (w : World) (ha : a < 65536) (hC : Cant w) :
    Calls Tryd.prog 13 #[.int .u16 (a : Int), .int .i64 n] w fun e w' => e = .returned (.bool true) ∧ w' = afterB w := by
  have c1 := hbasis_any w hC
  have hC1 := hC.afterB
  have hnew := afterB_new w
  obtain ⟨v, hv⟩ : ∃ v, v = afterB w := ⟨_, rfl⟩
  rw [← hv] at hC1 hnew c1 ⊢
  clear hv
  have c2 := hindex_nat a v ha hC1
  have hl := wi_lt a
  have c3 := helement_int (wi a : Nat) v hC1
  rw [(ew_nat (n := wi a) (by omega)).1, (ew_nat (n := wi a) (by omega)).2, we_wi ha] at c3
  have D1 : decide (((wi a : Nat) : Int) < 0) = false := by simp
  have D2 : decide ((65535 : Int) < ((wi a : Nat) : Int)) = false := by simp; omega
  obtain ⟨l, hl'⟩ : ∃ l, l = wi a := ⟨_, rfl⟩
  rw [← hl'] at c2 c3 D1 D2
  clear hl' hl
  have q0 := cellB hnew (t := 0) (by decide)
  rw [show cbn 0 = 1 by decide] at q0
  have HB : Hid (∀ t, t < 16 → v.cell? ⟨w.heap.size, t, none⟩ = some (.int .u16 (cbn t : Nat))) := fun t ht => cellB hnew ht
  clear hnew
  obtain ⟨g, hg⟩ : ∃ g, g = w.heap.size := ⟨_, rfl⟩
  rw [← hg] at HB q0 c1
  clear hg
  go_enter Tryd.func13, Tryd.ntmps13
  go_wp2_with (first | (go_at_call 15; ((with_reducible refine (c1).mono ?_); (rintro e w9 ⟨rfl, hw9⟩; have hw9 := hw9.symm; subst hw9))) | (go_at_call 6; ((with_reducible refine (c2).mono ?_); (rintro e w9 ⟨rfl, hw9⟩; have hw9 := hw9.symm; subst hw9))) | (go_at_call 14; ((with_reducible refine (c3).mono ?_); (rintro e w9 ⟨rfl, hw9⟩; have hw9 := hw9.symm; subst hw9))))
  clear q0 c1 c2 c3
  go_loopw [48] (fun tv wq => ∃ t : Nat, t ≤ 16 ∧ tv = .int .i64 t ∧ wq = v) (fun tv _ => 16 - (intOf tv).toNat)
  case atStart => exact ⟨0, Nat.zero_le _, rfl, rfl⟩
  case round =>
    obtain ⟨t, ht, rfl, hbq⟩ := hrel
    have hCr : Cant wr := by rw [hbq]; exact hC1
    have HQ : Hid (wr = v) := hbq
    by_cases hlt : t < 16
    · obtain ⟨C, hC⟩ : ∃ C, C = 2 ^ t := ⟨_, rfl⟩
      have hC2 : C ≤ 65535 := by
        have : 2 ^ t ≤ 2 ^ 15 := Nat.pow_le_pow_right (by decide) (by omega)
        omega
      have E : wrap64 (2 ^ t) = (C : Int) := by
        have e : ((2 : Int) ^ t) = ((2 ^ t : Nat) : Int) := by simp
        rw [e, ← hC]; unfold wrap64; omega
      have c4 := helement_int (C : Nat) wr hCr
      rw [(ew_nat hC2).1, (ew_nat hC2).2, hC, we_pow t hlt, ← hC] at c4
      have q1 : wr.cell? ⟨g, t, none⟩ = some (.int .u16 (cbn t : Nat)) := by rw [hbq]; exact HB.out t hlt
      have tb : ((t : Nat) : Int) < 16 := by omega
      have l2 := cbn_lt t hlt
      clear hbq hC hC2 hCr
      go_wp2_with (go_at_call 14; ((with_reducible refine (c4).mono ?_); (rintro e w5 ⟨rfl, hw5⟩; subst hw5)))
      go_roundw
      case rel => exact ⟨t + 1, by omega, by go_num, HQ.out⟩
      case measure => simp [intOf]; omega
    · have ht6 : t = 16 := by omega
      subst ht6
      have c4 := helement_int n wr hCr
      clear hbq
      by_cases hr : 0 ≤ n ∧ n ≤ 65535
      · obtain ⟨N, rfl⟩ := Int.eq_ofNat_of_zero_le hr.1
        have hN : N ≤ 65535 := by omega
        rw [(ew_nat hN).1, (ew_nat hN).2] at c4
        have E1 : decide ((0 : Int) ≤ (N : Int)) = true := by simp
        have E2 : decide ((N : Int) ≤ 65535) = true := by simp; omega
        clear hr hN
        go_wp2_with (go_at_call 14; ((with_reducible refine (c4).mono ?_); (rintro e w5 ⟨rfl, hw5⟩; subst hw5)))
        go_ret
        exact ⟨ret_bool (by simp), HQ.out⟩
      · rw [(ew_out hr).1, (ew_out hr).2] at c4
        by_cases h1 : 0 ≤ n
        · have E1 : decide ((0 : Int) ≤ n) = true := by simpa using h1
          have E2 : decide (n ≤ 65535) = false := by simp; omega
          clear hr h1
          go_wp2_with (go_at_call 14; ((with_reducible refine (c4).mono ?_); (rintro e w5 ⟨rfl, hw5⟩; subst hw5)))
          go_ret
          exact ⟨ret_bool (by simp), HQ.out⟩
        · have E1 : decide ((0 : Int) ≤ n) = false := by simpa using h1
          clear hr h1
          go_wp2_with (go_at_call 14; ((with_reducible refine (c4).mono ?_); (rintro e w5 ⟨rfl, hw5⟩; subst hw5)))
          go_ret
          exact ⟨ret_bool (by simp), HQ.out⟩

theorem i64_xorH (a b : Nat) (ha : a < 9223372036854775808) (hb : b < 9223372036854775808) : bits .xor .i64 (a : Int) (b : Int) = ((a ^^^ b : Nat) : Int) := by
  have hx : a ^^^ b < 2 ^ 63 := Nat.xor_lt_two_pow (by omega) (by omega)
  show IntKind.i64.wrap ((BitVec.ofInt 64 (a : Int) ^^^ BitVec.ofInt 64 (b : Int)).toNat : Int) = _
  rw [BitVec.toNat_xor, ofInt_u64 a (by omega), ofInt_u64 b (by omega), IntKind.wrap_i64]
  omega

set_option maxHeartbeats 4000000 in
set_option maxRecDepth 100000 in
theorem gf16Cantor_any (i j : Int) (w : World) (hC : Cant w) :
    Calls Tryd.prog 5 #[.int .i64 i, .int .i64 j] w fun e w' => e = .returned (.bool true) ∧ Below w.heap.size w w' := by
  obtain ⟨v, hv⟩ : ∃ v, v = afterB (afterB w) := ⟨_, rfl⟩
  have hC2 : Cant v := by rw [hv]; exact hC.afterB.afterB
  have HB : Hid (Below w.heap.size w v) := by
    rw [hv]; exact bthen (afterB_below w) (afterB_below _)
  obtain ⟨I, hI⟩ : ∃ I : Nat, (I : Int) = i % 65536 := ⟨(i % 65536).toNat, by omega⟩
  obtain ⟨J, hJ⟩ : ∃ J : Nat, (J : Int) = j % 65536 := ⟨(j % 65536).toNat, by omega⟩
  have lI : I < 65536 := by omega
  have lJ : J < 65536 := by omega
  have M1 : bits BinOp.and IntKind.i64 i 65535 = (I : Int) := by rw [hI]; exact mask_i64 16 (by decide) i 65535 (by decide)
  have M2 : bits BinOp.and IntKind.i64 j 65535 = (J : Int) := by rw [hJ]; exact mask_i64 16 (by decide) j 65535 (by decide)
  have U1 : IntKind.u16.wrap i = (I : Int) := by rw [IntKind.wrap_u16]; exact hI.symm
  have U2 : IntKind.u16.wrap j = (J : Int) := by rw [IntKind.wrap_u16]; exact hJ.symm
  have c1 := indexed_any J i w lJ hC
  have c2 := indexed_any I j (afterB w) lI hC.afterB
  have lX := xor16_lt lI lJ
  have X1 := i64_xorH I J (by omega) (by omega)
  have c3 := helement_int (I : Nat) v hC2
  have c4 := helement_int (J : Nat) v hC2
  have c5 := helement_int ((I ^^^ J : Nat) : Int) v hC2
  have c6 := helement_int ((I / 2 : Nat) : Int) v hC2
  rw [(ew_nat (n := I) (by omega)).1, (ew_nat (n := I) (by omega)).2] at c3
  rw [(ew_nat (n := J) (by omega)).1, (ew_nat (n := J) (by omega)).2] at c4
  rw [(ew_nat (n := I ^^^ J) (by omega)).1, (ew_nat (n := I ^^^ J) (by omega)).2, we_xor] at c5
  rw [(ew_nat (n := I / 2) (by omega)).1, (ew_nat (n := I / 2) (by omega)).2] at c6
  have c6 : Calls Tryd.prog 14 #[.int .i64 ((I : Int) / 2)] v fun e w' => e = .returned (.tuple #[.int .u16 (we (I / 2) : Nat), .int .i64 0]) ∧ w' = v := c6
  have X2 := u16_xor_nat (we I) (we J) (we_lt _) (we_lt _)
  have c7 := hmul_nat (we I) (we I) v (we_lt _) (we_lt _)
  have X3 := u16_xor_nat (fm 65581 (we I) (we I)) (we I) (fm16_lt _ _) (we_lt _)
  have e3 : fm 65581 (we I) (we I) ^^^ we I = we (I / 2) := hs_we lI
  rw [e3] at X3
  have c8 := hindex_nat (we I) v (we_lt _) hC2
  rw [wi_we lI] at c8
  have c9 := hindex_nat (we I ^^^ we J) v (xor16_lt (we_lt _) (we_lt _)) hC2
  rw [← we_xor, wi_we lX, we_xor] at c9
  have l1 := we_lt I
  have l2 := we_lt J
  have l3 := we_lt (I / 2)
  have l4 := fm16_lt (we I) (we I)
  rw [← hv] at c2
  clear hI hJ e3 lX lI lJ hv hC hC2
  go_enter Tryd.func5, Tryd.ntmps5
  go_wp2_with (first | (go_at_call 13; first | ((with_reducible refine (c1).mono ?_); rintro e w' ⟨rfl, rfl⟩) | ((with_reducible refine (c2).mono ?_); rintro e w' ⟨rfl, rfl⟩)) | (go_at_call 14; first | ((with_reducible refine (c3).mono ?_); rintro e w' ⟨rfl, rfl⟩) | ((with_reducible refine (c4).mono ?_); rintro e w' ⟨rfl, rfl⟩) | ((with_reducible refine (c5).mono ?_); rintro e w' ⟨rfl, rfl⟩) | ((with_reducible refine (c6).mono ?_); rintro e w' ⟨rfl, rfl⟩)) | (go_at_call 12; ((with_reducible refine (c7).mono ?_); rintro e w' ⟨rfl, rfl⟩)) | (go_at_call 6; first | ((with_reducible refine (c8).mono ?_); rintro e w' ⟨rfl, rfl⟩) | ((with_reducible refine (c9).mono ?_); rintro e w' ⟨rfl, rfl⟩)))
  go_ret
  exact ⟨rfl, HB.out⟩

end Go.Proofs.YthebaclellimaaaRDoor
