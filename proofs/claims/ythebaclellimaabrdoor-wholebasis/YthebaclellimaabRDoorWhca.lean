import Derived.Test.YthebaclellimaabRDoorWhtr
namespace Go.Proofs.YthebaclellimaabRDoor
open Go.RowKit Gf2

theorem bthen {w a b : World} (h : Below w.heap.size w a) (k : Below a.heap.size a b) : Below w.heap.size w b := h.trans (k.mono h.size)
theorem mask_i64 (k : Nat) (hk : k ≤ 62) (n : Int) (m : Nat) (hm : m = 2 ^ k - 1) : bits BinOp.and IntKind.i64 n (m : Int) = n % (2 ^ k : Nat) := by
  have hp : 2 ^ k ≤ 2 ^ 62 := Nat.pow_le_pow_right (by decide) hk
  have hp0 := Nat.two_pow_pos k
  have h127 : (BitVec.ofInt 64 (m : Int)).toNat = 2 ^ k - 1 := by rw [hm, ofInt_u64 _ (by omega)]
  have key : (BitVec.ofInt 64 n &&& BitVec.ofInt 64 (m : Int)).toNat = (n % ((2 ^ 64 : Nat) : Int)).toNat % 2 ^ k := by
    rw [BitVec.toNat_and, BitVec.toNat_ofInt, h127, Nat.and_two_pow_sub_one_eq_mod]
  show IntKind.i64.wrap ((BitVec.ofInt 64 n &&& BitVec.ofInt 64 (m : Int)).toNat : Nat) = _
  rw [key]
  have hd : ((2 ^ k : Nat) : Int) ∣ ((2 ^ 64 : Nat) : Int) := Int.natCast_dvd_natCast.2 (Nat.pow_dvd_pow 2 (by omega))
  have h1 : (((n % ((2 ^ 64 : Nat) : Int)).toNat % 2 ^ k : Nat) : Int) = n % ((2 ^ k : Nat) : Int) := by
    rw [Int.natCast_emod, Int.toNat_of_nonneg (Int.emod_nonneg _ (by decide)), Int.emod_emod_of_dvd _ hd]
  rw [h1, IntKind.wrap_i64]
  have h2 : 0 ≤ n % ((2 ^ k : Nat) : Int) := Int.emod_nonneg _ (by omega)
  have h3 : n % ((2 ^ k : Nat) : Int) < ((2 ^ k : Nat) : Int) := Int.emod_lt_of_pos _ (by omega)
  generalize n % ((2 ^ k : Nat) : Int) = x at *
  generalize (2 : Nat) ^ k = q at *
  omega

theorem ew_nat {n : Nat} (h : n ≤ 65535) : ew (n : Int) = we n ∧ ee (n : Int) = 0 := by
  unfold ew ee
  rw [if_pos (by omega), if_pos (by omega)]
  exact ⟨rfl, rfl⟩
theorem ew_out {n : Int} (h : ¬ (0 ≤ n ∧ n ≤ 65535)) : ew n = 0 ∧ ee n = 31 := by
  unfold ew ee
  rw [if_neg h, if_neg h]
  exact ⟨rfl, rfl⟩

theorem i64_xorH (a b : Nat) (ha : a < 9223372036854775808) (hb : b < 9223372036854775808) : bits .xor .i64 (a : Int) (b : Int) = ((a ^^^ b : Nat) : Int) := by
  have hx : a ^^^ b < 2 ^ 63 := Nat.xor_lt_two_pow (by omega) (by omega)
  show IntKind.i64.wrap ((BitVec.ofInt 64 (a : Int) ^^^ BitVec.ofInt 64 (b : Int)).toNat : Int) = _
  rw [BitVec.toNat_xor, ofInt_u64 a (by omega), ofInt_u64 b (by omega), IntKind.wrap_i64]
  omega

set_option maxHeartbeats 4000000 in
set_option maxRecDepth 100000 in
theorem gf16Subfields_any (i j : Int) (w : World) (hC : Cant w) :
    Calls Tryd.prog 3 #[.int .i64 i, .int .i64 j] w fun e w' => e = .returned (.bool true) ∧ Below w.heap.size w w' := by
  have c0 := fixed_any w
  have ci : Calls Tryd.prog 6 #[.int .u16 44234] w fun e w' => e = .returned (.int .i64 2) ∧ w' = w := by
    have h := hindex_nat 44234 w (by decide) hC
    rw [show wi 44234 = 2 by decide +kernel] at h
    exact h
  go_enter Tryd.func3, Tryd.ntmps3
  go_wp2_with (first | (go_at_call 5; ((with_reducible refine (c0).mono ?_); (rintro e w9 ⟨rfl, hw9⟩; have hw9 := hw9.symm; subst hw9))) | (go_at_call 6; ((with_reducible refine (ci).mono ?_); (rintro e w9 ⟨rfl, hw9⟩; have hw9 := hw9.symm; subst hw9))))
  obtain ⟨w2, hw2⟩ : ∃ w2 : World, w2 = w.alloc (.cells #[.int .i64 2, .int .i64 4, .int .i64 16, .int .i64 256] 3) := ⟨_, rfl⟩
  have hs2 : w2.heap.size = w.heap.size + 1 := by rw [hw2]; simp
  have hb2 : Below w.heap.size w w2 := by rw [hw2]; exact (Below.refl _ _).alloc (Nat.le_refl _) _
  have key : ∀ k, k < 4 → ∃ t Z : Nat, (t = 1 ∨ t = 2 ∨ t = 4 ∨ t = 8) ∧ Z = 2 ^ t ∧ w2.cell? ⟨w.heap.size, k, none⟩ = some (.int .i64 (Z : Nat)) := by
    intro k hk
    have hc := cell_of_row w2 w.heap.size k _ 3 (0, 0) (by rw [hw2]; exact heap_alloc_new _ _)
    match k, hk with
    | 0, _ => exact ⟨1, 2, .inl rfl, rfl, hc⟩
    | 1, _ => exact ⟨2, 4, .inr (.inl rfl), rfl, hc⟩
    | 2, _ => exact ⟨4, 16, .inr (.inr (.inl rfl)), rfl, hc⟩
    | 3, _ => exact ⟨8, 256, .inr (.inr (.inr rfl)), rfl, hc⟩
  have HK : Hid (∀ k, k < 4 → ∃ t Z : Nat, (t = 1 ∨ t = 2 ∨ t = 4 ∨ t = 8) ∧ Z = 2 ^ t ∧ w2.cell? ⟨w.heap.size, k, none⟩ = some (.int .i64 (Z : Nat))) := key
  rw [← hw2]
  have hC2 : Cant w2 := hC.below hb2
  clear key hw2 c0 ci
  go_loopw [21] (fun iv wq => ∃ k : Nat, k ≤ 4 ∧ iv = .int .i64 k ∧ wq = w2) (fun iv _ => 4 - (intOf iv).toNat)
  case atStart => exact ⟨0, Nat.zero_le _, rfl, rfl⟩
  case round =>
    obtain ⟨k, hk, rfl, hbq⟩ := hrel
    have hCr : Cant wr := by rw [hbq]; exact hC2
    by_cases hlt : k < 4
    · obtain ⟨t, Z, ht, hZ, hc⟩ := HK.out k hlt
      have q1 : wr.cell? ⟨w.heap.size, k, none⟩ = some (.int .i64 (Z : Nat)) := by rw [hbq]; exact hc
      have hZ1 : 1 ≤ Z ∧ Z ≤ 256 := by rcases ht with h | h | h | h <;> (rw [hZ, h]; decide)
      have hm : Z - 1 = 2 ^ t - 1 := by rw [hZ]
      have ht62 : t ≤ 62 := by omega
      obtain ⟨I, hI⟩ : ∃ I : Nat, (I : Int) = i % ((2 ^ t : Nat) : Int) := ⟨(i % ((2 ^ t : Nat) : Int)).toNat, Int.toNat_of_nonneg (Int.emod_nonneg _ (by omega))⟩
      obtain ⟨J, hJ⟩ : ∃ J : Nat, (J : Int) = j % ((2 ^ t : Nat) : Int) := ⟨(j % ((2 ^ t : Nat) : Int)).toNat, Int.toNat_of_nonneg (Int.emod_nonneg _ (by omega))⟩
      have lI : I < 2 ^ t := by have := Int.emod_lt_of_pos i (b := ((2 ^ t : Nat) : Int)) (by omega); omega
      have lJ : J < 2 ^ t := by have := Int.emod_lt_of_pos j (b := ((2 ^ t : Nat) : Int)) (by omega); omega
      have eZ : ((Z : Int) - 1) = ((Z - 1 : Nat) : Int) := by omega
      have M1 : bits BinOp.and IntKind.i64 i ((Z : Int) - 1) = (I : Int) := by rw [hI, eZ]; exact mask_i64 t ht62 i _ hm
      have M2 : bits BinOp.and IntKind.i64 j ((Z : Int) - 1) = (J : Int) := by rw [hJ, eZ]; exact mask_i64 t ht62 j _ hm
      have WZ : wrap64 ((Z : Int) - 1) = (Z : Int) - 1 := by unfold wrap64; omega
      have c3 := helement_int (I : Nat) wr hCr
      have c4 := helement_int (J : Nat) wr hCr
      rw [(ew_nat (n := I) (by omega)).1, (ew_nat (n := I) (by omega)).2] at c3
      rw [(ew_nat (n := J) (by omega)).1, (ew_nat (n := J) (by omega)).2] at c4
      have c5 := hmul_nat (we I) (we J) wr (we_lt _) (we_lt _)
      have c6 := hindex_nat (fm 65581 (we I) (we J)) wr (fm16_lt _ _) hCr
      have wI := wi_we (i := I) (by omega)
      have wJ := wi_we (i := J) (by omega)
      have P1 : wi (fm 65581 (we I) (we J)) < 2 ^ t := sub_mul ht (we_lt _) (we_lt _) (by rw [wI]; exact lI) (by rw [wJ]; exact lJ)
      have D1 : decide ((Z : Int) ≤ ((wi (fm 65581 (we I) (we J)) : Nat) : Int)) = false := by simp; omega
      have PI1 : ((wi (fm 65581 (we I) (we J)) : Nat) : Int) < (Z : Int) := by omega
      have c7 := hinv_nat (we I) wr (we_lt _)
      have l1 := we_lt I
      have HQ : Hid (wr = w2) := hbq
      by_cases h0 : we I = 0
      · have e1 : hi (we I) = 0 := by rw [h0]; decide
        have e2 : he (we I) = 20 := by rw [h0]; decide
        rw [e1, e2] at c7
        have T0 : (((we I : Nat) : Int) == 0) = true := by simp; omega
        have T1 : (((we I : Nat) : Int) != 0) = false := by simp; omega
        clear hbq hCr hc hZ hm hI hJ lI lJ eZ wI wJ P1 h0 e1 e2 ht ht62 hZ1
        go_wp2_with (first | (go_at_call 7; first | ((with_reducible refine (c3).mono ?_); (rintro e w5 ⟨rfl, hw5⟩; subst hw5)) | ((with_reducible refine (c4).mono ?_); (rintro e w5 ⟨rfl, hw5⟩; subst hw5))) | (go_at_call 8; ((with_reducible refine (c5).mono ?_); (rintro e w5 ⟨rfl, hw5⟩; subst hw5))) | (go_at_call 6; ((with_reducible refine (c6).mono ?_); (rintro e w5 ⟨rfl, hw5⟩; subst hw5))) | (go_at_call 9; ((with_reducible refine (c7).mono ?_); (rintro e w5 ⟨rfl, hw5⟩; subst hw5))))
        go_roundw
        case rel => exact ⟨k + 1, by omega, by go_num, HQ.out⟩
        case measure => simp [intOf]; omega
      · have e1 : hi (we I) = fi 65581 (we I) := by unfold hi; rw [if_neg h0]
        have e2 : he (we I) = 0 := by unfold he; rw [if_neg h0]
        rw [e1, e2] at c7
        have lf : fi 65581 (we I) < 65536 := fld16.fi_lt (we_lt _) h0
        have c8 := hindex_nat (fi 65581 (we I)) wr lf hCr
        have P2 : wi (fi 65581 (we I)) < 2 ^ t := sub_inv ht (we_lt _) h0 (by rw [wI]; exact lI)
        have D2 : decide ((Z : Int) ≤ ((wi (fi 65581 (we I)) : Nat) : Int)) = false := by simp; omega
        have PI2 : ((wi (fi 65581 (we I)) : Nat) : Int) < (Z : Int) := by omega
        have T0 : (((we I : Nat) : Int) == 0) = false := by simp; omega
        have T1 : (((we I : Nat) : Int) != 0) = true := by simp; omega
        clear hbq hCr hc hZ hm hI hJ lI lJ eZ wI wJ P1 P2 h0 e1 e2 ht ht62 hZ1
        go_wp2_with (first | (go_at_call 7; first | ((with_reducible refine (c3).mono ?_); (rintro e w5 ⟨rfl, hw5⟩; subst hw5)) | ((with_reducible refine (c4).mono ?_); (rintro e w5 ⟨rfl, hw5⟩; subst hw5))) | (go_at_call 8; ((with_reducible refine (c5).mono ?_); (rintro e w5 ⟨rfl, hw5⟩; subst hw5))) | (go_at_call 6; first | ((with_reducible refine (c6).mono ?_); (rintro e w5 ⟨rfl, hw5⟩; subst hw5)) | ((with_reducible refine (c8).mono ?_); (rintro e w5 ⟨rfl, hw5⟩; subst hw5))) | (go_at_call 9; ((with_reducible refine (c7).mono ?_); (rintro e w5 ⟨rfl, hw5⟩; subst hw5))))
        go_roundw
        case rel => exact ⟨k + 1, by omega, by go_num, HQ.out⟩
        case measure => simp [intOf]; omega
    · have hk4 : k = 4 := by omega
      subst hk4
      go_wp2
      go_ret
      exact ⟨rfl, by first | exact hb2 | (rw [hbq]; exact hb2)⟩
end Go.Proofs.YthebaclellimaabRDoor
