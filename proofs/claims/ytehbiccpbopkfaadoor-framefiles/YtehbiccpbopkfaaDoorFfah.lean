import Derived.Test.YtehbiccpbopkfaaDoorFfad
import Derived.Test.YtehbiccpbopkfaaDoorFfag
import Derived.Laws.BitsAllLaws
namespace Go.Proofs.YtehbiccpbopkfaaDoor
open Go.RowKit Gf2
set_option linter.unusedVariables false

-- layer 25: the sum
/-- what four shifts add. -/
def fsl : List Nat := [0, 498536548, 997073096, 651767980, 1994146192, 1802195444, 1303535960, 1342533948, 3988292384, 4027552580, 3604390888, 3412177804, 2607071920, 2262029012, 2685067896, 3183342108]
def rFs : Array Value := (fsl.map (fun n => Value.int .u32 ((n : Nat) : Int))).toArray
def fsn (i : Nat) : Nat := fsl.getD i 0
theorem rFs_size : rFs.size = 16 := by decide +kernel
theorem fsn_lt : ∀ i, i < 16 → fsn i < 4294967296 := by decide +kernel
theorem fsn_get : ∀ i, i < 16 → fsl[i]? = some (fsn i) := by decide +kernel
/-- the table stands as it was laid. -/
def Fsh (w : World) : Prop := ∃ ty fr, w.heap[0]? = some (.cells rFs ty fr)
theorem Fsh.below {w w' : World} (h : Fsh w) (hb : Below w.heap.size w w') : Fsh w' := by
  obtain ⟨t1, f1, h1⟩ := h
  exact ⟨t1, f1, by rw [hb.block _ (Array.getElem?_eq_some_iff.1 h1).1]; exact h1⟩
theorem Fsh.cell {w : World} (h : Fsh w) {i : Nat} (hi : i < 16) : w.cell? ⟨0, i, none⟩ = some (.int .u32 (fsn i : Nat)) := by
  obtain ⟨ty, fr, hg⟩ := h
  rw [cell_of_row w _ _ _ _ _ hg]
  unfold rFs
  rw [List.getElem?_toArray, List.getElem?_map, fsn_get i hi]
  rfl
/-- half a byte's step, a byte's, all bytes'. -/
def fh (x : Nat) : Nat := x / 16 ^^^ fsn (x % 16)
def fby (x b : Nat) : Nat := fh (fh (x ^^^ b))
def fol25 (x : Nat) (F : Nat → Nat) : Nat → Nat
  | 0 => x
  | n + 1 => fby (fol25 x F n) (F n)
theorem fh_lt {x : Nat} (h : x < 4294967296) : fh x < 4294967296 := Nat.xor_lt_two_pow (n := 32) (by omega) (fsn_lt _ (by omega))
theorem fby_lt {x b : Nat} (h : x < 4294967296) (hb : b < 256) : fby x b < 4294967296 := fh_lt (fh_lt (Nat.xor_lt_two_pow (n := 32) h (by omega)))
theorem fol_lt {x : Nat} {F : Nat → Nat} (h : x < 4294967296) : ∀ n, (∀ i, i < n → F i < 256) → fol25 x F n < 4294967296
  | 0, _ => h
  | n + 1, hF => fby_lt (fol_lt h n (fun i hi => hF i (by omega))) (hF n (by omega))
theorem a32 (a : Nat) (ha : a < 4294967296) : bits .and .u32 (a : Int) 15 = ((a % 16 : Nat) : Int) := by
  have h := u32_and_nat a 15 ha (by decide)
  rw [show a &&& 15 = a % 16 from Nat.and_two_pow_sub_one_eq_mod a 4] at h
  exact h
/-- all bits turned. -/
def nt (x : Nat) : Nat := 4294967295 ^^^ x
theorem nt_lt {x : Nat} (h : x < 4294967296) : nt x < 4294967296 := Nat.xor_lt_two_pow (n := 32) (by decide) h
theorem n32 (x : Nat) (h : x < 4294967296) : bits .xor .u32 IntKind.u32.max (x : Int) = ((nt x : Nat) : Int) := by
  have e : IntKind.u32.max = ((4294967295 : Nat) : Int) := by simp [IntKind.max, IntKind.bits, IntKind.signed]
  have h9 := u32_xor_nat 4294967295 x (by omega) h
  rw [e]
  exact h9
set_option maxHeartbeats 4000000 in
set_option maxRecDepth 100000 in
theorem fold25 (s : Nat) (v : Value) (n : Nat) (F : Nat → Nat) (w : World) (h : Rb w v n F) (hT : Fsh w) (hs : s < 4294967296) :
    Calls Tryd.prog 10 #[.int .u32 (s : Int), v] w fun e w' => e = .returned (.int .u32 ((nt (fol25 (nt s) F n) : Nat) : Int)) ∧ w' = w := by
  obtain ⟨hnb, hF, a, cap, rfl, -, -, h4⟩ := h
  have N0 := n32 s hs
  have HL : Hid (∀ i, i ≤ n → fol25 (nt s) F i < 4294967296) := fun i hi => fol_lt (nt_lt hs) i (fun j hj => hF j (by omega))
  have HN : Hid (n ≤ big) := hnb
  obtain ⟨s0, hs0⟩ : ∃ s0, Hid (nt s = s0) := ⟨_, rfl⟩
  rw [hs0.out] at N0 HL
  rw [hs0.out]
  clear hs hs0 hnb
  go_enter Tryd.func10, Tryd.ntmps10
  go_wp2
  clear N0
  go_loopw [5, 12] (fun sr si wr => ∃ i x : Nat, i ≤ n ∧ si = .int .i64 ((i : Nat) : Int) ∧ sr = .int .u32 ((x : Nat) : Int) ∧ Hid (x = fol25 s0 F i) ∧ wr = w) (fun _ si _ => n - (intOf si).toNat)
  case atStart => exact ⟨0, s0, Nat.zero_le _, rfl, rfl, rfl, rfl⟩
  case round =>
    obtain ⟨i, x, hi, rfl, rfl, hx, hw⟩ := hrel
    have hw := hw.symm
    subst hw
    have lx : x < 4294967296 := by rw [hx.out]; exact HL.out i hi
    by_cases hin : i < n
    · have ib : ((i : Nat) : Int) < (n : Int) := Int.ofNat_lt.2 hin
      obtain ⟨b, o, rfl, hbl, hc⟩ := h4 (by omega)
      have q1 := hc i hin
      have lb := hF i hin
      obtain ⟨f, hf⟩ : ∃ f, Hid (F i = f) := ⟨_, rfl⟩
      rw [hf.out] at q1 lb
      have U1 : IntKind.u32.wrap ((f : Nat) : Int) = ((f : Nat) : Int) := by rw [IntKind.wrap_u32]; omega
      obtain ⟨x1, hx1⟩ : ∃ x1, Hid (x ^^^ f = x1) := ⟨_, rfl⟩
      have l1 : x1 < 4294967296 := by rw [← hx1.out]; exact Nat.xor_lt_two_pow (n := 32) lx (by omega)
      have X1 : bits .xor .u32 ((x : Nat) : Int) ((f : Nat) : Int) = ((x1 : Nat) : Int) := by rw [← hx1.out]; exact u32_xor_nat x f lx (by omega)
      obtain ⟨d1, hd1⟩ : ∃ d1, Hid (x1 / 16 = d1) := ⟨_, rfl⟩
      obtain ⟨m1, hm1⟩ : ∃ m1, Hid (x1 % 16 = m1) := ⟨_, rfl⟩
      have D1 : ((x1 : Nat) : Int) / 16 = ((d1 : Nat) : Int) := by have := hd1.out; omega
      have A1 : bits .and .u32 ((x1 : Nat) : Int) 15 = ((m1 : Nat) : Int) := by rw [← hm1.out]; exact a32 x1 l1
      have lm1 : m1 < 16 := by have := hm1.out; omega
      have im1 : ((m1 : Nat) : Int) < 16 := by omega
      have t1 := hT.cell lm1
      have lf1 := fsn_lt m1 lm1
      obtain ⟨g1, hg1⟩ : ∃ g1, Hid (fsn m1 = g1) := ⟨_, rfl⟩
      rw [hg1.out] at t1 lf1
      obtain ⟨x2, hx2⟩ : ∃ x2, Hid (d1 ^^^ g1 = x2) := ⟨_, rfl⟩
      have ld1 : d1 < 4294967296 := by have := hd1.out; omega
      have l2 : x2 < 4294967296 := by rw [← hx2.out]; exact Nat.xor_lt_two_pow (n := 32) ld1 lf1
      have X2 : bits .xor .u32 ((d1 : Nat) : Int) ((g1 : Nat) : Int) = ((x2 : Nat) : Int) := by rw [← hx2.out]; exact u32_xor_nat d1 g1 ld1 lf1
      obtain ⟨d2, hd2⟩ : ∃ d2, Hid (x2 / 16 = d2) := ⟨_, rfl⟩
      obtain ⟨m2, hm2⟩ : ∃ m2, Hid (x2 % 16 = m2) := ⟨_, rfl⟩
      have D2 : ((x2 : Nat) : Int) / 16 = ((d2 : Nat) : Int) := by have := hd2.out; omega
      have A2 : bits .and .u32 ((x2 : Nat) : Int) 15 = ((m2 : Nat) : Int) := by rw [← hm2.out]; exact a32 x2 l2
      have lm2 : m2 < 16 := by have := hm2.out; omega
      have im2 : ((m2 : Nat) : Int) < 16 := by omega
      have t2 := hT.cell lm2
      have lf2 := fsn_lt m2 lm2
      obtain ⟨g2, hg2⟩ : ∃ g2, Hid (fsn m2 = g2) := ⟨_, rfl⟩
      rw [hg2.out] at t2 lf2
      obtain ⟨x3, hx3⟩ : ∃ x3, Hid (d2 ^^^ g2 = x3) := ⟨_, rfl⟩
      have ld2 : d2 < 4294967296 := by have := hd2.out; omega
      have X3 : bits .xor .u32 ((d2 : Nat) : Int) ((g2 : Nat) : Int) = ((x3 : Nat) : Int) := by rw [← hx3.out]; exact u32_xor_nat d2 g2 ld2 lf2
      have HX : Hid (i < n ∧ x3 = fol25 s0 F (i + 1)) := ⟨hin, by
        show x3 = fby (fol25 s0 F i) (F i)
        unfold fby fh
        rw [← hx.out, hf.out, hx1.out, hd1.out, hm1.out, hg1.out, hx2.out, hd2.out, hm2.out, hg2.out, hx3.out]⟩
      have HW3 : Hid (wrap64 (((i : Nat) : Int) + 1) = ((i : Nat) : Int) + 1) := wrap_succ8 (j := i) (Nat.lt_of_lt_of_le hin HN.out)
      clear hx hi hin hc hbl h4 hF lx lb l1 l2 ld1 ld2 lf1 lf2 hf hx1 hd1 hm1 hg1 hx2 hd2 hm2 hg2 hx3
      have W3 := HW3.out
      go_wp2
      go_roundw
      case rel => exact ⟨i + 1, x3, HX.out.1, by first | rfl | (rw [W3]; rfl), rfl, HX.out.2, by first | trivial | rfl⟩
      case measure => first | exact meas_lt8 HX.out.1 | (rw [W3]; exact meas_lt8 HX.out.1)
    · have hin2 : i = n := by omega
      have ib : ¬ ((i : Nat) : Int) < (n : Int) := by omega
      have N1 := n32 x lx
      have HF : Hid (nt (fol25 s0 F n) = nt x) := by show _ = _; rw [hx.out, hin2]
      generalize nt x = y at N1 HF
      clear hx hi hin hin2 h4 hF lx
      go_wp2
      go_ret
      exact ⟨by rw [HF.out]; rfl, by first | trivial | rfl⟩
set_option maxHeartbeats 4000000 in
set_option maxRecDepth 100000 in
theorem sum25 (v : Value) (n : Nat) (F : Nat → Nat) (w : World) (h : Rb w v n F) (hT : Fsh w) :
    Calls Tryd.prog 8 #[v] w fun e w' => e = .returned (.int .u32 ((nt (fol25 (nt 0) F n) : Nat) : Int)) ∧ w' = w := by
  have c1 : Calls Tryd.prog 10 #[.int .u32 0, v] w fun e w' => e = .returned (.int .u32 ((nt (fol25 (nt 0) F n) : Nat) : Int)) ∧ w' = w := fold25 0 v n F w h hT (by omega)
  generalize nt (fol25 (nt 0) F n) = y at c1 ⊢
  clear h hT
  go_enter Tryd.func8, Tryd.ntmps8
  go_wp2_with (go_at_call 10; (with_reducible refine c1.mono ?_); rintro e w9 ⟨rfl, hw9⟩; have hw9 := hw9.symm; subst hw9; clear c1)
  go_ret
  exact ⟨rfl, rfl⟩
end Go.Proofs.YtehbiccpbopkfaaDoor
