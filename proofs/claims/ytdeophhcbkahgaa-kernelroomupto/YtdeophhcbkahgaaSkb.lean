import Derived.Test.YtdeophhcbkahgaaSka
namespace Go.Proofs.Ytdeophhcbkahgaa
open Go.RowKit Gf2
set_option linter.unusedVariables false

theorem msk_int (x b : Nat) (hx : x < 18446744073709551616) : bits .and .u64 ((x / 2 ^ b : Nat) : Int) 72340172838076673 = ((msk x b : Nat) : Int) :=
  u64_and_nat (x / 2 ^ b) 72340172838076673 (Nat.lt_of_le_of_lt (Nat.div_le_self _ _) hx) (by decide)
theorem mul_int (m f : Nat) (h : m * f < 18446744073709551616) : IntKind.u64.wrap ((m : Int) * (f : Int)) = ((m * f : Nat) : Int) := by
  rw [show (m : Int) * (f : Int) = ((m * f : Nat) : Int) from (Int.natCast_mul _ _).symm, IntKind.wrap_u64]; omega
theorem xor64_lt {a b : Nat} (ha : a < 18446744073709551616) (hb : b < 18446744073709551616) : a ^^^ b < 18446744073709551616 := Nat.xor_lt_two_pow (n := 64) ha hb

set_option maxHeartbeats 4000000 in
set_option maxRecDepth 100000 in
theorem word_nat (c x b : Nat) (w : World) (hb : Cb c b w) (hx : x < 18446744073709551616) :
    Calls Try.prog 89 #[.pointer (some ⟨b, 0, none⟩), .int .u64 (x : Int)] w fun e w' => e = .returned (.int .u64 (wdk c x 8 : Nat)) ∧ w' = w.drew := by
  have HW := word_is (c := c) (w := x) hx
  have q0 := hb.cell (j := 0) (by decide)
  have lf0 : fm 285 c (2 ^ 0) < 256 := fm8_lt _ _
  have lp0 := msk_mul_lt (w := x) (b := 0) hx (by decide) lf0
  have W0 := mul_int _ _ lp0
  have A0 := msk_int x 0 hx
  rw [Nat.pow_zero, Nat.div_one] at A0
  have q1 := hb.cell (j := 1) (by decide)
  have lf1 : fm 285 c (2 ^ 1) < 256 := fm8_lt _ _
  have lp1 := msk_mul_lt (w := x) (b := 1) hx (by decide) lf1
  have W1 := mul_int _ _ lp1
  have A1 := msk_int x 1 hx
  have D1 : (x : Int) / 2 = ((x / 2 ^ 1 : Nat) : Int) := by rw [Int.natCast_ediv]; rfl
  have q2 := hb.cell (j := 2) (by decide)
  have lf2 : fm 285 c (2 ^ 2) < 256 := fm8_lt _ _
  have lp2 := msk_mul_lt (w := x) (b := 2) hx (by decide) lf2
  have W2 := mul_int _ _ lp2
  have A2 := msk_int x 2 hx
  have D2 : (x : Int) / 4 = ((x / 2 ^ 2 : Nat) : Int) := by rw [Int.natCast_ediv]; rfl
  have q3 := hb.cell (j := 3) (by decide)
  have lf3 : fm 285 c (2 ^ 3) < 256 := fm8_lt _ _
  have lp3 := msk_mul_lt (w := x) (b := 3) hx (by decide) lf3
  have W3 := mul_int _ _ lp3
  have A3 := msk_int x 3 hx
  have D3 : (x : Int) / 8 = ((x / 2 ^ 3 : Nat) : Int) := by rw [Int.natCast_ediv]; rfl
  have q4 := hb.cell (j := 4) (by decide)
  have lf4 : fm 285 c (2 ^ 4) < 256 := fm8_lt _ _
  have lp4 := msk_mul_lt (w := x) (b := 4) hx (by decide) lf4
  have W4 := mul_int _ _ lp4
  have A4 := msk_int x 4 hx
  have D4 : (x : Int) / 16 = ((x / 2 ^ 4 : Nat) : Int) := by rw [Int.natCast_ediv]; rfl
  have q5 := hb.cell (j := 5) (by decide)
  have lf5 : fm 285 c (2 ^ 5) < 256 := fm8_lt _ _
  have lp5 := msk_mul_lt (w := x) (b := 5) hx (by decide) lf5
  have W5 := mul_int _ _ lp5
  have A5 := msk_int x 5 hx
  have D5 : (x : Int) / 32 = ((x / 2 ^ 5 : Nat) : Int) := by rw [Int.natCast_ediv]; rfl
  have q6 := hb.cell (j := 6) (by decide)
  have lf6 : fm 285 c (2 ^ 6) < 256 := fm8_lt _ _
  have lp6 := msk_mul_lt (w := x) (b := 6) hx (by decide) lf6
  have W6 := mul_int _ _ lp6
  have A6 := msk_int x 6 hx
  have D6 : (x : Int) / 64 = ((x / 2 ^ 6 : Nat) : Int) := by rw [Int.natCast_ediv]; rfl
  have q7 := hb.cell (j := 7) (by decide)
  have lf7 : fm 285 c (2 ^ 7) < 256 := fm8_lt _ _
  have lp7 := msk_mul_lt (w := x) (b := 7) hx (by decide) lf7
  have W7 := mul_int _ _ lp7
  have A7 := msk_int x 7 hx
  have D7 : (x : Int) / 128 = ((x / 2 ^ 7 : Nat) : Int) := by rw [Int.natCast_ediv]; rfl
  obtain ⟨f0, hf0⟩ : ∃ f, f = fm 285 c (2 ^ 0) := ⟨_, rfl⟩
  rw [← hf0] at HW q0 lp0 W0
  obtain ⟨m0, hm0⟩ : ∃ m, m = msk x 0 := ⟨_, rfl⟩
  rw [← hm0] at HW lp0 W0 A0
  obtain ⟨p0, hp0⟩ : ∃ p, p = m0 * f0 := ⟨_, rfl⟩
  rw [← hp0] at HW lp0 W0
  obtain ⟨f1, hf1⟩ : ∃ f, f = fm 285 c (2 ^ 1) := ⟨_, rfl⟩
  rw [← hf1] at HW q1 lp1 W1
  obtain ⟨m1, hm1⟩ : ∃ m, m = msk x 1 := ⟨_, rfl⟩
  rw [← hm1] at HW lp1 W1 A1
  obtain ⟨p1, hp1⟩ : ∃ p, p = m1 * f1 := ⟨_, rfl⟩
  rw [← hp1] at HW lp1 W1
  obtain ⟨y1, hy1⟩ : ∃ y, y = x / 2 ^ 1 := ⟨_, rfl⟩
  rw [← hy1] at A1 D1
  obtain ⟨f2, hf2⟩ : ∃ f, f = fm 285 c (2 ^ 2) := ⟨_, rfl⟩
  rw [← hf2] at HW q2 lp2 W2
  obtain ⟨m2, hm2⟩ : ∃ m, m = msk x 2 := ⟨_, rfl⟩
  rw [← hm2] at HW lp2 W2 A2
  obtain ⟨p2, hp2⟩ : ∃ p, p = m2 * f2 := ⟨_, rfl⟩
  rw [← hp2] at HW lp2 W2
  obtain ⟨y2, hy2⟩ : ∃ y, y = x / 2 ^ 2 := ⟨_, rfl⟩
  rw [← hy2] at A2 D2
  obtain ⟨f3, hf3⟩ : ∃ f, f = fm 285 c (2 ^ 3) := ⟨_, rfl⟩
  rw [← hf3] at HW q3 lp3 W3
  obtain ⟨m3, hm3⟩ : ∃ m, m = msk x 3 := ⟨_, rfl⟩
  rw [← hm3] at HW lp3 W3 A3
  obtain ⟨p3, hp3⟩ : ∃ p, p = m3 * f3 := ⟨_, rfl⟩
  rw [← hp3] at HW lp3 W3
  obtain ⟨y3, hy3⟩ : ∃ y, y = x / 2 ^ 3 := ⟨_, rfl⟩
  rw [← hy3] at A3 D3
  obtain ⟨f4, hf4⟩ : ∃ f, f = fm 285 c (2 ^ 4) := ⟨_, rfl⟩
  rw [← hf4] at HW q4 lp4 W4
  obtain ⟨m4, hm4⟩ : ∃ m, m = msk x 4 := ⟨_, rfl⟩
  rw [← hm4] at HW lp4 W4 A4
  obtain ⟨p4, hp4⟩ : ∃ p, p = m4 * f4 := ⟨_, rfl⟩
  rw [← hp4] at HW lp4 W4
  obtain ⟨y4, hy4⟩ : ∃ y, y = x / 2 ^ 4 := ⟨_, rfl⟩
  rw [← hy4] at A4 D4
  obtain ⟨f5, hf5⟩ : ∃ f, f = fm 285 c (2 ^ 5) := ⟨_, rfl⟩
  rw [← hf5] at HW q5 lp5 W5
  obtain ⟨m5, hm5⟩ : ∃ m, m = msk x 5 := ⟨_, rfl⟩
  rw [← hm5] at HW lp5 W5 A5
  obtain ⟨p5, hp5⟩ : ∃ p, p = m5 * f5 := ⟨_, rfl⟩
  rw [← hp5] at HW lp5 W5
  obtain ⟨y5, hy5⟩ : ∃ y, y = x / 2 ^ 5 := ⟨_, rfl⟩
  rw [← hy5] at A5 D5
  obtain ⟨f6, hf6⟩ : ∃ f, f = fm 285 c (2 ^ 6) := ⟨_, rfl⟩
  rw [← hf6] at HW q6 lp6 W6
  obtain ⟨m6, hm6⟩ : ∃ m, m = msk x 6 := ⟨_, rfl⟩
  rw [← hm6] at HW lp6 W6 A6
  obtain ⟨p6, hp6⟩ : ∃ p, p = m6 * f6 := ⟨_, rfl⟩
  rw [← hp6] at HW lp6 W6
  obtain ⟨y6, hy6⟩ : ∃ y, y = x / 2 ^ 6 := ⟨_, rfl⟩
  rw [← hy6] at A6 D6
  obtain ⟨f7, hf7⟩ : ∃ f, f = fm 285 c (2 ^ 7) := ⟨_, rfl⟩
  rw [← hf7] at HW q7 lp7 W7
  obtain ⟨m7, hm7⟩ : ∃ m, m = msk x 7 := ⟨_, rfl⟩
  rw [← hm7] at HW lp7 W7 A7
  obtain ⟨p7, hp7⟩ : ∃ p, p = m7 * f7 := ⟨_, rfl⟩
  rw [← hp7] at HW lp7 W7
  obtain ⟨y7, hy7⟩ : ∃ y, y = x / 2 ^ 7 := ⟨_, rfl⟩
  rw [← hy7] at A7 D7
  have X1 := u64_xor_nat p0 p1 lp0 lp1
  have ls1 := xor64_lt lp0 lp1
  obtain ⟨s1, hs1⟩ : ∃ s, s = p0 ^^^ p1 := ⟨_, rfl⟩
  rw [← hs1] at X1 ls1 HW
  have X2 := u64_xor_nat s1 p2 ls1 lp2
  have ls2 := xor64_lt ls1 lp2
  obtain ⟨s2, hs2⟩ : ∃ s, s = s1 ^^^ p2 := ⟨_, rfl⟩
  rw [← hs2] at X2 ls2 HW
  have X3 := u64_xor_nat s2 p3 ls2 lp3
  have ls3 := xor64_lt ls2 lp3
  obtain ⟨s3, hs3⟩ : ∃ s, s = s2 ^^^ p3 := ⟨_, rfl⟩
  rw [← hs3] at X3 ls3 HW
  have X4 := u64_xor_nat s3 p4 ls3 lp4
  have ls4 := xor64_lt ls3 lp4
  obtain ⟨s4, hs4⟩ : ∃ s, s = s3 ^^^ p4 := ⟨_, rfl⟩
  rw [← hs4] at X4 ls4 HW
  have X5 := u64_xor_nat s4 p5 ls4 lp5
  have ls5 := xor64_lt ls4 lp5
  obtain ⟨s5, hs5⟩ : ∃ s, s = s4 ^^^ p5 := ⟨_, rfl⟩
  rw [← hs5] at X5 ls5 HW
  have X6 := u64_xor_nat s5 p6 ls5 lp6
  have ls6 := xor64_lt ls5 lp6
  obtain ⟨s6, hs6⟩ : ∃ s, s = s5 ^^^ p6 := ⟨_, rfl⟩
  rw [← hs6] at X6 ls6 HW
  have X7 := u64_xor_nat s6 p7 ls6 lp7
  have ls7 := xor64_lt ls6 lp7
  obtain ⟨s7, hs7⟩ : ∃ s, s = s6 ^^^ p7 := ⟨_, rfl⟩
  rw [← hs7] at X7 ls7 HW
  rw [← HW]
  clear HW lf0 lp0 hf0 hm0 hp0 lf1 lp1 hf1 hm1 hp1 lf2 lp2 hf2 hm2 hp2 lf3 lp3 hf3 hm3 hp3 lf4 lp4 hf4 hm4 hp4 lf5 lp5 hf5 hm5 hp5 lf6 lp6 hf6 hm6 hp6 lf7 lp7 hf7 hm7 hp7 ls1 hs1 hy1 ls2 hs2 hy2 ls3 hs3 hy3 ls4 hs4 hy4 ls5 hs5 hy5 ls6 hs6 hy6 ls7 hs7 hy7 hb hx
  go_enter Try.func89, Try.ntmps89
  go_wp2
  refine region_still7 (by kernel_rfl) (by kernel_rfl) ?_
  repeat still_step
  refine wpStill_nil ?_
  go_wp2
  go_ret
  exact ⟨rfl, rfl⟩

set_option maxHeartbeats 2000000 in
set_option maxRecDepth 100000 in
theorem one_nat (c x b : Nat) (w : World) (hb : Cb c b w) (hx : x < 256) :
    Calls Try.prog 91 #[.pointer (some ⟨b, 0, none⟩), .int .u8 (x : Int)] w fun e w' => e = .returned (.int .u8 (fm 285 c x : Nat)) ∧ w' = w.drew := by
  have c1 := word_nat c x b w hb (by omega)
  have E1 : IntKind.u64.wrap ((x : Nat) : Int) = (x : Int) := by rw [IntKind.wrap_u64]; omega
  have l := wdk_lt c x 8
  have e := wdk_low c x
  rw [Nat.mod_eq_of_lt hx] at e
  rw [← e]
  have E2 : IntKind.u8.wrap ((wdk c x 8 : Nat) : Int) = ((wdk c x 8 % 256 : Nat) : Int) := by rw [IntKind.wrap_u8]; omega
  obtain ⟨d, hd⟩ : ∃ d, d = wdk c x 8 := ⟨_, rfl⟩
  rw [← hd] at c1 E2 ⊢
  clear l e hd hb
  go_enter Try.func91, Try.ntmps91
  go_wp2_with (go_at_call 89; (with_reducible refine c1.mono ?_); rintro e w9 ⟨rfl, hw9⟩; have hw9 := hw9.symm; subst hw9)
  go_ret
  exact ⟨rfl, rfl⟩

/-- the world behind f := columnsOf(c). -/
theorem cb_laid {c : Nat} {w1 : World} {A : Array Value} : Cb c w1.heap.size ((w1.alloc (.cells A 138)).setRow w1.heap.size (colRow c 8)) :=
  setRow_heap _ _ _ _ _ _ (heap_alloc_new _ _)
end Go.Proofs.Ytdeophhcbkahgaa
