import Derived.Test.YtehbiccpbopkfaaDoorFfah
import Derived.Test.YtehbiccpbopkfaaDoorFfai
namespace Go.Proofs.YtehbiccpbopkfaaDoor
open Go.RowKit Gf2
set_option linter.unusedVariables false

-- layer 25: numbers laid, the lowest byte first
/-- byte j of a number. -/
def by25 (x j : Nat) : Nat := x / 2 ^ (8 * j) % 256
/-- the number in d bytes from place o on. -/
def pn25 (F : Nat → Nat) (o d x c : Nat) : Nat := if o ≤ c ∧ c < o + d then by25 x (c - o) else F c
theorem by_lt25 (x j : Nat) : by25 x j < 256 := Nat.mod_lt _ (by decide)
theorem pn_step25 {F : Nat → Nat} {o i x c : Nat} : (if c = o + i then by25 x i else pn25 F o i x c) = pn25 F o (i + 1) x c := by
  unfold pn25
  by_cases e : c = o + i
  · rw [if_pos e, if_pos (by omega), e, Nat.add_sub_cancel_left]
  · rw [if_neg e]
    by_cases e2 : o ≤ c ∧ c < o + i
    · rw [if_pos e2, if_pos (by omega)]
    · rw [if_neg e2, if_neg (by omega)]
theorem u8by25 (x j e : Nat) (he : 8 * j = e) : IntKind.u8.wrap (((x : Nat) : Int) / 2 ^ e) = ((by25 x j : Nat) : Int) := by
  have h : ((x : Nat) : Int) / 2 ^ e = ((x / 2 ^ e : Nat) : Int) := by simp
  rw [h, IntKind.wrap_u8]
  unfold by25
  rw [he]
  omega
set_option maxHeartbeats 4000000 in
set_option maxRecDepth 100000 in
theorem put25 (g o N d cap x : Nat) (F : Nat → Nat) (w : World) (h : Rw w g N F) (hd : o + d ≤ N) (h8 : d ≤ 8) (hx : x < 18446744073709551616) :
    Calls Tryd.prog 23 #[.slice (some ⟨g, o, none⟩) d cap, .int .u64 (x : Int)] w fun e w' => e = .returned (.tuple #[]) ∧ Only g w w' ∧ Rw w' g N (pn25 F o d x) := by
  have HH : Hid (o + d ≤ N ∧ d ≤ 8 ∧ x < 18446744073709551616) := ⟨hd, h8, hx⟩
  have H0 : Hid (Rw w g N F) := h
  clear h hd h8 hx
  go_enter Tryd.func23, Tryd.ntmps23
  go_wp2
  go_loopw [7] (fun s wr => ∃ i : Nat, i ≤ d ∧ s = .int .i64 ((i : Nat) : Int) ∧ Only g w wr ∧ Rw wr g N (pn25 F o i x)) (fun s _ => d - (intOf s).toNat)
  case atStart => exact ⟨0, Nat.zero_le _, rfl, Only.refl _ _, H0.out.congr (fun c _ => by unfold pn25; rw [if_neg (by omega)])⟩
  case round =>
    obtain ⟨i, hi, rfl, ho, hr⟩ := hrel
    by_cases hin : i < d
    · have ib : ((i : Nat) : Int) < (d : Int) := Int.ofNat_lt.2 hin
      have hoN : o + i < N := by have := HH.out; omega
      have q2 := hr.2.2.cell hoN
      have q3 := hr.2.2.frozen (o + i)
      obtain ⟨e8, he8⟩ : ∃ e8, Hid (8 * i = e8) := ⟨_, rfl⟩
      have HM1 : Hid (wrap64 (8 * ((i : Nat) : Int)) = ((e8 : Nat) : Int)) := by show _ = _; have := he8.out; have := HH.out; unfold wrap64; omega
      have s1 : (0 : Int) ≤ ((e8 : Nat) : Int) := by omega
      have s2 : ((e8 : Nat) : Int) ≤ 64 := by have := he8.out; have := HH.out; omega
      have U1 := u8by25 x i e8 he8.out
      have HC : Hid (i < d ∧ Only g w (wr.setCell ⟨g, o + i, none⟩ (.int .u8 ((by25 x i : Nat) : Int))) ∧ Rw (wr.setCell ⟨g, o + i, none⟩ (.int .u8 ((by25 x i : Nat) : Int))) g N (pn25 F o (i + 1) x)) := ⟨hin, ho.setCell _ _, (hr.set (o + i) _ (by_lt25 x i)).congr (fun c _ => pn_step25)⟩
      have HW3 : Hid (wrap64 (((i : Nat) : Int) + 1) = ((i : Nat) : Int) + 1) := wrap_succ8 (j := i) (by have := HH.out; unfold big; omega)
      generalize by25 x i = bx at U1 HC
      clear ho hr hin hi hoN
      have M1 := HM1.out
      have W3 := HW3.out
      go_wp2
      go_roundw
      case rel => exact ⟨i + 1, HC.out.1, by first | rfl | (rw [W3]; rfl), HC.out.2⟩
      case measure => first | exact meas_lt8 HC.out.1 | (rw [W3]; exact meas_lt8 HC.out.1)
    · have hin2 : i = d := by omega
      have ib : ¬ ((i : Nat) : Int) < (d : Int) := by omega
      rw [hin2] at hr
      have HF : Hid (Only g w wr ∧ Rw wr g N (pn25 F o d x)) := ⟨ho, hr⟩
      clear ho hr hin hi hin2
      go_wp2
      ((try simp only [Exit.inBlock, Exit.then]); first | (refine bodyPost_ret (results_none rfl _ _ _) rfl ?_) | (refine bodyPost_end (results_none rfl _ _ _) rfl ?_))
      exact ⟨rfl, HF.out⟩
end Go.Proofs.YtehbiccpbopkfaaDoor
namespace Go.Proofs.YtehbiccpbopkfaaDoor
open Go.RowKit Gf2
set_option linter.unusedVariables false

-- layer 25: a head, its blocks
/-- a head as a value. -/
def hd25 (f k m i s l b : Int) (st : Nat) : Value := .agg #[.int .i64 f, .int .i64 k, .int .i64 m, .int .i64 i, .int .i64 s, .int .i64 l, .int .i64 b, .int .u64 (st : Int)]
def hc25 (f k m i s l b : Int) (st : Nat) : Array Value := #[.int .i64 f, .int .i64 k, .int .i64 m, .int .i64 i, .int .i64 s, .int .i64 l, .int .i64 b, .int .u64 (st : Int)]
/-- how many blocks. -/
def nb25 (L b : Nat) : Nat := (L + b - 1) / b
set_option maxHeartbeats 4000000 in
set_option maxRecDepth 100000 in
theorem blocksOf25 (f k m i s : Int) (L b st : Nat) (w : World) (hL : L ≤ 1125899906842624) (hb : 1 ≤ b) (hb2 : b ≤ 1048576) :
    Calls Tryd.prog 20 #[hd25 f k m i s (L : Int) (b : Int) st] w fun e w' => e = .returned (.int .i64 ((nb25 L b : Nat) : Int)) ∧ Below w.heap.size w w' := by
  unfold hd25
  have ba : Below w.heap.size w (w.alloc (.cells (hc25 f k m i s (L : Int) (b : Int) st) 38)) := (Below.refl _ _).alloc (Nat.le_refl _) _
  unfold hc25 at ba
  obtain ⟨x, hx⟩ : ∃ x, Hid (L + b - 1 = x) := ⟨_, rfl⟩
  obtain ⟨q, hq⟩ : ∃ q, Hid (nb25 L b = q) := ⟨_, rfl⟩
  have hq2 : x / b = q := by rw [← hx.out, ← hq.out]; rfl
  have ql : q ≤ x := by rw [← hq2]; exact Nat.div_le_self _ _
  have HW1 : Hid (wrap64 (((L : Nat) : Int) + ((b : Nat) : Int)) = ((L : Nat) : Int) + ((b : Nat) : Int)) := by show _ = _; unfold wrap64; omega
  have HW2 : Hid (wrap64 (((L : Nat) : Int) + ((b : Nat) : Int) - 1) = ((x : Nat) : Int)) := by show _ = _; have := hx.out; unfold wrap64; omega
  have HW3 : Hid (wrap64 ((q : Nat) : Int) = ((q : Nat) : Int)) := by show _ = _; have := hx.out; unfold wrap64; omega
  have Q1 : ((x : Nat) : Int) / ((b : Nat) : Int) = ((q : Nat) : Int) := by rw [← hq2]; simp
  have Q2 : (((x : Nat) : Int)).tdiv ((b : Nat) : Int) = ((q : Nat) : Int) := by rw [Int.tdiv_eq_ediv_of_nonneg (by omega)]; exact Q1
  have nb0 : ¬ ((b : Nat) : Int) = 0 := by omega
  have nb0N : ¬ b = 0 := by omega
  rw [hq.out]
  clear hL hb hb2 hx hq hq2 ql
  have W1 := HW1.out
  have W2 := HW2.out
  have W3 := HW3.out
  go_enter Tryd.func20, Tryd.ntmps20
  go_wp2
  go_ret
  exact ⟨by first | rfl | exact ret_int W3, ba⟩
/-- can blocks have so many bytes? -/
def ib25 (f b : Int) : Prop := 1 ≤ b ∧ b ≤ 1048576 ∧ (f ≠ 2 ∨ b % 2 = 0)
set_option maxHeartbeats 4000000 in
set_option maxRecDepth 100000 in
theorem isBlock25 (f b : Int) (r : Bool) (w : World) (h : r = true ↔ ib25 f b) :
    Calls Tryd.prog 26 #[.int .i64 f, .int .i64 b] w fun e w' => e = .returned (.bool r) ∧ w' = w := by
  by_cases h1 : b < 1
  · have hr : r = false := by cases r with | false => rfl | true => (have := (h.1 rfl).1; omega)
    subst hr
    clear h
    go_enter Tryd.func26, Tryd.ntmps26
    go_wp2
    go_ret
    exact ⟨rfl, rfl⟩
  · by_cases h2 : 1048576 < b
    · have hr : r = false := by cases r with | false => rfl | true => (have := (h.1 rfl).2.1; omega)
      subst hr
      clear h
      go_enter Tryd.func26, Tryd.ntmps26
      go_wp2
      go_ret
      exact ⟨rfl, rfl⟩
    · by_cases h3 : f = 2
      · obtain ⟨z, hz⟩ : ∃ z, Hid (b % 2 = z) := ⟨_, rfl⟩
        have T1 : b.tmod 2 = z := by rw [← hz.out]; exact Int.tmod_eq_emod_of_nonneg (by omega)
        have T2 : b % 2 = z := hz.out
        have W1 : wrap64 z = z := by unfold wrap64; omega
        subst h3
        by_cases h4 : z = 0
        · have hr : r = true := h.2 ⟨by omega, by omega, .inr (by omega)⟩
          subst hr h4
          clear h hz
          go_enter Tryd.func26, Tryd.ntmps26
          go_wp2
          go_ret
          exact ⟨rfl, rfl⟩
        · have hr : r = false := by cases r with | false => rfl | true => (rcases (h.1 rfl).2.2 with x | x <;> omega)
          subst hr
          have T3 : (z == 0) = false := by simp; omega
          clear h hz
          go_enter Tryd.func26, Tryd.ntmps26
          go_wp2
          go_ret
          exact ⟨rfl, rfl⟩
      · have hr : r = true := h.2 ⟨by omega, by omega, .inl h3⟩
        subst hr
        have T3 : (f == 2) = false := by simp; omega
        clear h
        go_enter Tryd.func26, Tryd.ntmps26
        go_wp2
        go_ret
        exact ⟨rfl, rfl⟩
end Go.Proofs.YtehbiccpbopkfaaDoor
namespace Go.Proofs.YtehbiccpbopkfaaDoor
open Go.RowKit Gf2
set_option linter.unusedVariables false

-- layer 25: where a block lies
/-- an if of the smaller. -/
theorem min_i25 (a b : Nat) : ((Nat.min a b : Nat) : Int) = min ((a : Nat) : Int) ((b : Nat) : Int) := by
  show ((min a b : Nat) : Int) = _
  omega
set_option maxHeartbeats 4000000 in
set_option maxRecDepth 100000 in
theorem bounds25 (f k m i s : Int) (L b st j : Nat) (w : World) (hL : L ≤ 1125899906842624) (hb : b ≤ 1048576) (hj : j ≤ 1048576) :
    Calls Tryd.prog 21 #[hd25 f k m i s (L : Int) (b : Int) st, .int .i64 (j : Int)] w fun e w' => e = .returned (.tuple #[.int .i64 ((j * b : Nat) : Int), .int .i64 ((Nat.min (j * b + b) L : Nat) : Int)]) ∧ Below w.heap.size w w' := by
  unfold hd25
  have ba : Below w.heap.size w (w.alloc (.cells (hc25 f k m i s (L : Int) (b : Int) st) 38)) := (Below.refl _ _).alloc (Nat.le_refl _) _
  unfold hc25 at ba
  have hjb : j * b ≤ 1048576 * 1048576 := Nat.mul_le_mul hj hb
  obtain ⟨x, hx⟩ : ∃ x, Hid (j * b = x) := ⟨_, rfl⟩
  rw [hx.out] at hjb ⊢
  have P1 : ((j : Nat) : Int) * ((b : Nat) : Int) = ((x : Nat) : Int) := by rw [← hx.out]; simp
  have P2 : wrap64 (((j : Nat) : Int) * ((b : Nat) : Int)) = ((x : Nat) : Int) := by rw [P1]; unfold wrap64; omega
  have W1 : wrap64 ((x : Nat) : Int) = ((x : Nat) : Int) := by unfold wrap64; omega
  obtain ⟨y, hy⟩ : ∃ y, Hid (x + b = y) := ⟨_, rfl⟩
  have W2 : wrap64 (((x : Nat) : Int) + ((b : Nat) : Int)) = ((y : Nat) : Int) := by clear W1 P1; have := hy.out; unfold wrap64; omega
  have W2I : IntKind.i64.wrap (((x : Nat) : Int) + ((b : Nat) : Int)) = ((y : Nat) : Int) := (IntKind.wrap_i64 _).trans (by clear W1 W2 P1; have := hy.out; omega)
  have HB : Hid (∀ q, Below w.heap.size w ((w.alloc (.cells #[.int .i64 f, .int .i64 k, .int .i64 m, .int .i64 i, .int .i64 s, .int .i64 (L : Int), .int .i64 (b : Int), .int .u64 (st : Int)] 38)).drewN q)) := fun q => below_drewN ba q
  rw [hy.out, min_i25]
  clear hL hb hj hjb hx hy ba P1
  go_enter Tryd.func21, Tryd.ntmps21
  go_wp2
  go_quiet (fail)
  go_wp2
  go_ret2
  exact ⟨by first | rfl | (rw [← P2]; rfl), HB.out nq⟩
/-- the number in n bytes, the lowest first. -/
def le25 (F : Nat → Nat) : Nat → Nat
  | 0 => 0
  | i + 1 => le25 F i ||| F i * 2 ^ (8 * i)
theorem sh_lt25 {b i : Nat} (hb : b < 256) (hi : i < 8) : b * 2 ^ (8 * i) < 18446744073709551616 := by
  have h : 2 ^ (8 * i) ≤ 2 ^ 56 := Nat.pow_le_pow_right (by decide) (by omega)
  have h2 : b * 2 ^ (8 * i) ≤ 255 * 2 ^ 56 := Nat.mul_le_mul (by omega) h
  exact Nat.lt_of_le_of_lt h2 (by decide)
theorem le_lt25 {F : Nat → Nat} : ∀ {n : Nat}, n ≤ 8 → (∀ i, i < n → F i < 256) → le25 F n < 18446744073709551616
  | 0, _, _ => Nat.zero_lt_succ _
  | n + 1, h, hF => by exact Nat.or_lt_two_pow (n := 64) (le_lt25 (by omega) (fun i hi => hF i (by omega))) (sh_lt25 (hF n (by omega)) (by omega))
set_option maxHeartbeats 4000000 in
set_option maxRecDepth 100000 in
theorem number25 (v : Value) (n : Nat) (F : Nat → Nat) (w : World) (h : Rb w v n F) (h8 : n ≤ 8) :
    Calls Tryd.prog 43 #[v] w fun e w' => e = .returned (.int .u64 ((le25 F n : Nat) : Int)) ∧ w' = w := by
  obtain ⟨-, hF, a, cap, rfl, -, -, h4⟩ := h
  have HH : Hid (n ≤ 8 ∧ ∀ i, i < n → F i < 256) := ⟨h8, hF⟩
  clear h8 hF
  go_enter Tryd.func43, Tryd.ntmps43
  go_wp2
  go_loopw [3, 8] (fun sr si wr => ∃ i x : Nat, i ≤ n ∧ si = .int .i64 ((i : Nat) : Int) ∧ sr = .int .u64 ((x : Nat) : Int) ∧ Hid (x = le25 F i) ∧ wr = w) (fun _ si _ => n - (intOf si).toNat)
  case atStart => exact ⟨0, 0, Nat.zero_le _, rfl, rfl, rfl, rfl⟩
  case round =>
    obtain ⟨i, x, hi, rfl, rfl, hx, hw⟩ := hrel
    have hw := hw.symm
    subst hw
    by_cases hin : i < n
    · have ib : ((i : Nat) : Int) < (n : Int) := Int.ofNat_lt.2 hin
      obtain ⟨b, o, rfl, hbl, hc⟩ := h4 (by omega)
      have q1 := hc i hin
      have lb := HH.out.2 i hin
      have lx : x < 18446744073709551616 := by rw [hx.out]; exact le_lt25 (by have := HH.out; omega) (fun j hj => HH.out.2 j (by omega))
      obtain ⟨f, hf⟩ : ∃ f, Hid (F i = f) := ⟨_, rfl⟩
      rw [hf.out] at q1 lb
      obtain ⟨e8, he8⟩ : ∃ e8, Hid (8 * i = e8) := ⟨_, rfl⟩
      obtain ⟨s, hs⟩ : ∃ s, Hid (f * 2 ^ e8 = s) := ⟨_, rfl⟩
      have ls : s < 18446744073709551616 := by rw [← hs.out, ← he8.out]; exact sh_lt25 lb (by have := HH.out; omega)
      obtain ⟨x2, hx2⟩ : ∃ x2, Hid (x ||| s = x2) := ⟨_, rfl⟩
      have U1 : IntKind.u64.wrap ((f : Nat) : Int) = ((f : Nat) : Int) := by rw [IntKind.wrap_u64]; omega
      have P1 : ((f : Nat) : Int) * 2 ^ e8 = ((s : Nat) : Int) := by rw [← hs.out]; simp
      have U2 : IntKind.u64.wrap (((f : Nat) : Int) * 2 ^ e8) = ((s : Nat) : Int) := by rw [P1, IntKind.wrap_u64]; omega
      have X1 : bits .or .u64 ((x : Nat) : Int) ((s : Nat) : Int) = ((x2 : Nat) : Int) := by rw [← hx2.out]; exact u64_or_nat x s lx ls
      have HX : Hid (i < n ∧ x2 = le25 F (i + 1)) := ⟨hin, by
        show x2 = le25 F i ||| F i * 2 ^ (8 * i)
        rw [← hx.out, hf.out, he8.out, hs.out, hx2.out]⟩
      have HM1 : Hid (wrap64 (8 * ((i : Nat) : Int)) = ((e8 : Nat) : Int)) := by show _ = _; have := he8.out; have := HH.out; unfold wrap64; omega
      have s1 : (0 : Int) ≤ ((e8 : Nat) : Int) := by omega
      have s2 : ((e8 : Nat) : Int) ≤ 64 := by have := he8.out; have := HH.out; omega
      have HW3 : Hid (wrap64 (((i : Nat) : Int) + 1) = ((i : Nat) : Int) + 1) := wrap_succ8 (j := i) (by have := HH.out; unfold big; omega)
      clear hx hi hin hc hbl h4 lb lx ls hf he8 hs hx2 P1
      have M1 := HM1.out
      have W3 := HW3.out
      go_wp2
      go_roundw
      case rel => exact ⟨i + 1, x2, HX.out.1, by first | rfl | (rw [W3]; rfl), rfl, HX.out.2, by first | trivial | rfl⟩
      case measure => first | exact meas_lt8 HX.out.1 | (rw [W3]; exact meas_lt8 HX.out.1)
    · have hin2 : i = n := by omega
      have ib : ¬ ((i : Nat) : Int) < (n : Int) := by omega
      have HF : Hid (le25 F n = x) := by show _ = _; rw [hx.out, hin2]
      clear hx hi hin hin2 h4
      go_wp2
      go_ret
      exact ⟨by rw [HF.out]; rfl, by first | trivial | rfl⟩
end Go.Proofs.YtehbiccpbopkfaaDoor
namespace Go.Proofs.YtehbiccpbopkfaaDoor
open Go.RowKit Gf2
set_option linter.unusedVariables false

-- layer 25: how long a file is
theorem nb_le25 {L b : Nat} (hb : 1 ≤ b) : nb25 L b ≤ L := by
  unfold nb25
  rcases Nat.eq_zero_or_pos L with h | h
  · subst h
    rw [Nat.div_eq_of_lt (by omega)]
    exact Nat.le_refl _
  · apply Nat.div_le_of_le_mul
    have h3 : (b - 1) * 1 ≤ (b - 1) * L := Nat.mul_le_mul (Nat.le_refl _) h
    have h4 : b * L = (b - 1) * L + L := by
      obtain ⟨c, rfl⟩ : ∃ c, b = c + 1 := ⟨b - 1, by omega⟩
      rw [Nat.add_sub_cancel, Nat.add_mul, Nat.one_mul]
    omega
/-- a call's head in a block of its own. -/
structure Bh25 (w X : World) (f k m i s l b : Int) (st : Nat) : Prop where
  bel : Below w.heap.size w X
  blk : X.heap[w.heap.size]? = some (.cells (hc25 f k m i s l b st) 38 (0, 0))
section
variable {w X X' : World} {f k m i s l b : Int} {st : Nat}
theorem Bh25.new : Bh25 w (w.alloc (.cells (hc25 f k m i s l b st) 38)) f k m i s l b st := ⟨(Below.refl _ _).alloc (Nat.le_refl _) _, heap_alloc_new _ _⟩
theorem Bh25.lt (h : Bh25 w X f k m i s l b st) : w.heap.size < X.heap.size := (Array.getElem?_eq_some_iff.1 h.blk).1
theorem Bh25.below (h : Bh25 w X f k m i s l b st) (hb : Below X.heap.size X X') : Bh25 w X' f k m i s l b st :=
  ⟨h.bel.trans (hb.mono h.bel.size), (hb.block _ h.lt).trans h.blk⟩
theorem Bh25.dr (h : Bh25 w X f k m i s l b st) : Bh25 w X.drew f k m i s l b st := ⟨h.bel.drew, h.blk⟩
theorem Bh25.c5 (h : Bh25 w X f k m i s l b st) : X.cell? ⟨w.heap.size, 5, none⟩ = some (.int .i64 l) := by rw [cell_of_row _ _ 5 _ _ _ h.blk]; rfl
end
set_option maxHeartbeats 4000000 in
set_option maxRecDepth 100000 in
theorem whole25 (f k m i s : Int) (L b st : Nat) (w : World) (hL : L ≤ 1125899906842624) (hb : 1 ≤ b) (hb2 : b ≤ 1048576) :
    Calls Tryd.prog 18 #[hd25 f k m i s (L : Int) (b : Int) st] w fun e w' => e = .returned (.int .i64 ((48 + L + 4 * nb25 L b : Nat) : Int)) ∧ Below w.heap.size w w' := by
  have B0 : Bh25 w _ f k m i s (L : Int) (b : Int) st := Bh25.new
  have HC : Hid (∀ W, Calls Tryd.prog 20 #[hd25 f k m i s (L : Int) (b : Int) st] W fun e w' => e = .returned (.int .i64 ((nb25 L b : Nat) : Int)) ∧ Below W.heap.size W w') := fun W => blocksOf25 f k m i s L b st W hL hb hb2
  unfold hd25 at HC ⊢
  unfold hc25 at B0
  have hq2 := nb_le25 (L := L) hb
  obtain ⟨q, hq⟩ : ∃ q, Hid (nb25 L b = q) := ⟨_, rfl⟩
  rw [hq.out] at hq2 HC ⊢
  obtain ⟨x, hx⟩ : ∃ x, Hid (48 + L = x) := ⟨_, rfl⟩
  have HW : Hid (IntKind.i64.wrap (IntKind.i64.wrap (48 + ((L : Nat) : Int)) + IntKind.i64.wrap (4 * ((q : Nat) : Int))) = ((x + 4 * q : Nat) : Int)) := by
    show _ = _
    have h1 : IntKind.i64.wrap (48 + ((L : Nat) : Int)) = 48 + ((L : Nat) : Int) := (IntKind.wrap_i64 _).trans (by omega)
    have h2 : IntKind.i64.wrap (4 * ((q : Nat) : Int)) = 4 * ((q : Nat) : Int) := (IntKind.wrap_i64 _).trans (by clear h1; omega)
    rw [h1, h2]
    clear h1 h2
    exact (IntKind.wrap_i64 _).trans (by have := hx.out; omega)
  rw [hx.out]
  clear hL hb hb2 hq hq2 hx
  go_enter Tryd.func18, Tryd.ntmps18
  go_wp2
  go_region_with (go_at_call 20; (with_reducible refine (HC.out _).mono ?_); rintro e w9 ⟨rfl, hw9⟩; first | (have B9 := B0.below hw9; have z5 := B9.c5) | (have B9 := B0.dr.below hw9; have z5 := B9.c5) | (have B9 := B0.dr.dr.below hw9; have z5 := B9.c5) | (have B9 := B0.dr.dr.dr.below hw9; have z5 := B9.c5))
  all_goals
    go_wp2
    go_ret
    exact ⟨by first | rfl | exact ret_int HW.out, B9.bel⟩
end Go.Proofs.YtehbiccpbopkfaaDoor
namespace Go.Proofs.YtehbiccpbopkfaaDoor
open Go.RowKit Gf2
set_option linter.unusedVariables false

-- layer 25: the head's own sum
/-- the sum that a head names. -/
def hs25 (F : Nat → Nat) : Nat := le25 (fun i => F (44 + i)) 4
theorem hs_lt25 {F : Nat → Nat} (h : ∀ i, i < 4 → F (44 + i) < 256) : hs25 F < 4294967296 := by
  have e : ∀ i, i < 4 → F (44 + i) * 2 ^ (8 * i) < 2 ^ 32 := by
    intro i hi
    have h2 : 2 ^ (8 * i) ≤ 2 ^ 24 := Nat.pow_le_pow_right (by decide) (by omega)
    have h3 : F (44 + i) * 2 ^ (8 * i) ≤ 255 * 2 ^ 24 := Nat.mul_le_mul (by have := h i hi; omega) h2
    exact Nat.lt_of_le_of_lt h3 (by decide)
  show ((((0 ||| _) ||| _) ||| _) ||| _) < 2 ^ 32
  exact Nat.or_lt_two_pow (Nat.or_lt_two_pow (Nat.or_lt_two_pow (Nat.or_lt_two_pow (by decide) (e 0 (by decide))) (e 1 (by decide))) (e 2 (by decide))) (e 3 (by decide))
set_option maxHeartbeats 4000000 in
set_option maxRecDepth 100000 in
theorem headSum25 (v : Value) (n : Nat) (F : Nat → Nat) (w : World) (h : Rb w v n F) (h8 : 48 ≤ n) :
    Calls Tryd.prog 38 #[v] w fun e w' => e = .returned (.int .u32 ((hs25 F : Nat) : Int)) ∧ w' = w := by
  have hF := hs_lt25 (F := F) (fun i hi => h.2.1 _ (by omega))
  obtain ⟨-, -, a, cap, rfl, hc, hc2, h4⟩ := id h
  obtain ⟨b, o, rfl, -, -⟩ := h4 (by omega)
  have q := (h.drop (o := 44) (by omega)).cut (n := 4) (by omega) (by omega)
  have c1 := number25 _ 4 _ w q (by decide)
  have W1 : IntKind.u32.wrap ((hs25 F : Nat) : Int) = ((hs25 F : Nat) : Int) := by rw [IntKind.wrap_u32]; omega
  have k1 : (48 : Int) ≤ ((cap : Nat) : Int) := by omega
  have k2 : (48 : Int) ≤ ((n : Nat) : Int) := by omega
  change Calls _ _ _ _ (fun e w' => e = .returned (.int .u64 ((hs25 F : Nat) : Int)) ∧ w' = w) at c1
  generalize hs25 F = s at c1 W1 ⊢
  clear h hF h4 hc2 q h8
  go_enter Tryd.func38, Tryd.ntmps38
  go_wp2_with (go_at_call 43; (with_reducible refine c1.mono ?_); rintro e w9 ⟨rfl, hw9⟩; have hw9 := hw9.symm; subst hw9; clear c1)
  go_ret
  exact ⟨by first | rfl | (rw [W1]), rfl⟩
end Go.Proofs.YtehbiccpbopkfaaDoor
namespace Go.Proofs.YtehbiccpbopkfaaDoor
open Go.RowKit Gf2
set_option linter.unusedVariables false

-- layer 25: a block and its sum in the file
set_option maxHeartbeats 4000000 in
set_option maxRecDepth 100000 in
theorem held25_no (a : Option Addr) (n cap : Nat) (f k m i s : Int) (L b st j y : Nat) (w : World) (hL : L ≤ 1125899906842624) (hb : b ≤ 1048576) (hj : j ≤ 1048576) (hy : Nat.min (j * b + b) L = y) (hx : j * b < y) (hn : n < 52 + 4 * j + y) :
    Calls Tryd.prog 22 #[.slice a n cap, hd25 f k m i s (L : Int) (b : Int) st, .int .i64 (j : Int)] w fun e w' => e = .returned (.tuple #[.slice none 0 0, .slice none 0 0, .bool false]) ∧ Below w.heap.size w w' := by
  have B0 : Bh25 w _ f k m i s (L : Int) (b : Int) st := Bh25.new
  have c1 := bounds25 f k m i s L b st j (w.alloc (.cells (hc25 f k m i s (L : Int) (b : Int) st) 38)) hL hb hj
  have hjb : j * b ≤ 1048576 * 1048576 := Nat.mul_le_mul hj hb
  have yl : y ≤ L := by rw [← hy]; exact Nat.min_le_right _ _
  rw [hy] at c1
  obtain ⟨x, hxx⟩ : ∃ x, Hid (j * b = x) := ⟨_, rfl⟩
  rw [hxx.out] at hjb c1 hx
  unfold hd25 at c1 ⊢
  unfold hc25 at B0 c1
  obtain ⟨t, ht⟩ : ∃ t, Hid (48 + x + 4 * j = t) := ⟨_, rfl⟩
  obtain ⟨z, hz⟩ : ∃ z, Hid (48 + 4 * j + y = z) := ⟨_, rfl⟩
  have W0 : wrap64 (48 + ((x : Nat) : Int)) = 48 + ((x : Nat) : Int) := by unfold wrap64; omega
  have W1 : wrap64 (4 * ((j : Nat) : Int)) = 4 * ((j : Nat) : Int) := by clear W0; unfold wrap64; omega
  have W2 : wrap64 (48 + ((x : Nat) : Int) + 4 * ((j : Nat) : Int)) = ((t : Nat) : Int) := by clear W0 W1; have := ht.out; unfold wrap64; omega
  have W3 : wrap64 (((t : Nat) : Int) + ((y : Nat) : Int)) = ((t : Nat) : Int) + ((y : Nat) : Int) := by clear W0 W1 W2; have := ht.out; unfold wrap64; omega
  have W4 : wrap64 (((t : Nat) : Int) + ((y : Nat) : Int) - ((x : Nat) : Int)) = ((z : Nat) : Int) := by clear W0 W1 W2 W3; have := ht.out; have := hz.out; unfold wrap64; omega
  have W5 : wrap64 (((z : Nat) : Int) + 4) = ((z : Nat) : Int) + 4 := by clear W0 W1 W2 W3 W4; have := hz.out; unfold wrap64; omega
  have k1 : ((n : Nat) : Int) < ((z : Nat) : Int) + 4 := by clear W0 W1 W2 W3 W4 W5; have := hz.out; omega
  clear hL hb hj hy hx hn hjb yl hxx ht hz
  go_enter Tryd.func22, Tryd.ntmps22
  go_wp2_with (go_at_call 21; (with_reducible refine c1.mono ?_); rintro e w9 ⟨rfl, hw9⟩; clear c1)
  go_ret3
  exact ⟨rfl, (B0.below hw9).bel⟩
end Go.Proofs.YtehbiccpbopkfaaDoor
namespace Go.Proofs.YtehbiccpbopkfaaDoor
open Go.RowKit Gf2
set_option linter.unusedVariables false

-- layer 25: a block and its sum that lie in the file
theorem elem_u25 : Tryd.prog.elem 27 = 5 := by kernel_rfl
theorem size_u25 (W : World) : (sizeOf 5).run Tryd.prog W = .ok 1 W := by
  obtain ⟨i, hi, -, hs, -⟩ := info_u8a
  simp [sizeOf, typeInfo, hi, hs]
/-- a piece of a list of bytes. -/
theorem cut25 (b o n cx f t : Nat) (hft : f < t) (ht : t ≤ cx) (W : World) :
    (Instr.slice 27 (.slice (some ⟨b, o, none⟩) n cx) (some (.int .i64 (f : Int))) (some (.int .i64 (t : Int))) none).run Tryd.prog W = .ok (.slice (some ⟨b, o + f, none⟩) (t - f) (cx - f)) W := by
  have hu : Tryd.prog.underlying 27 = some (.slice (Tryd.prog.elem 27)) := by rw [elem_u25]; exact Tryd.underlying27
  have h := run_slice_lh (P := Tryd.prog) (w := W) 27 (some ⟨b, o, none⟩) n cx hu .i64 .i64 (f : Int) (t : Int) (by omega) (by omega) (by omega)
  rw [h, elem_u25, size_u25]
  simp only [Result.andThen, sliced, Int.toNat_natCast, Nat.mul_one]
  rw [if_neg (by omega)]
  show Result.ok (Value.slice (some ((⟨b, o, none⟩ : Addr).add f)) (t - f) (cx - f)) W = _
  rw [Addr.add_lit]
set_option maxHeartbeats 4000000 in
set_option maxRecDepth 100000 in
theorem held25_yes (fb o n cap : Nat) (f k m i s : Int) (L b st j y : Nat) (w : World) (hL : L ≤ 1125899906842624) (hb : b ≤ 1048576) (hj : j ≤ 1048576) (hy : Nat.min (j * b + b) L = y) (hx : j * b < y) (hn : 52 + 4 * j + y ≤ n) (hc : n ≤ cap) :
    Calls Tryd.prog 22 #[.slice (some ⟨fb, o, none⟩) n cap, hd25 f k m i s (L : Int) (b : Int) st, .int .i64 (j : Int)] w fun e w' => e = .returned (.tuple #[.slice (some ⟨fb, o + (48 + j * b + 4 * j), none⟩) (y - j * b) (cap - (48 + j * b + 4 * j)), .slice (some ⟨fb, o + (48 + 4 * j + y), none⟩) 4 (cap - (48 + 4 * j + y)), .bool true]) ∧ Below w.heap.size w w' := by
  have B0 : Bh25 w _ f k m i s (L : Int) (b : Int) st := Bh25.new
  have c1 := bounds25 f k m i s L b st j (w.alloc (.cells (hc25 f k m i s (L : Int) (b : Int) st) 38)) hL hb hj
  have hjb : j * b ≤ 1048576 * 1048576 := Nat.mul_le_mul hj hb
  have yl : y ≤ L := by rw [← hy]; exact Nat.min_le_right _ _
  rw [hy] at c1
  obtain ⟨x, hxx⟩ : ∃ x, Hid (j * b = x) := ⟨_, rfl⟩
  rw [hxx.out] at hjb c1 hx ⊢
  unfold hd25 at c1 ⊢
  unfold hc25 at B0 c1
  obtain ⟨t, ht⟩ : ∃ t, Hid (48 + x + 4 * j = t) := ⟨_, rfl⟩
  obtain ⟨z, hz⟩ : ∃ z, Hid (48 + 4 * j + y = z) := ⟨_, rfl⟩
  obtain ⟨g, hg⟩ : ∃ g, Hid (y - x = g) := ⟨_, rfl⟩
  have W0 : wrap64 (48 + ((x : Nat) : Int)) = 48 + ((x : Nat) : Int) := by unfold wrap64; omega
  have W1 : wrap64 (4 * ((j : Nat) : Int)) = 4 * ((j : Nat) : Int) := by clear W0; unfold wrap64; omega
  have W2 : wrap64 (48 + ((x : Nat) : Int) + 4 * ((j : Nat) : Int)) = ((t : Nat) : Int) := by clear W0 W1; have := ht.out; unfold wrap64; omega
  have W3 : wrap64 (((t : Nat) : Int) + ((y : Nat) : Int)) = ((t : Nat) : Int) + ((y : Nat) : Int) := by clear W0 W1 W2; have := ht.out; unfold wrap64; omega
  have W4 : wrap64 (((t : Nat) : Int) + ((y : Nat) : Int) - ((x : Nat) : Int)) = ((z : Nat) : Int) := by clear W0 W1 W2 W3; have := ht.out; have := hz.out; unfold wrap64; omega
  have W5 : wrap64 (((z : Nat) : Int) + 4) = ((z : Nat) : Int) + 4 := by clear W0 W1 W2 W3 W4; have := hz.out; unfold wrap64; omega
  have W6 : IntKind.i64.wrap (((z : Nat) : Int) + 4) = ((z : Nat) : Int) + 4 := (IntKind.wrap_i64 _).trans (by clear W0 W1 W2 W3 W4 W5; have := hz.out; omega)
  have k1 : ¬ ((n : Nat) : Int) < ((z : Nat) : Int) + 4 := by clear W0 W1 W2 W3 W4 W5 W6; have := hz.out; omega
  have k2 : t ≤ z := by clear W0 W1 W2 W3 W4 W5 W6; have := hz.out; have := ht.out; omega
  have k3 : z + 4 ≤ cap := by clear W0 W1 W2 W3 W4 W5 W6; have := hz.out; omega
  have k4 : z - t = g := by clear W0 W1 W2 W3 W4 W5 W6; have := hz.out; have := ht.out; have := hg.out; omega
  have k6 : t < z := by clear W0 W1 W2 W3 W4 W5 W6; have := hz.out; have := ht.out; omega
  have k7 : z ≤ cap := Nat.le_trans (Nat.le_add_right _ _) k3
  have k8 : z < z + 4 := Nat.lt_add_of_pos_right (by decide)
  have k9 : z + 4 - z = 4 := Nat.add_sub_cancel_left _ _
  have D1 : decide (((n : Nat) : Int) < ((z : Nat) : Int) + 4) = false := decide_eq_false k1
  have C1 : ∀ W, (Instr.slice 27 (.slice (some ⟨fb, o, none⟩) n cap) (some (.int .i64 (t : Int))) (some (.int .i64 (z : Int))) none).run Tryd.prog W = .ok (.slice (some ⟨fb, o + t, none⟩) g (cap - t)) W := fun W => by
    have h := cut25 fb o n cap t z k6 k7 W
    rw [k4] at h
    exact h
  have C2 : ∀ W, (Instr.slice 27 (.slice (some ⟨fb, o, none⟩) n cap) (some (.int .i64 (z : Int))) (some (.int .i64 (((z : Nat) : Int) + 4))) none).run Tryd.prog W = .ok (.slice (some ⟨fb, o + z, none⟩) 4 (cap - z)) W := fun W => by
    have h := cut25 fb o n cap z (z + 4) k8 k3 W
    rw [k9, show ((z + 4 : Nat) : Int) = ((z : Nat) : Int) + 4 from rfl] at h
    exact h
  have H1 : Hid (∀ W, _) := C1
  have H2 : Hid (∀ W, _) := C2
  clear C1 C2
  rw [ht.out, hz.out, hg.out]
  clear k1 k2 k3 k4 k6 k7 k8 k9
  clear hL hb hj hy hx hn hjb yl hxx ht hz hg hc
  go_enter Tryd.func22, Tryd.ntmps22
  go_wp2_with (go_at_call 21; (with_reducible refine c1.mono ?_); rintro e w9 ⟨rfl, hw9⟩; clear c1)
  have C1 := H1.out
  have C2 := H2.out
  have C3 : ∀ W, (Instr.slice 27 (.slice (some ⟨fb, o, none⟩) n cap) (some (.int .i64 (z : Int))) (some (.int .i64 (IntKind.i64.wrap (((z : Nat) : Int) + 4)))) none).run Tryd.prog W = .ok (.slice (some ⟨fb, o + z, none⟩) 4 (cap - z)) W := by rw [show IntKind.i64.wrap (((z : Nat) : Int) + 4) = ((z : Nat) : Int) + 4 from W6]; exact C2
  simp only [W2, W4]
  clear W0 W1 W2 W3 W4 W6
  go_quiet (fail)
  go_wp2
  go_ret3
  exact ⟨rfl, below_drewN (B0.below hw9).bel nq⟩
end Go.Proofs.YtehbiccpbopkfaaDoor
namespace Go.Proofs.YtehbiccpbopkfaaDoor
open Go.RowKit Gf2
set_option linter.unusedVariables false

-- layer 25: mathematics of numbers in bytes and of the sum bit by bit
theorem or_add25 {a k c : Nat} (h : a < 2 ^ k) : a ||| c * 2 ^ k = a + c * 2 ^ k := by
  rw [Nat.or_comm, Nat.mul_comm c, ← Nat.two_pow_add_eq_or_of_lt h, Nat.add_comm]
theorem le_lt' {F : Nat → Nat} : ∀ {n : Nat}, (∀ i, i < n → F i < 256) → le25 F n < 2 ^ (8 * n)
  | 0, _ => Nat.two_pow_pos _
  | n + 1, hF => by
    have h1 := le_lt' (n := n) (fun i hi => hF i (by omega))
    have h2 := hF n (by omega)
    show le25 F n ||| F n * 2 ^ (8 * n) < _
    rw [or_add25 h1, show 8 * (n + 1) = 8 * n + 8 by omega, Nat.pow_add]
    have h3 : F n * 2 ^ (8 * n) ≤ 255 * 2 ^ (8 * n) := Nat.mul_le_mul (by omega) (Nat.le_refl _)
    omega
theorem le_succ25 {F : Nat → Nat} {n : Nat} (h : ∀ i, i < n → F i < 256) : le25 F (n + 1) = le25 F n + F n * 2 ^ (8 * n) := or_add25 (le_lt' h)
theorem le_congr25 {F G : Nat → Nat} : ∀ {n : Nat}, (∀ i, i < n → F i = G i) → le25 F n = le25 G n
  | 0, _ => rfl
  | n + 1, h => by show _ ||| _ = _ ||| _; rw [le_congr25 (fun i hi => h i (by omega)), h n (by omega)]
/-- what is laid is read. -/
theorem le_by25 (x : Nat) : ∀ n, le25 (by25 x) n = x % 2 ^ (8 * n)
  | 0 => by show 0 = _; rw [Nat.mul_zero, Nat.pow_zero, Nat.mod_one]
  | n + 1 => by
    rw [le_succ25 (fun i _ => by_lt25 x i), le_by25 x n, show 8 * (n + 1) = 8 * n + 8 by omega, Nat.pow_add, Nat.mod_mul]
    show _ + x / 2 ^ (8 * n) % 256 * _ = _
    rw [Nat.mul_comm (x / 2 ^ (8 * n) % 256)]
/-- from the other end. -/
theorem le_front25 {F : Nat → Nat} : ∀ {n : Nat}, (∀ i, i < n + 1 → F i < 256) → le25 F (n + 1) = le25 (fun i => F (i + 1)) n * 256 + F 0
  | 0, h => by rw [le_succ25 (fun i hi => by omega)]; show 0 + F 0 * 1 = 0 * 256 + F 0; omega
  | n + 1, h => by
    rw [le_succ25 (fun i hi => h i (by omega)), le_front25 (n := n) (fun i hi => h i (by omega)), le_succ25 (fun i hi => h (i + 1) (by omega)), show 8 * (n + 1) = 8 * n + 8 by omega, Nat.pow_add, Nat.add_mul, ← Nat.mul_assoc]
    omega
/-- the document's step of one bit. -/
def pt25 (x : Nat) : Nat := if x % 2 = 1 then 3988292384 else 0
def bs25 (x : Nat) : Nat := x / 2 ^^^ pt25 x
theorem pt_mod25 {x y : Nat} (h : x % 2 = y % 2) : pt25 x = pt25 y := by unfold pt25; rw [h]
theorem pt_xor25 (x y : Nat) : pt25 (x ^^^ y) = pt25 x ^^^ pt25 y := by
  unfold pt25
  have h : (x ^^^ y) % 2 = (x % 2 ^^^ y % 2) := by rw [Nat.xor_mod_two_pow (n := 1) |>.symm.symm]
  rw [h]
  rcases Nat.mod_two_eq_zero_or_one x with e | e <;> rcases Nat.mod_two_eq_zero_or_one y with e2 | e2 <;> rw [e, e2] <;> decide
theorem bs_xor25 (x y : Nat) : bs25 (x ^^^ y) = bs25 x ^^^ bs25 y := by
  unfold bs25
  have h : (x ^^^ y) / 2 = x / 2 ^^^ y / 2 := Nat.xor_div_two_pow (n := 1)
  rw [h, pt_xor25]
  rw [Nat.xor_assoc, Nat.xor_assoc, ← Nat.xor_assoc (y / 2), Nat.xor_comm (y / 2), Nat.xor_assoc]
theorem pt_tab25 : ∀ m, m < 16 → pt25 (m / 8) ^^^ (bs25 (pt25 (m / 4)) ^^^ (bs25 (bs25 (pt25 (m / 2))) ^^^ bs25 (bs25 (bs25 (pt25 m))))) = fsn m := by decide +kernel
/-- half a byte's step is four of these. -/
theorem fh_bits25 (x : Nat) : bs25 (bs25 (bs25 (bs25 x))) = fh x := by
  have e1 : bs25 x = x / 2 ^^^ pt25 x := rfl
  have e2 : bs25 (x / 2) = x / 4 ^^^ pt25 (x / 2) := by show x / 2 / 2 ^^^ _ = _; rw [Nat.div_div_eq_div_mul]
  have e3 : bs25 (x / 4) = x / 8 ^^^ pt25 (x / 4) := by show x / 4 / 2 ^^^ _ = _; rw [Nat.div_div_eq_div_mul]
  have e4 : bs25 (x / 8) = x / 16 ^^^ pt25 (x / 8) := by show x / 8 / 2 ^^^ _ = _; rw [Nat.div_div_eq_div_mul]
  have m1 : pt25 x = pt25 (x % 16) := pt_mod25 (by omega)
  have m2 : pt25 (x / 2) = pt25 (x % 16 / 2) := pt_mod25 (by omega)
  have m3 : pt25 (x / 4) = pt25 (x % 16 / 4) := pt_mod25 (by omega)
  have m4 : pt25 (x / 8) = pt25 (x % 16 / 8) := pt_mod25 (by omega)
  simp only [e1, bs_xor25, e2, e3, e4, m1, m2, m3, m4]
  unfold fh
  rw [← pt_tab25 (x % 16) (Nat.mod_lt _ (by decide))]
  simp only [Nat.xor_assoc]
/-- i of the eight steps. -/
def bsn25 (x : Nat) : Nat → Nat
  | 0 => x
  | i + 1 => bs25 (bsn25 x i)
theorem fby_bits25 (x b : Nat) : bsn25 (x ^^^ b) 8 = fby x b := by
  show bs25 (bs25 (bs25 (bs25 (bs25 (bs25 (bs25 (bs25 (x ^^^ b)))))))) = _
  rw [fh_bits25, fh_bits25]
  rfl
theorem bs_lt25 {x : Nat} (h : x < 4294967296) : bs25 x < 4294967296 := by
  unfold bs25 pt25
  refine Nat.xor_lt_two_pow (n := 32) (by omega) ?_
  split <;> decide
theorem bsn_lt25 {x : Nat} (h : x < 4294967296) : ∀ i, bsn25 x i < 4294967296
  | 0 => h
  | i + 1 => bs_lt25 (bsn_lt25 h i)
end Go.Proofs.YtehbiccpbopkfaaDoor
namespace Go.Proofs.YtehbiccpbopkfaaDoor
open Go.RowKit Gf2
set_option linter.unusedVariables false

-- layer 25: a block's sum
/-- a block's sum, by the head's own sum. -/
def bsm25 (h j g : Nat) (S : Nat → Nat) : Nat := nt (fol25 (nt (nt (fol25 (nt h) (by25 j) 4))) S g)
theorem bsm_lt25 {h j g : Nat} {S : Nat → Nat} (hh : h < 4294967296) (hS : ∀ i, i < g → S i < 256) : bsm25 h j g S < 4294967296 :=
  nt_lt (fol_lt (nt_lt (nt_lt (fol_lt (nt_lt hh) 4 (fun i _ => by_lt25 j i)))) g hS)
theorem pn_fill25 (F : Nat → Nat) (x d i : Nat) (hi : i < d) : pn25 F 0 d x i = by25 x i := by
  unfold pn25
  rw [if_pos ⟨Nat.zero_le _, by omega⟩, Nat.sub_zero]
theorem Only.below25 {w a b : World} (hb : Below w.heap.size w a) (ho : Only w.heap.size a b) : Below w.heap.size w b := hb.trans (ho.below (Nat.le_refl _))
set_option maxHeartbeats 4000000 in
set_option maxRecDepth 100000 in
theorem blockSum25 (v u : Value) (n g j : Nat) (F S : Nat → Nat) (w : World) (h : Rb w v n F) (hu : Rb w u g S) (hT : Fsh w) (h8 : 48 ≤ n) (hj : j ≤ 1048576) :
    Calls Tryd.prog 24 #[v, .int .i64 (j : Int), u] w fun e w' => e = .returned (.int .u32 ((bsm25 (hs25 F) j g S : Nat) : Int)) ∧ Below w.heap.size w w' := by
  have b0 : Below w.heap.size w (w.alloc (.cells (madeCells #[.int .u8 0] 4) 5)) := (Below.refl _ _).alloc (Nat.le_refl _) _
  have r0 : Rw (w.alloc (.cells (madeCells #[.int .u8 0] 4) 5)) w.heap.size 4 (fun _ => 0) := made_rw 4 (by omega) w
  have hmk : ∀ w, (Instr.makeSlice 27 (.int .i64 4) (.int .i64 4)).run Tryd.prog w = .ok (.slice (some ⟨w.heap.size, 0, none⟩) 4 4) (w.alloc (.cells (madeCells #[.int .u8 0] 4) 5)) := fun w => make_u8 4 (by omega) w
  have c1 := put25 w.heap.size 0 4 4 4 j _ _ r0 (by omega) (by omega) (by omega)
  have hh := hs_lt25 (F := F) (fun i hi => h.2.1 _ (by omega))
  have c2 : Hid (∀ W, Below w.heap.size w W → Calls Tryd.prog 38 #[v] W fun e w' => e = .returned (.int .u32 ((hs25 F : Nat) : Int)) ∧ w' = W) := fun W hb => headSum25 v n F W (h.below hb) h8
  have c3 : Hid (∀ W, Below w.heap.size w W → Rw W w.heap.size 4 (pn25 (fun _ => 0) 0 4 j) → Calls Tryd.prog 10 #[.int .u32 ((hs25 F : Nat) : Int), .slice (some ⟨w.heap.size, 0, none⟩) 4 4] W fun e w' => e = .returned (.int .u32 ((nt (fol25 (nt (hs25 F)) (by25 j) 4) : Nat) : Int)) ∧ w' = W) := fun W hb hr => by
    have e := fold25 (hs25 F) _ 4 (by25 j) W (hr.rb0.congr (fun i hi => pn_fill25 _ _ _ _ hi)) (hT.below hb) hh
    exact e
  have c4 : Hid (∀ W, Below w.heap.size w W → Calls Tryd.prog 10 #[.int .u32 ((nt (fol25 (nt (hs25 F)) (by25 j) 4) : Nat) : Int), u] W fun e w' => e = .returned (.int .u32 ((bsm25 (hs25 F) j g S : Nat) : Int)) ∧ w' = W) := fun W hb =>
    fold25 _ u g S W (hu.below hb) (hT.below hb) (nt_lt (fol_lt (nt_lt hh) 4 (fun i _ => by_lt25 j i)))
  have U1 : IntKind.u64.wrap ((j : Nat) : Int) = ((j : Nat) : Int) := by rw [IntKind.wrap_u64]; omega
  have HB : Hid (Below w.heap.size w (w.alloc (.cells (madeCells #[.int .u8 0] 4) 5))) := b0
  generalize bsm25 (hs25 F) j g S = z at c4 ⊢
  generalize nt (fol25 (nt (hs25 F)) (by25 j) 4) = y at c3 c4
  generalize hs25 F = x at c2 c3
  clear h hu hT h8 hj hh b0 r0
  go_enter Tryd.func24, Tryd.ntmps24
  go_wp2_with (first
    | (go_at_call 23; (with_reducible refine c1.mono ?_); rintro e w9 ⟨rfl, ho, hr⟩; clear c1; have hb9 := Only.below25 HB.out ho; have d2 := c2.out w9 hb9; have d3 := c3.out w9 hb9 hr; have d4 := c4.out w9 hb9; clear c2 c3 c4 ho hr)
    | (go_at_call 38; (with_reducible refine d2.mono ?_); rintro e w8 ⟨rfl, hw⟩; have hw := hw.symm; subst hw; clear d2)
    | (go_at_call 10; first | ((with_reducible refine d3.mono ?_); rintro e w8 ⟨rfl, hw⟩; have hw := hw.symm; subst hw; clear d3) | ((with_reducible refine d4.mono ?_); rintro e w8 ⟨rfl, hw⟩; have hw := hw.symm; subst hw; clear d4)))
  go_ret
  exact ⟨rfl, hb9⟩
end Go.Proofs.YtehbiccpbopkfaaDoor
namespace Go.Proofs.YtehbiccpbopkfaaDoor
open Go.RowKit Gf2
set_option linter.unusedVariables false

-- layer 25: the document's Fold and Sum, bit by bit
theorem bs_odd25 {y d : Nat} (hd : y / 2 = d) (h : y % 2 = 1) : bs25 y = d ^^^ 3988292384 := by
  unfold bs25 pt25
  rw [if_pos h, hd]
theorem bs_even25 {y d : Nat} (hd : y / 2 = d) (h : y % 2 = 0) : bs25 y = d := by
  unfold bs25 pt25
  rw [if_neg (by omega), hd, Nat.xor_zero]
theorem and_one25 (y : Nat) (h : y < 4294967296) : bits .and .u32 (y : Int) 1 = ((y % 2 : Nat) : Int) := by
  have h2 := u32_and_nat y 1 h (by decide)
  rw [Nat.and_one_is_mod] at h2
  exact h2
set_option maxHeartbeats 8000000 in
set_option maxRecDepth 100000 in
theorem rfold25 (s : Nat) (v : Value) (n : Nat) (F : Nat → Nat) (w : World) (h : Rb w v n F) (hs : s < 4294967296) :
    Calls Tryd.prog 11 #[.int .u32 (s : Int), v] w fun e w' => e = .returned (.int .u32 ((nt (fol25 (nt s) F n) : Nat) : Int)) ∧ w' = w := by
  obtain ⟨hnb, hF, a, cap, rfl, -, -, h4⟩ := h
  have N0 := n32 s hs
  have HL : Hid (∀ i, i ≤ n → fol25 (nt s) F i < 4294967296) := fun i hi => fol_lt (nt_lt hs) i (fun j hj => hF j (by omega))
  have HN : Hid (n ≤ big) := hnb
  obtain ⟨s0, hs0⟩ : ∃ s0, Hid (nt s = s0) := ⟨_, rfl⟩
  rw [hs0.out] at N0 HL
  rw [hs0.out]
  clear hs hs0 hnb
  go_enter Tryd.func11, Tryd.ntmps11
  go_wp2
  clear N0
  go_loopw [5, 6] (fun sr si wr => ∃ i x : Nat, i ≤ n ∧ si = .int .i64 ((i : Nat) : Int) ∧ sr = .int .u32 ((x : Nat) : Int) ∧ Hid (x = fol25 s0 F i) ∧ wr = w) (fun _ si _ => n - (intOf si).toNat)
  case atStart => exact ⟨0, s0, Nat.zero_le _, rfl, rfl, rfl, rfl⟩
  case round =>
    obtain ⟨i, x, hi, rfl, rfl, hx, hw⟩ := hrel
    have hw := hw.symm
    subst hw
    have lx : x < 4294967296 := by rw [hx.out]; exact HL.out i hi
    by_cases hin : i < n
    · have ib : ((i : Nat) : Int) < (n : Int) := Int.ofNat_lt.2 hin
      obtain ⟨b, o, rfl, hbl, hc⟩ := h4 (by omega)
      have q1 := hc i hin
      have lb := hF i hin
      obtain ⟨f, hf⟩ : ∃ f, Hid (F i = f) := ⟨_, rfl⟩
      rw [hf.out] at q1 lb
      have U1 : IntKind.u32.wrap ((f : Nat) : Int) = ((f : Nat) : Int) := by rw [IntKind.wrap_u32]; omega
      obtain ⟨x1, hx1⟩ : ∃ x1, Hid (x ^^^ f = x1) := ⟨_, rfl⟩
      have l1 : x1 < 4294967296 := by rw [← hx1.out]; exact Nat.xor_lt_two_pow (n := 32) lx (by omega)
      have X1 : bits .xor .u32 ((x : Nat) : Int) ((f : Nat) : Int) = ((x1 : Nat) : Int) := by rw [← hx1.out]; exact u32_xor_nat x f lx (by omega)
      have HX : Hid (i < n ∧ bsn25 x1 8 = fol25 s0 F (i + 1) ∧ x1 < 4294967296) := ⟨hin, by
        show bsn25 x1 8 = fby (fol25 s0 F i) (F i)
        rw [← hx1.out, fby_bits25, ← hx.out, hf.out], l1⟩
      have HW3 : Hid (wrap64 (((i : Nat) : Int) + 1) = ((i : Nat) : Int) + 1) := wrap_succ8 (j := i) (Nat.lt_of_lt_of_le hin HN.out)
      clear hx hi hin hc hbl h4 hF lx lb l1 hf hx1
      go_wp2
      clear X1 U1 q1 ib
      go_loopw [5, 7] (fun sr sj wr => ∃ j y : Nat, j ≤ 8 ∧ sj = .int .i64 ((j : Nat) : Int) ∧ sr = .int .u32 ((y : Nat) : Int) ∧ Hid (y = bsn25 x1 j) ∧ wr = w) (fun _ sj _ => 8 - (intOf sj).toNat)
      case atStart => exact ⟨0, x1, Nat.zero_le _, rfl, rfl, rfl, rfl⟩
      case round =>
        obtain ⟨j, y, hj, rfl, rfl, hy, hw⟩ := hrel
        have hw := hw.symm
        subst hw
        have ly : y < 4294967296 := by rw [hy.out]; exact bsn_lt25 HX.out.2.2 j
        by_cases hj8 : j < 8
        · have ib : ((j : Nat) : Int) < 8 := by omega
          obtain ⟨d, hd⟩ : ∃ d, Hid (y / 2 = d) := ⟨_, rfl⟩
          have D1 : ((y : Nat) : Int) / 2 = ((d : Nat) : Int) := by have := hd.out; omega
          have ld : d < 4294967296 := by have := hd.out; omega
          have HW4 : Hid (wrap64 (((j : Nat) : Int) + 1) = ((j : Nat) : Int) + 1 ∧ j < 8) := ⟨wrap_succ8 (j := j) (by unfold big; omega), hj8⟩
          by_cases hp : y % 2 = 1
          · have A1 : bits .and .u32 ((y : Nat) : Int) 1 = 1 := by rw [and_one25 y ly, hp]; rfl
            obtain ⟨z, hz⟩ : ∃ z, Hid (d ^^^ 3988292384 = z) := ⟨_, rfl⟩
            have X2 : bits .xor .u32 ((d : Nat) : Int) 3988292384 = ((z : Nat) : Int) := by rw [← hz.out]; exact u32_xor_nat d 3988292384 ld (by decide)
            have HY : Hid (z = bsn25 x1 (j + 1)) := by
              show z = bs25 (bsn25 x1 j)
              rw [← hy.out, bs_odd25 hd.out hp, hz.out]
            clear hy hj hj8 hd hp hz ly ld
            have W4 := HW4.out.1
            go_wp2
            go_roundw
            case rel => exact ⟨j + 1, z, HW4.out.2, by first | rfl | (rw [W4]; rfl), rfl, HY.out, by first | trivial | rfl⟩
            case measure => first | exact meas_lt8 HW4.out.2 | (rw [W4]; exact meas_lt8 HW4.out.2)
          · have hp0 : y % 2 = 0 := by omega
            have A1 : bits .and .u32 ((y : Nat) : Int) 1 = 0 := by rw [and_one25 y ly, hp0]; rfl
            have HY : Hid (d = bsn25 x1 (j + 1)) := by
              show d = bs25 (bsn25 x1 j)
              rw [← hy.out, bs_even25 hd.out hp0]
            clear hy hj hj8 hd hp hp0 ly ld
            have W4 := HW4.out.1
            go_wp2
            go_roundw
            case rel => exact ⟨j + 1, d, HW4.out.2, by first | rfl | (rw [W4]; rfl), rfl, HY.out, by first | trivial | rfl⟩
            case measure => first | exact meas_lt8 HW4.out.2 | (rw [W4]; exact meas_lt8 HW4.out.2)
        · have hj2 : j = 8 := by omega
          have ib : ¬ ((j : Nat) : Int) < 8 := by omega
          subst hj2
          have HY : Hid (y = fol25 s0 F (i + 1)) := hy.out.trans HX.out.2.1
          clear hy hj hj8 ly
          have W3 := HW3.out
          go_wp2
          go_roundw
          case rel => exact ⟨i + 1, y, HX.out.1, by first | rfl | (rw [W3]; rfl), rfl, HY.out, by first | trivial | rfl⟩
          case measure => first | exact meas_lt8 HX.out.1 | (rw [W3]; exact meas_lt8 HX.out.1)
    · have hin2 : i = n := by omega
      have ib : ¬ ((i : Nat) : Int) < (n : Int) := by omega
      have N1 := n32 x lx
      have HF : Hid (nt (fol25 s0 F n) = nt x) := by show _ = _; rw [hx.out, hin2]
      generalize nt x = y at N1 HF
      clear hx hi hin hin2 h4 hF lx
      go_wp2
      go_ret
      exact ⟨by rw [HF.out]; rfl, by first | trivial | rfl⟩
set_option maxHeartbeats 4000000 in
set_option maxRecDepth 100000 in
theorem rsum25 (v : Value) (n : Nat) (F : Nat → Nat) (w : World) (h : Rb w v n F) :
    Calls Tryd.prog 9 #[v] w fun e w' => e = .returned (.int .u32 ((nt (fol25 (nt 0) F n) : Nat) : Int)) ∧ w' = w := by
  have c1 : Calls Tryd.prog 11 #[.int .u32 0, v] w fun e w' => e = .returned (.int .u32 ((nt (fol25 (nt 0) F n) : Nat) : Int)) ∧ w' = w := rfold25 0 v n F w h (by omega)
  generalize nt (fol25 (nt 0) F n) = y at c1 ⊢
  clear h
  go_enter Tryd.func9, Tryd.ntmps9
  go_wp2_with (go_at_call 11; (with_reducible refine c1.mono ?_); rintro e w9 ⟨rfl, hw9⟩; have hw9 := hw9.symm; subst hw9; clear c1)
  go_ret
  exact ⟨rfl, rfl⟩
end Go.Proofs.YtehbiccpbopkfaaDoor
namespace Go.Proofs.YtehbiccpbopkfaaDoor
open Go.RowKit Gf2
set_option linter.unusedVariables false

-- layer 25: the document's number
theorem num_step25 {F : Nat → Nat} {n j : Nat} (hj : j < n) (hF : ∀ i, i < n → F i < 256) : le25 (fun c => F (j + 1 + c)) (n - (j + 1)) * 256 ||| F j = le25 (fun c => F (j + c)) (n - j) := by
  obtain ⟨d, hd⟩ : ∃ d, n - j = d + 1 := ⟨n - j - 1, by omega⟩
  rw [hd, show n - (j + 1) = d by omega, le_front25 (fun i hi => hF _ (by omega)), Nat.or_comm]
  rw [show (256 : Nat) = 2 ^ 8 from rfl, or_add25 (k := 8) (show F j < 2 ^ 8 by exact hF j hj), Nat.add_comm]
  rw [le_congr25 (F := fun c => F (j + 1 + c)) (G := fun i => F (j + (i + 1))) (fun i _ => by show F _ = F _; congr 1; omega)]
  rfl
theorem num_lt25 {F : Nat → Nat} {n j : Nat} (hn : n ≤ 8) (hj : j < n) (hF : ∀ i, i < n → F i < 256) : le25 (fun c => F (j + 1 + c)) (n - (j + 1)) < 72057594037927936 := by
  have h := le_lt' (F := fun c => F (j + 1 + c)) (n := n - (j + 1)) (fun i hi => hF _ (by omega))
  have h2 : 2 ^ (8 * (n - (j + 1))) ≤ 2 ^ 56 := Nat.pow_le_pow_right (by decide) (by omega)
  exact Nat.lt_of_lt_of_le h h2
set_option maxHeartbeats 4000000 in
set_option maxRecDepth 100000 in
theorem rnumber25 (v : Value) (n : Nat) (F : Nat → Nat) (w : World) (h : Rb w v n F) (h8 : n ≤ 8) :
    Calls Tryd.prog 42 #[v] w fun e w' => e = .returned (.int .u64 ((le25 F n : Nat) : Int)) ∧ w' = w := by
  obtain ⟨-, hF, a, cap, rfl, -, -, h4⟩ := h
  have HH : Hid (n ≤ 8 ∧ ∀ i, i < n → F i < 256) := ⟨h8, hF⟩
  have W1 : wrap64 (((n : Nat) : Int) - 1) = ((n : Nat) : Int) - 1 := by unfold wrap64; omega
  clear h8 hF
  go_enter Tryd.func42, Tryd.ntmps42
  go_wp2
  go_loopw [3, 4] (fun sr si wr => ∃ j x : Nat, j ≤ n ∧ si = .int .i64 (((j : Nat) : Int) - 1) ∧ sr = .int .u64 ((x : Nat) : Int) ∧ Hid (x = le25 (fun c => F (j + c)) (n - j)) ∧ wr = w) (fun _ si _ => (intOf si + 1).toNat)
  case atStart => exact ⟨n, 0, Nat.le_refl _, by first | rfl | (rw [W1]), rfl, by show 0 = _; rw [Nat.sub_self]; rfl, rfl⟩
  case round =>
    clear W1
    obtain ⟨j, x, hj, rfl, rfl, hx, hw⟩ := hrel
    have hw := hw.symm
    subst hw
    by_cases hj0 : 0 < j
    · obtain ⟨t, rfl⟩ : ∃ t, j = t + 1 := ⟨j - 1, by omega⟩
      have et : (((t + 1 : Nat) : Int) - 1) = ((t : Nat) : Int) := by omega
      rw [et]
      have ib : decide ((0 : Int) ≤ ((t : Nat) : Int)) = true := decide_eq_true (by omega)
      have ib2 : ((t : Nat) : Int) < ((n : Nat) : Int) := by omega
      obtain ⟨b, o, rfl, hbl, hc⟩ := h4 (by omega)
      have q1 := hc t (by omega)
      have lb := HH.out.2 t (by omega)
      have lx : x < 72057594037927936 := by rw [hx.out]; exact num_lt25 HH.out.1 (by omega) HH.out.2
      have hs := num_step25 (F := F) (n := n) (j := t) (by omega) HH.out.2
      rw [← hx.out] at hs
      obtain ⟨f, hf⟩ : ∃ f, Hid (F t = f) := ⟨_, rfl⟩
      rw [hf.out] at q1 lb hs
      obtain ⟨s, hs2⟩ : ∃ s, Hid (x * 256 = s) := ⟨_, rfl⟩
      rw [hs2.out] at hs
      have ls : s < 18446744073709551616 := by have := hs2.out; omega
      obtain ⟨z, hz⟩ : ∃ z, Hid (s ||| f = z) := ⟨_, rfl⟩
      have U1 : IntKind.u64.wrap ((f : Nat) : Int) = ((f : Nat) : Int) := by rw [IntKind.wrap_u64]; omega
      have P1 : ((x : Nat) : Int) * 256 = ((s : Nat) : Int) := by have := hs2.out; omega
      have U2 : IntKind.u64.wrap (((x : Nat) : Int) * 256) = ((s : Nat) : Int) := by rw [P1, IntKind.wrap_u64]; omega
      have X1 : bits .or .u64 ((s : Nat) : Int) ((f : Nat) : Int) = ((z : Nat) : Int) := by rw [← hz.out]; exact u64_or_nat s f ls (by omega)
      have HX : Hid (z = le25 (fun c => F (t + c)) (n - t) ∧ t ≤ n) := ⟨by rw [← hz.out]; exact hs, by omega⟩
      have HW : Hid (wrap64 (((t : Nat) : Int) - 1) = ((t : Nat) : Int) - 1) := by show _ = _; have := HX.out.2; have := HH.out.1; unfold wrap64; omega
      have HM : Hid ((((t : Nat) : Int) - 1 + 1).toNat < (((t : Nat) : Int) + 1).toNat) := by show _ < _; omega
      clear hx hj hj0 hc hbl h4 lb lx hs hf hs2 ls hz P1 et
      have W3 := HW.out
      go_wp2
      go_roundw
      case rel => exact ⟨t, z, HX.out.2, by first | rfl | (rw [W3]), rfl, HX.out.1, by first | trivial | rfl⟩
      case measure => first | exact HM.out | (rw [W3]; exact HM.out)
    · have hj2 : j = 0 := by omega
      subst hj2
      have e0 : (((0 : Nat) : Int) - 1) = -1 := rfl
      rw [e0]
      have HF : Hid (le25 F n = x) := by
        show _ = _
        rw [hx.out, Nat.sub_zero]
        exact le_congr25 (fun i _ => by show F i = F (0 + i); rw [Nat.zero_add])
      clear hx hj hj0 h4
      go_wp2
      go_ret
      exact ⟨by rw [HF.out]; rfl, by first | trivial | rfl⟩
end Go.Proofs.YtehbiccpbopkfaaDoor
namespace Go.Proofs.YtehbiccpbopkfaaDoor
open Go.RowKit Gf2
set_option linter.unusedVariables false

-- layer 25: the document's little
theorem by_next25 (x i : Nat) : x / 2 ^ (8 * i) / 256 = x / 2 ^ (8 * (i + 1)) := by
  rw [Nat.div_div_eq_div_mul, show 8 * (i + 1) = 8 * i + 8 by omega, Nat.pow_add]
theorem by_of25 (x i : Nat) : x / 2 ^ (8 * i) % 256 = by25 x i := rfl
set_option maxHeartbeats 4000000 in
set_option maxRecDepth 100000 in
theorem little25 (x d : Nat) (w : World) (hx : x < 18446744073709551616) (hd : d ≤ 8) :
    Calls Tryd.prog 30 #[.int .u64 (x : Int), .int .i64 (d : Int)] w fun e w' => e = .returned (.slice (some ⟨w.heap.size, 0, none⟩) d d) ∧ Below w.heap.size w w' ∧ Rw w' w.heap.size d (by25 x) := by
  have hmk : ∀ w, (Instr.makeSlice 27 (.int .i64 (d : Int)) (.int .i64 (d : Int))).run Tryd.prog w = .ok (.slice (some ⟨w.heap.size, 0, none⟩) d d) (w.alloc (.cells (madeCells #[.int .u8 0] d) 5)) := fun w => make_u8 d (by omega) w
  obtain ⟨w1, hw1⟩ : ∃ w1, w.alloc (.cells (madeCells #[.int .u8 0] d) 5) = w1 := ⟨_, rfl⟩
  have b0 : Below w.heap.size w w1 := by rw [← hw1]; exact (Below.refl _ _).alloc (Nat.le_refl _) _
  have r0 : Rw w1 w.heap.size d (fun _ => 0) := by rw [← hw1]; exact made_rw d (by omega) w
  have HH : Hid (x < 18446744073709551616 ∧ d ≤ 8 ∧ Below w.heap.size w w1 ∧ Rw w1 w.heap.size d (fun _ => 0)) := ⟨hx, hd, b0, r0⟩
  clear hx hd b0 r0
  go_enter Tryd.func30, Tryd.ntmps30
  go_wp2
  clear hmk hw1
  go_loopw [0, 6] (fun sn si wr => ∃ i : Nat, i ≤ d ∧ si = .int .i64 ((i : Nat) : Int) ∧ sn = .int .u64 ((x / 2 ^ (8 * i) : Nat) : Int) ∧ Below w.heap.size w wr ∧ Rw wr w.heap.size d (fun c => if c < i then by25 x c else 0)) (fun _ si _ => d - (intOf si).toNat)
  case atStart => exact ⟨0, Nat.zero_le _, rfl, by first | rfl | (rw [Nat.mul_zero, Nat.pow_zero, Nat.div_one]), HH.out.2.2.1, HH.out.2.2.2.congr (fun c _ => by rw [if_neg (by omega)])⟩
  case round =>
    obtain ⟨i, hi, rfl, rfl, hb, hr⟩ := hrel
    by_cases hin : i < d
    · have ib : ((i : Nat) : Int) < (d : Int) := Int.ofNat_lt.2 hin
      have q2 := hr.2.2.cell hin
      have q3 := hr.2.2.frozen i
      have HR : Hid (Below w.heap.size w (wr.setCell ⟨w.heap.size, i, none⟩ (.int .u8 ((by25 x i : Nat) : Int))) ∧ Rw (wr.setCell ⟨w.heap.size, i, none⟩ (.int .u8 ((by25 x i : Nat) : Int))) w.heap.size d (fun c => if c < i + 1 then by25 x c else 0)) := ⟨hb.setCell (Nat.le_refl _) _, (hr.set i _ (by_lt25 x i)).congr (fun c _ => by
        by_cases e : c = i
        · subst e; rw [if_pos rfl, if_pos (by omega)]
        · rw [if_neg e]
          by_cases e2 : c < i
          · rw [if_pos e2, if_pos (by omega)]
          · rw [if_neg e2, if_neg (by omega)])⟩
      have HW : Hid (wrap64 (((i : Nat) : Int) + 1) = ((i : Nat) : Int) + 1 ∧ i < d) := ⟨wrap_succ8 (j := i) (by have := HH.out.2.1; unfold big; omega), hin⟩
      have hn := by_next25 x i
      have ho := by_of25 x i
      generalize by25 x i = y at HR ho
      obtain ⟨m, hm⟩ : ∃ m, Hid (x / 2 ^ (8 * (i + 1)) = m) := ⟨_, rfl⟩
      rw [hm.out] at hn
      generalize x / 2 ^ (8 * i) = n at hn ho ⊢
      have U1 : IntKind.u8.wrap ((n : Nat) : Int) = ((y : Nat) : Int) := by rw [IntKind.wrap_u8]; omega
      have D1 : ((n : Nat) : Int) / 256 = ((m : Nat) : Int) := by omega
      clear hb hr hin hi hn ho
      have W3 := HW.out.1
      go_wp2
      go_roundw
      case rel => exact ⟨i + 1, HW.out.2, by first | rfl | (rw [W3]; rfl), by rw [hm.out], HR.out⟩
      case measure => first | exact meas_lt8 HW.out.2 | (rw [W3]; exact meas_lt8 HW.out.2)
    · have hin2 : i = d := by omega
      have ib : ¬ ((i : Nat) : Int) < (d : Int) := by omega
      have HF : Hid (Below w.heap.size w wr ∧ Rw wr w.heap.size d (by25 x)) := ⟨hb, hr.congr (fun c hc => by rw [if_pos (by omega)])⟩
      clear hb hr hin hi
      go_wp2
      go_ret
      exact ⟨rfl, HF.out⟩
end Go.Proofs.YtehbiccpbopkfaaDoor
namespace Go.Proofs.YtehbiccpbopkfaaDoor
open Go.RowKit Gf2
set_option linter.unusedVariables false

-- layer 25: a head compared with itself
theorem heq25 (f k m i s l b : Int) (st : Nat) (w : World) : (Op.equalIn 10000 38 (.agg #[.int .i64 f, .int .i64 k, .int .i64 m, .int .i64 i, .int .i64 s, .int .i64 l, .int .i64 b, .int .u64 (st : Int)]) (.agg #[.int .i64 f, .int .i64 k, .int .i64 m, .int .i64 i, .int .i64 s, .int .i64 l, .int .i64 b, .int .u64 (st : Int)])).run Tryd.prog w = .ok true w := by
  have u3 := Tryd.underlying36
  rw [show (10000 : Nat) = 9999 + 1 from rfl]
  go_simp
end Go.Proofs.YtehbiccpbopkfaaDoor
