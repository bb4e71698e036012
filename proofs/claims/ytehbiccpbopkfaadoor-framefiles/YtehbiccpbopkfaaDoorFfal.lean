import Derived.Test.YtehbiccpbopkfaaDoorFfai
import Derived.Test.YtehbiccpbopkfaaDoorFfak
import Derived.BigQuiet
import Derived.Deep.OwnRows
namespace Go.Proofs.YtehbiccpbopkfaaDoor
open Go.ChangeShapes Go.WideShapes Go.ChangeAt Go.RowKit Go.Deep
set_option linter.unusedVariables false

/-- bytes that came in. -/
def Bm9 (W : World) (v : Value) : Prop := ∃ n S, Rb W v n S ∧ n ≤ 140737488351232
theorem Bm9.below {W W' : World} {v : Value} (h : Bm9 W v) (hb : Below W.heap.size W W') : Bm9 W' v := by
  obtain ⟨n, S, h1, h2⟩ := h
  exact ⟨n, S, h1.below hb, h2⟩
theorem weightsAll_mem9 {H : Type} {P : Program} {e : TypeId} {d : DataW H} {n : Nat} (hn : n ∈ d.weights P e) : ∀ {l : List (DataW H)}, d ∈ l → n ∈ DataW.weightsAll P e l
  | d0 :: l, h => by
    rw [DataW.weightsAll, List.mem_append]
    rcases List.mem_cons.1 h with rfl | h
    · exact .inl hn
    · exact .inr (weightsAll_mem9 hn h)
theorem open_bytes9 {H : Type} {enc : TypeId × Value → H} {W : World} {base : Nat} {held : Bool} {fuel : Nat} {v : Value} {x : DataW H × List MemPlace}
    (h : DataW.trod enc Tryd.prog W base (fun _ => true) held fuel 27 [v] = some x) (hsz : ∀ n ∈ x.1.weights Tryd.prog 27, n ≤ reachBytes) : Bm9 W v := by
  obtain ⟨a, len, cap, rfl⟩ : ∃ a len cap, v = .slice a len cap := by
    rcases open_slice Tryd.underlying27 h with ⟨hcs, _⟩ | ⟨a', len', cap', m, n, D, Pl, hcs, _⟩
    · simp at hcs; exact ⟨_, _, _, hcs⟩
    · simp at hcs; exact ⟨_, _, _, hcs⟩
  have := open_bytes5 h (fun el sp he => by
    refine hsz _ ?_
    rw [he]
    simp [DataW.weights, Tryd.underlying27])
  obtain ⟨h1, F, h2⟩ := this
  exact ⟨len, F, h2, h1⟩
end Go.Proofs.YtehbiccpbopkfaaDoor
namespace Go.Proofs.YtehbiccpbopkfaaDoor
open Go.RowKit Gf2
set_option linter.unusedVariables false

-- layer 16: the numbers
/-- the least power of two that is n or more (n 1 or more). -/
def p2 (n : Nat) : Nat := 2 ^ Nat.log2 (2 * n - 1)
theorem p2_lo {n : Nat} (h : 1 ≤ n) : n ≤ p2 n := by
  have := Nat.lt_log2_self (n := 2 * n - 1)
  unfold p2
  rw [Nat.pow_succ] at this
  omega
theorem p2_hi {n : Nat} (h : 1 ≤ n) : p2 n < 2 * n := by
  have := Nat.log2_self_le (n := 2 * n - 1) (by omega)
  unfold p2
  omega
theorem p2_only {n j : Nat} (h : 1 ≤ n) (h1 : n ≤ 2 ^ j) (h2 : 2 ^ j < 2 * n) : 2 ^ j = p2 n := by
  unfold p2
  congr 1
  exact ((Nat.log2_eq_iff (by omega)).2 ⟨by omega, by rw [Nat.pow_succ]; omega⟩).symm
theorem p2_top {n : Nat} (h : 1 ≤ n) (h2 : n ≤ 65536) : p2 n ≤ 65536 := by
  have h1 := p2_hi h
  unfold p2 at *
  rcases Nat.lt_or_ge 16 (Nat.log2 (2 * n - 1)) with hl | hl
  · exfalso
    have := Nat.pow_le_pow_right (n := 2) (by decide) hl
    omega
  · exact Nat.pow_le_pow_right (n := 2) (by decide) hl
/-- what Pow2 answers. -/
def p2z (m : Int) : Int := if m < 1 ∨ 65536 < m then 0 else (p2 m.toNat : Int)
def p2e (m : Int) : Int := if m < 1 ∨ 65536 < m then 7 else 0
/-- what room answers. -/
def rm16 (d p q : Int) : Int := if d < 1 ∨ p < 1 ∨ q - d < p then 4 else 0
/-- what Params answers. -/
def prm (f k m : Int) : Int := if f = 0 ∨ f = 1 then rm16 k m 256 else if f = 2 then rm16 k (p2z m) 65536 else 2
/-- valid parameters. -/
structure Pv (f k m : Int) : Prop where
  fam : f = 0 ∨ f = 1 ∨ f = 2
  hk : 1 ≤ k
  hm : 1 ≤ m
  sum : k + m ≤ 65536
  small : f ≠ 2 → k + m ≤ 256
  long : f = 2 → k + (p2 m.toNat : Int) ≤ 65536
theorem prm_ok {f k m : Int} : prm f k m = 0 ↔ Pv f k m := by
  unfold prm rm16 p2z
  constructor
  · intro h
    by_cases h1 : f = 0 ∨ f = 1
    · rw [if_pos h1] at h
      split at h
      · cases h
      · exact ⟨by omega, by omega, by omega, by omega, fun _ => by omega, fun _ => by omega⟩
    · rw [if_neg h1] at h
      by_cases h2 : f = 2
      · rw [if_pos h2] at h
        by_cases h3 : m < 1 ∨ 65536 < m
        · rw [if_pos h3, if_pos (by omega)] at h; cases h
        · rw [if_neg h3] at h
          split at h
          · cases h
          · have := p2_lo (n := m.toNat) (by omega)
            exact ⟨by omega, by omega, by omega, by omega, fun _ => by omega, fun _ => by omega⟩
      · rw [if_neg h2] at h; cases h
  · intro h
    obtain ⟨h1, h2, h3, h4, h5, h6⟩ := h
    by_cases e : f = 2
    · have := h6 e
      have hl := p2_lo (n := m.toNat) (by omega)
      have e9 : ¬ (m < 1 ∨ 65536 < m) := by omega
      rw [if_neg (by omega), if_pos e, if_neg e9, if_neg (by omega)]
    · have := h5 e
      rw [if_pos (by omega), if_neg (by omega)]
/-- the length of the shards for n bytes. -/
def ln16 (f : Int) (k n : Nat) : Nat := if f = 2 then (n + k - 1) / k + (n + k - 1) / k % 2 else (n + k - 1) / k
end Go.Proofs.YtehbiccpbopkfaaDoor
namespace Go.Proofs.YtehbiccpbopkfaaDoor
open Go.RowKit Gf2
set_option linter.unusedVariables false

-- layer 16: contracts of the numbers (laid by wip/genyhb.py)
theorem pow_meas {p n : Nat} (h : p < n) (h1 : 1 ≤ p) : (2 * n - (2 * p : Nat)) < 2 * n - p := by omega

set_option maxHeartbeats 2000000 in
set_option maxRecDepth 100000 in
theorem pow16p_no (n : Int) (w : World) (h : n < 1 ∨ 65536 < n) :
    Calls Tryd.prog 46 #[.int .i64 n] w fun e w' => e = .returned (.tuple #[.int .i64 0, .int .i64 7]) ∧ w' = w := by
  by_cases h1 : n < 1
  · have D1 : decide (n < 1) = true := by simpa using h1
    clear h h1
    go_enter Tryd.func46, Tryd.ntmps46
    go_wp2
    go_ret2
    exact ⟨rfl, rfl⟩
  · have D1 : decide (n < 1) = false := by simpa using h1
    have D2 : decide (65536 < n) = true := by simp; omega
    clear h h1
    go_enter Tryd.func46, Tryd.ntmps46
    go_wp2
    go_ret2
    exact ⟨rfl, rfl⟩
set_option maxHeartbeats 2000000 in
set_option maxRecDepth 100000 in
theorem pow16p_yes (n : Nat) (w : World) (h1 : 1 ≤ n) (h2 : n ≤ 65536) :
    Calls Tryd.prog 46 #[.int .i64 (n : Int)] w fun e w' => e = .returned (.tuple #[.int .i64 (p2 n : Nat), .int .i64 0]) ∧ w' = w := by
  have D1 : decide ((n : Int) < 1) = false := by simp; omega
  have D2 : decide ((65536 : Int) < (n : Int)) = false := by simp; omega
  have HN : Hid (1 ≤ n ∧ n ≤ 65536) := ⟨h1, h2⟩
  obtain ⟨z, hz⟩ : ∃ z, z = p2 n := ⟨_, rfl⟩
  rw [← hz]
  have HZ : Hid (z = p2 n) := hz
  clear h1 h2 hz
  go_enter Tryd.func46, Tryd.ntmps46
  go_wp2
  go_loopw [4] (fun p wr => ∃ j q : Nat, q = 2 ^ j ∧ p = .int .i64 (q : Nat) ∧ q < 2 * n ∧ wr = w) (fun p _ => 2 * n - (intOf p).toNat)
  case atStart => exact ⟨0, 1, rfl, rfl, by have := HN.out; omega, rfl⟩
  case round =>
    obtain ⟨j, p, hp, rfl, hn, rfl⟩ := hrel
    have h0 : 1 ≤ p := by rw [hp]; exact Nat.one_le_two_pow
    by_cases hlt : p < n
    · have W1 : wrap64 ((p : Int) * 2) = ((2 * p : Nat) : Int) := by have := HN.out; unfold wrap64; omega
      have HX : Hid (p = 2 ^ j ∧ p < n ∧ 1 ≤ p) := ⟨hp, hlt, h0⟩
      clear hp hn h0
      go_wp2
      go_roundw
      case rel => exact ⟨j + 1, 2 * p, by rw [HX.out.1, Nat.pow_succ, Nat.mul_comm], by first | rfl | (rw [W1]), by have := HX.out.2.1; omega, by first | rfl | trivial⟩
      case measure => first | exact pow_meas HX.out.2.1 HX.out.2.2 | (rw [W1]; exact pow_meas HX.out.2.1 HX.out.2.2)
    · have e := p2_only HN.out.1 (by rw [← hp]; omega) (by rw [← hp]; exact hn)
      rw [← hp] at e
      have hz : z = p := HZ.out.trans e.symm
      subst hz
      clear hp hn h0 e
      go_wp2
      go_ret2
      exact ⟨rfl, rfl⟩
theorem pow16p (n : Int) (w : World) :
    Calls Tryd.prog 46 #[.int .i64 n] w fun e w' => e = .returned (.tuple #[.int .i64 (p2z n), .int .i64 (p2e n)]) ∧ w' = w := by
  unfold p2z p2e
  by_cases h : n < 1 ∨ 65536 < n
  · rw [if_pos h, if_pos h]; exact pow16p_no n w h
  · rw [if_neg h, if_neg h]
    obtain ⟨k, rfl⟩ := Int.eq_ofNat_of_zero_le (show 0 ≤ n by omega)
    exact pow16p_yes k w (by omega) (by omega)

set_option maxHeartbeats 2000000 in
set_option maxRecDepth 100000 in
theorem pow16r_no (n : Int) (w : World) (h : n < 1 ∨ 65536 < n) :
    Calls Tryd.prog 47 #[.int .i64 n] w fun e w' => e = .returned (.tuple #[.int .i64 0, .int .i64 7]) ∧ w' = w := by
  by_cases h1 : n < 1
  · have D1 : decide (n < 1) = true := by simpa using h1
    clear h h1
    go_enter Tryd.func47, Tryd.ntmps47
    go_wp2
    go_ret2
    exact ⟨rfl, rfl⟩
  · have D1 : decide (n < 1) = false := by simpa using h1
    have D2 : decide (65536 < n) = true := by simp; omega
    clear h h1
    go_enter Tryd.func47, Tryd.ntmps47
    go_wp2
    go_ret2
    exact ⟨rfl, rfl⟩
set_option maxHeartbeats 2000000 in
set_option maxRecDepth 100000 in
theorem pow16r_yes (n : Nat) (w : World) (h1 : 1 ≤ n) (h2 : n ≤ 65536) :
    Calls Tryd.prog 47 #[.int .i64 (n : Int)] w fun e w' => e = .returned (.tuple #[.int .i64 (p2 n : Nat), .int .i64 0]) ∧ w' = w := by
  have D1 : decide ((n : Int) < 1) = false := by simp; omega
  have D2 : decide ((65536 : Int) < (n : Int)) = false := by simp; omega
  have HN : Hid (1 ≤ n ∧ n ≤ 65536) := ⟨h1, h2⟩
  obtain ⟨z, hz⟩ : ∃ z, z = p2 n := ⟨_, rfl⟩
  rw [← hz]
  have HZ : Hid (z = p2 n) := hz
  clear h1 h2 hz
  go_enter Tryd.func47, Tryd.ntmps47
  go_wp2
  go_loopw [4] (fun p wr => ∃ j q : Nat, q = 2 ^ j ∧ p = .int .i64 (q : Nat) ∧ q < 2 * n ∧ wr = w) (fun p _ => 2 * n - (intOf p).toNat)
  case atStart => exact ⟨0, 1, rfl, rfl, by have := HN.out; omega, rfl⟩
  case round =>
    obtain ⟨j, p, hp, rfl, hn, rfl⟩ := hrel
    have h0 : 1 ≤ p := by rw [hp]; exact Nat.one_le_two_pow
    by_cases hlt : p < n
    · have W1 : wrap64 (2 * (p : Int)) = ((2 * p : Nat) : Int) := by have := HN.out; unfold wrap64; omega
      have HX : Hid (p = 2 ^ j ∧ p < n ∧ 1 ≤ p) := ⟨hp, hlt, h0⟩
      clear hp hn h0
      go_wp2
      go_roundw
      case rel => exact ⟨j + 1, 2 * p, by rw [HX.out.1, Nat.pow_succ, Nat.mul_comm], by first | rfl | (rw [W1]), by have := HX.out.2.1; omega, by first | rfl | trivial⟩
      case measure => first | exact pow_meas HX.out.2.1 HX.out.2.2 | (rw [W1]; exact pow_meas HX.out.2.1 HX.out.2.2)
    · have e := p2_only HN.out.1 (by rw [← hp]; omega) (by rw [← hp]; exact hn)
      rw [← hp] at e
      have hz : z = p := HZ.out.trans e.symm
      subst hz
      clear hp hn h0 e
      go_wp2
      go_ret2
      exact ⟨rfl, rfl⟩
theorem pow16r (n : Int) (w : World) :
    Calls Tryd.prog 47 #[.int .i64 n] w fun e w' => e = .returned (.tuple #[.int .i64 (p2z n), .int .i64 (p2e n)]) ∧ w' = w := by
  unfold p2z p2e
  by_cases h : n < 1 ∨ 65536 < n
  · rw [if_pos h, if_pos h]; exact pow16r_no n w h
  · rw [if_neg h, if_neg h]
    obtain ⟨k, rfl⟩ := Int.eq_ofNat_of_zero_le (show 0 ≤ n by omega)
    exact pow16r_yes k w (by omega) (by omega)

set_option maxHeartbeats 2000000 in
set_option maxRecDepth 100000 in
theorem room16 (d p q : Int) (w : World) (hd : d ≤ 9223372036854775807) (hq0 : 0 ≤ q) (hq : q ≤ 65536) :
    Calls Tryd.prog 45 #[.int .i64 d, .int .i64 p, .int .i64 q] w fun e w' => e = .returned (.int .i64 (rm16 d p q)) ∧ w' = w := by
  obtain ⟨z, hz⟩ : ∃ z, z = rm16 d p q := ⟨_, rfl⟩
  rw [← hz]
  have HZ : Hid (z = rm16 d p q) := hz
  clear hz
  have E : ∀ b : Bool, (decide (d < 1 ∨ p < 1 ∨ q - d < p) = b) → Hid (z = if b then 4 else 0) := fun b hb => by
    show z = _
    rw [HZ.out, ← hb]
    unfold rm16
    by_cases h : d < 1 ∨ p < 1 ∨ q - d < p
    · rw [if_pos h]; simp [h]
    · rw [if_neg h]; simp [h]
  by_cases h1 : d < 1
  · have D1 : decide (d < 1) = true := by simpa using h1
    have hz := (E true (by simp [h1])).out
    rw [if_pos rfl] at hz
    subst hz
    clear E HZ h1 hd hq hq0
    go_enter Tryd.func45, Tryd.ntmps45
    go_wp2
    go_ret
    exact ⟨rfl, rfl⟩
  · have D1 : decide (d < 1) = false := by simpa using h1
    by_cases h2 : p < 1
    · have D2 : decide (p < 1) = true := by simpa using h2
      have hz := (E true (by simp [h2])).out
      rw [if_pos rfl] at hz
      subst hz
      clear E HZ h1 h2 hd hq hq0
      go_enter Tryd.func45, Tryd.ntmps45
      go_wp2
      go_ret
      exact ⟨rfl, rfl⟩
    · have D2 : decide (p < 1) = false := by simpa using h2
      have W1 : wrap64 (q - d) = q - d := by unfold wrap64; omega
      by_cases h3 : q - d < p
      · have D3 : decide (q - d < p) = true := by simpa using h3
        have hz := (E true (by simp [h3])).out
        rw [if_pos rfl] at hz
        subst hz
        clear E HZ h1 h2 h3 hd hq hq0
        go_enter Tryd.func45, Tryd.ntmps45
        go_wp2
        go_ret
        exact ⟨rfl, rfl⟩
      · have D3 : decide (q - d < p) = false := by simpa using h3
        have hz := (E false (by simp; omega)).out
        simp at hz
        subst hz
        clear E HZ h1 h2 h3 hd hq hq0
        go_enter Tryd.func45, Tryd.ntmps45
        go_wp2
        go_ret
        exact ⟨rfl, rfl⟩
/-- an int's range. -/
def I64 (k : Int) : Prop := -9223372036854775808 ≤ k ∧ k ≤ 9223372036854775807
set_option maxHeartbeats 2000000 in
set_option maxRecDepth 100000 in
theorem params16 (f k m : Int) (w : World) (hk : I64 k) :
    Calls Tryd.prog 39 #[.int .i64 f, .int .i64 k, .int .i64 m] w fun e w' => e = .returned (.int .i64 (prm f k m)) ∧ w' = w := by
  have c1 := fun x => room16 k m 256 x hk.2 (by decide) (by decide)
  have c2 := fun x => pow16p m x
  have c3 := fun x => room16 k (p2z m) 65536 x hk.2 (by decide) (by decide)
  clear hk
  unfold prm
  by_cases h0 : f = 0
  · subst h0
    rw [if_pos (.inl rfl)]
    generalize rm16 k m 256 = z at c1
    clear c2 c3
    go_enter Tryd.func39, Tryd.ntmps39
    go_wp2_with (go_at_call 45; ((with_reducible refine (c1 _).mono ?_); rintro e w' ⟨rfl, rfl⟩))
    go_ret
    exact ⟨rfl, rfl⟩
  by_cases h1 : f = 1
  · subst h1
    rw [if_pos (.inr rfl)]
    generalize rm16 k m 256 = z at c1
    clear c2 c3 h0
    go_enter Tryd.func39, Tryd.ntmps39
    go_wp2_with (go_at_call 45; ((with_reducible refine (c1 _).mono ?_); rintro e w' ⟨rfl, rfl⟩))
    go_ret
    exact ⟨rfl, rfl⟩
  rw [if_neg (by omega)]
  by_cases h2 : f = 2
  · subst h2
    rw [if_pos rfl]
    generalize rm16 k (p2z m) 65536 = z at c3
    generalize p2z m = p at c2 c3
    generalize p2e m = pe at c2
    clear c1 h0 h1
    go_enter Tryd.func39, Tryd.ntmps39
    go_wp2_with (first | (go_at_call 46; ((with_reducible refine (c2 _).mono ?_); rintro e w' ⟨rfl, rfl⟩)) | (go_at_call 45; ((with_reducible refine (c3 _).mono ?_); rintro e w' ⟨rfl, rfl⟩)))
    go_ret
    exact ⟨rfl, rfl⟩
  · rw [if_neg h2]
    have D0 : (f == 0) = false := by simpa using h0
    have D1 : (f == 1) = false := by simpa using h1
    have D2 : (f == 2) = false := by simpa using h2
    clear c1 c2 c3
    go_enter Tryd.func39, Tryd.ntmps39
    go_wp2
    go_ret
    exact ⟨rfl, rfl⟩
end Go.Proofs.YtehbiccpbopkfaaDoor
namespace Go.Proofs.YtehbiccpbopkfaaDoor
open Go.RowKit Gf2
set_option linter.unusedVariables false

-- layer 16: Params of the document, Uses, Length
theorem prm_four {f k m : Int} (h : f = 0 ∨ f = 1 ∨ f = 2) (hn : ¬ Pv f k m) : prm f k m = 4 := by
  have h0 : prm f k m ≠ 0 := fun e => hn (prm_ok.1 e)
  unfold prm rm16 at *
  by_cases h1 : f = 0 ∨ f = 1
  · rw [if_pos h1] at h0 ⊢
    split
    · rfl
    · rename_i h2; rw [if_neg h2] at h0; exact absurd rfl h0
  · rw [if_neg h1, if_pos (by omega)] at h0 ⊢
    split
    · rfl
    · rename_i h2; rw [if_neg h2] at h0; exact absurd rfl h0
theorem prm_fam {f k m : Int} (h : ¬ (f = 0 ∨ f = 1 ∨ f = 2)) : prm f k m = 2 := by
  unfold prm
  rw [if_neg (by omega), if_neg (by omega)]
set_option maxHeartbeats 2000000 in
set_option maxRecDepth 100000 in
theorem rparams16 (f k m : Int) (w : World) :
    Calls Tryd.prog 40 #[.int .i64 f, .int .i64 k, .int .i64 m] w fun e w' => e = .returned (.int .i64 (prm f k m)) ∧ w' = w := by
  obtain ⟨z, hz⟩ : ∃ z, z = prm f k m := ⟨_, rfl⟩
  rw [← hz]
  have HZ : Hid (z = prm f k m) := hz
  clear hz
  have c2 := fun x => pow16r m x
  by_cases hf : f = 0 ∨ f = 1 ∨ f = 2
  case neg =>
    have D0 : (f == 0) = false := by simp; omega
    have D1 : (f == 1) = false := by simp; omega
    have D2 : (f == 2) = false := by simp; omega
    have E0 : (f != 0) = true := by simp; omega
    have E1 : (f != 1) = true := by simp; omega
    have E2 : (f != 2) = true := by simp; omega
    have hz := HZ.out.trans (prm_fam hf)
    subst hz
    clear hf HZ c2
    go_enter Tryd.func40, Tryd.ntmps40
    go_wp2
    go_ret
    exact ⟨rfl, rfl⟩
  case pos =>
    have h4 : ¬ Pv f k m → z = 4 := fun h => HZ.out.trans (prm_four hf h)
    have h0 : Pv f k m → z = 0 := fun h => HZ.out.trans (prm_ok.2 h)
    have T : ∀ (b1 b2 b3 b4 : Bool), decide (k < 1) = b1 → decide (m < 1) = b2 → decide (65536 < k) = b3 → decide (65536 < m) = b4 → (b1 || b2 || b3 || b4) = true →
        Calls Tryd.prog 40 #[.int .i64 f, .int .i64 k, .int .i64 m] w fun e w' => e = .returned (.int .i64 z) ∧ w' = w := by
      intro b1 b2 b3 b4 e1 e2 e3 e4 hb
      have hz : z = 4 := h4 (fun h => by
        have := h.hk; have := h.hm; have := h.sum
        subst e1 e2 e3 e4
        simp at hb
        omega)
      subst hz
      clear h4 h0 HZ c2
      have HB : Hid ((b1 || b2 || b3 || b4) = true) := hb
      clear hb
      rcases hf with rfl | rfl | rfl <;> cases b1 <;> cases b2 <;> cases b3 <;> cases b4
      all_goals first
        | exact absurd HB.out (by decide)
        | (go_enter Tryd.func40, Tryd.ntmps40
           go_wp2
           go_ret
           exact ⟨rfl, rfl⟩)
    by_cases hr : k < 1 ∨ m < 1 ∨ 65536 < k ∨ 65536 < m
    · exact T _ _ _ _ rfl rfl rfl rfl (by rcases hr with h | h | h | h <;> simp [h])
    · have D1 : decide (k < 1) = false := by simp; omega
      have D2 : decide (m < 1) = false := by simp; omega
      have D3 : decide (65536 < k) = false := by simp; omega
      have D4 : decide (65536 < m) = false := by simp; omega
      by_cases h2 : f = 2
      · subst h2
        have hp : p2z m = (p2 m.toNat : Int) := by unfold p2z; rw [if_neg (by omega)]
        have hpt := p2_top (n := m.toNat) (by omega) (by omega)
        have hpl := p2_lo (n := m.toNat) (by omega)
        have W1 : wrap64 (p2z m + k) = p2z m + k := by rw [hp]; unfold wrap64; omega
        have hq : 65536 < p2z m + k ↔ ¬ Pv 2 k m := by
          constructor
          · intro h hv; have := hv.long rfl; omega
          · intro h
            rcases Int.lt_or_le 65536 (p2z m + k) with h9 | h9
            · exact h9
            · exact absurd ⟨.inr (.inr rfl), by omega, by omega, by omega, fun h => absurd rfl h, fun _ => by omega⟩ h
        by_cases h3 : 65536 < p2z m + k
        · have hz := h4 (hq.1 h3)
          subst hz
          generalize p2z m = p at *
          generalize p2e m = pe at *
          have D5 : decide (65536 < p + k) = true := by simpa using h3
          clear T hf h4 h0 hr hq h3 HZ hp hpt hpl
          go_enter Tryd.func40, Tryd.ntmps40
          go_wp2_with (go_at_call 47; ((with_reducible refine (c2 _).mono ?_); rintro e w' ⟨rfl, rfl⟩))
          go_ret
          exact ⟨rfl, rfl⟩
        · have hz := h0 (by
            rcases Classical.em (Pv 2 k m) with h | h
            · exact h
            · exact absurd (hq.2 h) h3)
          subst hz
          generalize p2z m = p at *
          generalize p2e m = pe at *
          have D5 : decide (65536 < p + k) = false := by simpa using h3
          clear T hf h4 h0 hr hq h3 HZ hp hpt hpl
          go_enter Tryd.func40, Tryd.ntmps40
          go_wp2_with (go_at_call 47; ((with_reducible refine (c2 _).mono ?_); rintro e w' ⟨rfl, rfl⟩))
          go_ret
          exact ⟨rfl, rfl⟩
      · have W1 : wrap64 (k + m) = k + m := by unfold wrap64; omega
        by_cases h3 : 256 < k + m
        · have hz := h4 (fun h => by have := h.small h2; omega)
          subst hz
          have D5 : decide (256 < k + m) = true := by simpa using h3
          clear T h4 h0 hr h3 HZ c2
          rcases hf with rfl | rfl | rfl
          · go_enter Tryd.func40, Tryd.ntmps40
            go_wp2
            go_ret
            exact ⟨rfl, rfl⟩
          · go_enter Tryd.func40, Tryd.ntmps40
            go_wp2
            go_ret
            exact ⟨rfl, rfl⟩
          · exact absurd rfl h2
        · have hz := h0 ⟨hf, by omega, by omega, by omega, fun _ => by omega, fun h => absurd h h2⟩
          subst hz
          have D5 : decide (256 < k + m) = false := by simpa using h3
          clear T h4 h0 hr h3 HZ c2
          rcases hf with rfl | rfl | rfl
          · go_enter Tryd.func40, Tryd.ntmps40
            go_wp2
            go_ret
            exact ⟨rfl, rfl⟩
          · go_enter Tryd.func40, Tryd.ntmps40
            go_wp2
            go_ret
            exact ⟨rfl, rfl⟩
          · exact absurd rfl h2
end Go.Proofs.YtehbiccpbopkfaaDoor
namespace Go.Proofs.YtehbiccpbopkfaaDoor
open Go.RowKit Gf2
set_option linter.unusedVariables false

-- layer 16: Length
/-- Length's error. -/
def lne (f k m n : Int) : Int := if prm f k m = 0 then (if n < 1 then 163 else if 1099511627776 < n then 5 else 0) else prm f k m
/-- Length's answer. -/
def lnv (f k m n : Int) : Int := if lne f k m n = 0 then (ln16 f k.toNat n.toNat : Int) else 0
theorem ln16_facts (k n : Nat) (k1 : 1 ≤ k) (k2 : k ≤ 65536) (hn2 : n ≤ 1099511627776) : ∃ x q r : Nat, Hid (x = n + k - 1 ∧ q = (n + k - 1) / k ∧ r = (n + k - 1) / k % 2) ∧ wrap64 ((n : Int) + (k : Int)) = (n : Int) + (k : Int) ∧ (1 ≤ n → wrap64 ((n : Int) + (k : Int) - 1) = (x : Int)) ∧
    (x : Int).tdiv (k : Int) = (q : Int) ∧ wrap64 (q : Int) = (q : Int) ∧ (q : Int).tmod 2 = (r : Int) ∧ wrap64 ((q : Int) + (r : Int)) = ((q + r : Nat) : Int) := by
  have h : (n + k - 1) / k ≤ n + k - 1 := Nat.div_le_self _ _
  refine ⟨n + k - 1, (n + k - 1) / k, (n + k - 1) / k % 2, ⟨rfl, rfl, rfl⟩, ?_, fun _ => ?_, ?_, ?_, ?_, ?_⟩
  · unfold wrap64; omega
  · unfold wrap64; omega
  · exact (Int.ofNat_tdiv _ _).symm
  · generalize (n + k - 1) / k = q at h; unfold wrap64; omega
  · exact (Int.ofNat_tmod _ _).symm
  · generalize (n + k - 1) / k = q at h; unfold wrap64; omega
set_option maxHeartbeats 2000000 in
set_option maxRecDepth 100000 in
theorem length16_yes (f m : Int) (k n : Nat) (w : World) (hk : I64 k) (hp : prm f k m = 0) (hn : 1 ≤ n) (hn2 : n ≤ 1099511627776) :
    Calls Tryd.prog 25 #[.int .i64 f, .int .i64 (k : Int), .int .i64 m, .int .i64 (n : Int)] w fun e w' => e = .returned (.tuple #[.int .i64 (ln16 f k n : Nat), .int .i64 0]) ∧ w' = w := by
  have c1 := fun x => params16 f k m x hk
  rw [hp] at c1
  have hv := prm_ok.1 hp
  have k1 := hv.hk
  have k2 := hv.sum
  have k3 := hv.hm
  have D1 : decide ((n : Int) < 1) = false := by simp; omega
  have D2 : decide ((1099511627776 : Int) < (n : Int)) = false := by simp; omega
  have D3 : ¬ k = 0 := by omega
  obtain ⟨x, q, r, HX, W1, W2, T1, W3, T2, W4⟩ := ln16_facts k n (by omega) (by omega) hn2
  have W2 := W2 hn
  obtain ⟨l, hl⟩ : ∃ l, l = ln16 f k n := ⟨_, rfl⟩
  rw [← hl]
  have HL : Hid (l = ln16 f k n) := hl
  clear hl
  unfold ln16 at HL
  by_cases h2 : f = 2
  · subst h2
    clear hp hv hk hn hn2 k1 k2 k3
    have hl : l = q + r := by have := HL.out; rw [if_pos rfl] at this; rw [this, HX.out.2.1, HX.out.2.2]
    subst hl
    go_enter Tryd.func25, Tryd.ntmps25
    go_wp2_with (go_at_call 39; ((with_reducible refine (c1 _).mono ?_); rintro e w' ⟨rfl, rfl⟩))
    rw [W4]
    go_ret2
    exact ⟨rfl, rfl⟩
  · have E2 : (f == 2) = false := by simpa using h2
    clear hp hv hk hn hn2 k1 k2 k3
    have hl : l = q := by have := HL.out; rw [if_neg h2] at this; rw [this, HX.out.2.1]
    subst hl
    clear W4 T2
    go_enter Tryd.func25, Tryd.ntmps25
    go_wp2_with (go_at_call 39; ((with_reducible refine (c1 _).mono ?_); rintro e w' ⟨rfl, rfl⟩))
    rw [W3]
    go_ret2
    exact ⟨rfl, rfl⟩
set_option maxHeartbeats 2000000 in
set_option maxRecDepth 100000 in
theorem length16_no (f k m n : Int) (w : World) (hk : I64 k) (z : Int) (h0 : lne f k m n = z) (h : z ≠ 0) :
    Calls Tryd.prog 25 #[.int .i64 f, .int .i64 k, .int .i64 m, .int .i64 n] w fun e w' => e = .returned (.tuple #[.int .i64 0, .int .i64 z]) ∧ w' = w := by
  have c1 := fun x => params16 f k m x hk
  unfold lne at h0
  clear hk
  by_cases hp : prm f k m = 0
  · rw [hp] at c1
    rw [if_pos hp] at h0
    clear hp
    by_cases h1 : n < 1
    · rw [if_pos h1] at h0
      have D1 : decide (n < 1) = true := by simpa using h1
      subst h0
      clear h1 h
      go_enter Tryd.func25, Tryd.ntmps25
      go_wp2_with (go_at_call 39; ((with_reducible refine (c1 _).mono ?_); rintro e w' ⟨rfl, rfl⟩))
      go_ret2
      exact ⟨rfl, rfl⟩
    · rw [if_neg h1] at h0
      have D1 : decide (n < 1) = false := by simpa using h1
      by_cases h2 : 1099511627776 < n
      · rw [if_pos h2] at h0
        have D2 : decide (1099511627776 < n) = true := by simpa using h2
        subst h0
        clear h1 h2 h
        go_enter Tryd.func25, Tryd.ntmps25
        go_wp2_with (go_at_call 39; ((with_reducible refine (c1 _).mono ?_); rintro e w' ⟨rfl, rfl⟩))
        go_ret2
        exact ⟨rfl, rfl⟩
      · rw [if_neg h2] at h0
        exact absurd h0.symm h
  · rw [if_neg hp] at h0
    rw [h0] at c1
    clear hp h0
    have D1 : (z != 0) = true := by simpa using h
    have D2 : (z == 0) = false := by simpa using h
    clear h
    go_enter Tryd.func25, Tryd.ntmps25
    go_wp2_with (go_at_call 39; ((with_reducible refine (c1 _).mono ?_); rintro e w' ⟨rfl, rfl⟩))
    go_ret2
    exact ⟨rfl, rfl⟩
theorem lne_ok {f k m n : Int} (h : lne f k m n = 0) : prm f k m = 0 ∧ 1 ≤ n ∧ n ≤ 1099511627776 := by
  unfold lne at h
  by_cases hp : prm f k m = 0
  · rw [if_pos hp] at h
    by_cases h1 : n < 1
    · rw [if_pos h1] at h; cases h
    · rw [if_neg h1] at h
      by_cases h2 : 1099511627776 < n
      · rw [if_pos h2] at h; cases h
      · exact ⟨hp, by omega, by omega⟩
  · rw [if_neg hp] at h; exact absurd h hp
end Go.Proofs.YtehbiccpbopkfaaDoor
namespace Go.Proofs.YtehbiccpbopkfaaDoor
open Go.RowKit Gf2
set_option linter.unusedVariables false

-- layer 16: the document's length and Length; Uses
theorem ceil16 {n k : Nat} (hk : 1 ≤ k) : (n + k - 1) / k = if n % k = 0 then n / k else n / k + 1 := by
  obtain ⟨q, hq⟩ : ∃ q, q = n / k := ⟨_, rfl⟩
  obtain ⟨r, hr⟩ : ∃ r, r = n % k := ⟨_, rfl⟩
  have h := Nat.div_add_mod n k
  have hl := Nat.mod_lt n (show 0 < k by omega)
  rw [← hq, ← hr] at *
  rw [← h]
  by_cases e : r = 0
  · rw [if_pos e, e, show k * q + 0 + k - 1 = (k - 1) + k * q by omega, Nat.add_mul_div_left _ _ (by omega), Nat.div_eq_of_lt (by omega), Nat.zero_add]
  · rw [if_neg e, show k * q + r + k - 1 = (r - 1 + k) + k * q by omega, Nat.add_mul_div_left _ _ (by omega), Nat.add_div_right _ (by omega), Nat.div_eq_of_lt (by omega)]
    omega
theorem len_wraps {q a n : Nat} (h : q ≤ n) (h2 : n ≤ 1099511627776) (h3 : a ≤ q + 1) : wrap64 (q : Int) = (q : Int) ∧ wrap64 ((q : Int) + 1) = ((q + 1 : Nat) : Int) ∧ wrap64 ((a : Int) + 1) = ((a + 1 : Nat) : Int) := by
  refine ⟨?_, ?_, ?_⟩ <;> (unfold wrap64; omega)
set_option maxHeartbeats 2000000 in
set_option maxRecDepth 100000 in
theorem rlength16a (f : Int) (k n : Nat) (w : World) (k1 : 1 ≤ k) (k2 : k ≤ 65536) (hn2 : n ≤ 1099511627776) :
    Calls Tryd.prog 41 #[.int .i64 f, .int .i64 (k : Int), .int .i64 (n : Int)] w fun e w' => e = .returned (.int .i64 (ln16 f k n : Nat)) ∧ w' = w := by
  obtain ⟨l, hl⟩ : ∃ l, l = ln16 f k n := ⟨_, rfl⟩
  rw [← hl]
  have HL : Hid (l = ln16 f k n) := hl
  clear hl
  obtain ⟨q, hq⟩ : ∃ q, q = n / k := ⟨_, rfl⟩
  obtain ⟨r, hr⟩ : ∃ r, r = n % k := ⟨_, rfl⟩
  have hqn : q ≤ n := by rw [hq]; exact Nat.div_le_self _ _
  have T1 : (n : Int).tdiv (k : Int) = (q : Int) := by rw [hq]; exact (Int.ofNat_tdiv _ _).symm
  have T2 : (n : Int).tmod (k : Int) = (r : Int) := by rw [hr]; exact (Int.ofNat_tmod _ _).symm
  have hc := ceil16 (n := n) k1
  rw [← hq, ← hr] at hc
  have D3 : ¬ k = 0 := by omega
  -- q plus what is left, then the odd one
  obtain ⟨a, ha⟩ : ∃ a, a = (n + k - 1) / k := ⟨_, rfl⟩
  rw [← ha] at hc
  have hl2 : l = if f = 2 then a + a % 2 else a := by have := HL.out; unfold ln16 at this; rw [← ha] at this; exact this
  have T3 : (a : Int).tmod 2 = ((a % 2 : Nat) : Int) := (Int.ofNat_tmod _ _).symm
  obtain ⟨b, hb⟩ : ∃ b, b = a % 2 := ⟨_, rfl⟩
  rw [← hb] at T3 hl2
  have hb2 : b = 0 ∨ b = 1 := by omega
  have ha5 : a ≤ q + 1 := by rw [hc]; split <;> omega
  have D4 : r = 0 → ¬ 0 < r := by intro h; omega
  have D5 : ¬ r = 0 → 0 < r := by intro h; omega
  have T4 : b = 0 → (a : Int) % 2 = 0 := by intro h; omega
  have T5 : b = 1 → (a : Int) % 2 = 1 := by intro h; omega
  have Ws := len_wraps hqn hn2 ha5
  clear ha5
  obtain ⟨W3, W4, W5⟩ := Ws
  by_cases h0 : r = 0
  · rw [if_pos h0] at hc
    subst hc
    replace D4 := D4 h0
    clear D5
    by_cases h2 : f = 2
    · rw [if_pos h2] at hl2
      subst h2
      rcases hb2 with h9 | h9
      · replace T4 := T4 h9
        clear T5
        rw [h9] at T3 hl2
        obtain rfl : l = a := hl2
        have hz : ¬ ((0 : Nat) : Int) = 1 := by decide
        clear hb h9 h0 hr hq ha hqn HL k1 k2 hn2 W4 W5
        go_enter Tryd.func41, Tryd.ntmps41
        go_wp2
        rw [W3]
        go_ret
        exact ⟨rfl, rfl⟩
      · replace T5 := T5 h9
        clear T4
        rw [h9] at T3 hl2
        obtain rfl : l = a + 1 := hl2
        clear hb h9 h0 hr hq ha hqn HL k1 k2 hn2 W4
        go_enter Tryd.func41, Tryd.ntmps41
        go_wp2
        go_ret
        exact ⟨by rw [← W5]; rfl, rfl⟩
    · rw [if_neg h2] at hl2
      have E2 : (f == 2) = false := by simpa using h2
      obtain rfl : l = a := hl2
      clear hb h0 hr hq ha hqn HL k1 k2 hn2 W4 W5 T3 h2 hb2 T4 T5
      go_enter Tryd.func41, Tryd.ntmps41
      go_wp2
      rw [W3]
      go_ret
      exact ⟨rfl, rfl⟩
  · rw [if_neg h0] at hc
    replace D4 := D5 h0
    clear D5
    rw [← hc] at W4
    by_cases h2 : f = 2
    · rw [if_pos h2] at hl2
      subst h2
      rcases hb2 with h9 | h9
      · replace T4 := T4 h9
        clear T5
        rw [h9] at T3 hl2
        obtain rfl : l = a := hl2
        clear hb h9 h0 hr hq ha hqn HL k1 k2 hn2 W5 hc
        go_enter Tryd.func41, Tryd.ntmps41
        go_wp2
        go_ret
        exact ⟨by rw [← W4]; rfl, rfl⟩
      · replace T5 := T5 h9
        clear T4
        rw [h9] at T3 hl2
        obtain rfl : l = a + 1 := hl2
        clear hb h9 h0 hr hq ha hqn HL k1 k2 hn2 hc
        go_enter Tryd.func41, Tryd.ntmps41
        go_wp2
        go_ret
        exact ⟨by rw [← W5]; rfl, rfl⟩
    · rw [if_neg h2] at hl2
      have E2 : (f == 2) = false := by simpa using h2
      obtain rfl : l = a := hl2
      clear hb h0 hr hq ha hqn HL k1 k2 hn2 W5 T3 h2 hb2 T4 T5 hc
      go_enter Tryd.func41, Tryd.ntmps41
      go_wp2
      go_ret
      exact ⟨by rw [← W4]; rfl, rfl⟩
end Go.Proofs.YtehbiccpbopkfaaDoor
namespace Go.Proofs.YtehbiccpbopkfaaDoor
open Go.RowKit Gf2
set_option linter.unusedVariables false

-- layer 16: the document's Length
set_option maxHeartbeats 2000000 in
set_option maxRecDepth 100000 in
theorem rlength16 (f k m n : Int) (w : World) :
    Calls Tryd.prog 27 #[.int .i64 f, .int .i64 k, .int .i64 m, .int .i64 n] w fun e w' => e = .returned (.tuple #[.int .i64 (lnv f k m n), .int .i64 (lne f k m n)]) ∧ w' = w := by
  have c1 := fun x => rparams16 f k m x
  unfold lnv
  by_cases h : lne f k m n = 0
  · rw [if_pos h, h]
    obtain ⟨h1, h2, h3⟩ := lne_ok h
    have hv := prm_ok.1 h1
    obtain ⟨a, rfl⟩ := Int.eq_ofNat_of_zero_le (show 0 ≤ k by have := hv.hk; omega)
    obtain ⟨b, rfl⟩ := Int.eq_ofNat_of_zero_le (show 0 ≤ n by omega)
    rw [h1] at c1
    have c2 := fun x => rlength16a f a b x (by have := hv.hk; omega) (by have := hv.sum; have := hv.hm; omega) (by omega)
    have D1 : decide ((b : Int) < 1) = false := by simp; omega
    have D2 : decide ((1099511627776 : Int) < (b : Int)) = false := by simp; omega
    show Calls _ _ _ _ fun e w' => e = .returned (.tuple #[.int .i64 (ln16 f a b : Nat), .int .i64 0]) ∧ w' = w
    generalize ln16 f a b = z at c2
    clear h h1 hv h2 h3
    go_enter Tryd.func27, Tryd.ntmps27
    go_wp2_with (first | (go_at_call 40; ((with_reducible refine (c1 _).mono ?_); rintro e w' ⟨rfl, rfl⟩)) | (go_at_call 41; ((with_reducible refine (c2 _).mono ?_); rintro e w' ⟨rfl, rfl⟩)))
    go_ret2
    exact ⟨rfl, rfl⟩
  · rw [if_neg h]
    obtain ⟨z, hz⟩ : ∃ z, lne f k m n = z := ⟨_, rfl⟩
    rw [hz] at h ⊢
    have h0 := hz
    clear hz
    unfold lne at h0
    by_cases hp : prm f k m = 0
    · rw [hp] at c1
      rw [if_pos hp] at h0
      clear hp
      by_cases h1 : n < 1
      · rw [if_pos h1] at h0
        have D1 : decide (n < 1) = true := by simpa using h1
        subst h0
        clear h1 h
        go_enter Tryd.func27, Tryd.ntmps27
        go_wp2_with (go_at_call 40; ((with_reducible refine (c1 _).mono ?_); rintro e w' ⟨rfl, rfl⟩))
        go_ret2
        exact ⟨rfl, rfl⟩
      · rw [if_neg h1] at h0
        have D1 : decide (n < 1) = false := by simpa using h1
        by_cases h2 : 1099511627776 < n
        · rw [if_pos h2] at h0
          have D2 : decide (1099511627776 < n) = true := by simpa using h2
          subst h0
          clear h1 h2 h
          go_enter Tryd.func27, Tryd.ntmps27
          go_wp2_with (go_at_call 40; ((with_reducible refine (c1 _).mono ?_); rintro e w' ⟨rfl, rfl⟩))
          go_ret2
          exact ⟨rfl, rfl⟩
        · rw [if_neg h2] at h0
          exact absurd h0.symm h
    · rw [if_neg hp] at h0
      rw [h0] at c1
      clear hp h0
      have D1 : (z != 0) = true := by simpa using h
      have D2 : (z == 0) = false := by simpa using h
      clear h
      go_enter Tryd.func27, Tryd.ntmps27
      go_wp2_with (go_at_call 40; ((with_reducible refine (c1 _).mono ?_); rintro e w' ⟨rfl, rfl⟩))
      go_ret2
      exact ⟨rfl, rfl⟩
end Go.Proofs.YtehbiccpbopkfaaDoor
namespace Go.Proofs.YtehbiccpbopkfaaDoor
open Go.RowKit Gf2
set_option linter.unusedVariables false

-- layer 16: a list of lists that is made and filled from the front; pieces of lists
section
variable {w wr w' : World} {g m k : Nat} {n C B : Nat → Nat} {S : Nat → Nat → Nat}
end
theorem ln16_ge (f : Int) {k n : Nat} (hk : 1 ≤ k) : n ≤ k * ln16 f k n := by
  have h : n ≤ k * ((n + k - 1) / k) := by
    rw [ceil16 hk]
    have := Nat.div_add_mod n k
    split
    · omega
    · have := Nat.mod_lt n (show 0 < k by omega)
      rw [Nat.mul_add, Nat.mul_one]
      omega
  unfold ln16
  split
  · rw [Nat.mul_add]; omega
  · exact h
theorem ln16_le (f : Int) {k n : Nat} (hk : 1 ≤ k) : ln16 f k n ≤ n + 1 := by
  have h : (n + k - 1) / k ≤ n := by
    rw [ceil16 hk]
    rcases Nat.lt_or_ge 1 k with h1 | h1
    · by_cases h0 : n = 0
      · rw [if_pos (by rw [h0, Nat.zero_mod])]; exact Nat.div_le_self _ _
      · split
        · exact Nat.div_le_self _ _
        · exact Nat.div_lt_self (by omega) h1
    · obtain rfl : k = 1 := by omega
      rw [if_pos (Nat.mod_one _), Nat.div_one]; exact Nat.le_refl _
  unfold ln16
  split <;> omega
end Go.Proofs.YtehbiccpbopkfaaDoor
