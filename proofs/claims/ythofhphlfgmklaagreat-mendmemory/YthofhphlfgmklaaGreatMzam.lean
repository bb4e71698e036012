import Derived.Test.YthofhphlfgmklaaGreatMzal
import Derived.Test.YthofhphlfgmklaaGreatMzai
import Derived.BigQuiet
import Derived.Deep.OwnRows
namespace Go.Proofs.YthofhphlfgmklaaGreat
open Go.ChangeShapes Go.WideShapes Go.ChangeAt Go.RowKit Go.Deep
set_option linter.unusedVariables false

/-- integers that came in. -/
theorem open_ints10 {H : Type} {enc : TypeId × Value → H} {W : World} {base : Nat} {held : Bool} {fuel : Nat} {v : Value} {x : DataW H × List MemPlace}
    (h : DataW.trod enc Tryz.prog W base (fun _ => true) held fuel 23 [v] = some x) : ∃ a len cap F, v = .slice a len cap ∧ Qi W (.slice a len cap) len F := by
  rcases open_slice Tryz.underlying23 h with ⟨hcs, _⟩ | ⟨a', len, cap, m, n, D, Pl, hcs, hb, hl, hm, hmm, hxe, hx⟩
  · simp at hcs
    subst hcs
    exact ⟨none, 0, 0, fun _ => 0, rfl, by decide, trivial, none, 0, rfl, Nat.le_refl _, by decide, fun h => absurd h (Nat.lt_irrefl _)⟩
  · simp at hcs
    subst hcs
    have hlm : len ≤ m := by rw [hmm]; split <;> omega
    have c3 : Tryz.prog.cellsOf 3 = 1 := by kernel_rfl
    have each : ∀ i, i < len → ∃ k : Int, W.cell? ((a'.add i).add 0) = some (.int .i64 k) := by
      intro i hi
      obtain ⟨cs', h1, h2⟩ := hx i (by omega)
      rw [c3] at h1
      obtain ⟨_, hlen, hcell⟩ := World.cells?_some h1
      match cs', hlen with
      | [v0], _ =>
        obtain ⟨k0, e0, -, w0⟩ := DataW.trod_int Tryz.underlying3 h2
        simp at e0
        subst e0
        have z0 := hcell 0 (by omega)
        exact ⟨k0, by simpa using z0⟩
    have hcap : cap ≤ big := by unfold big; unfold maxLen at hm; omega
    have hbig : len ≤ big := by omega
    by_cases h0 : len = 0
    · subst h0
      exact ⟨_, _, _, fun _ => 0, rfl, hbig, trivial, _, _, rfl, hl, hcap, fun h => absurd h (Nat.lt_irrefl _)⟩
    · obtain ⟨b, off, spot⟩ := a'
      have hspot : spot = none := by
        obtain ⟨v, z0⟩ := each 0 (by omega)
        simpa [Addr.add] using World.cell?_spot z0
      subst hspot
      have each' : ∀ i, i < len → ∃ k : Int, W.cell? ⟨b, off + i, none⟩ = some (.int .i64 k) := by
        intro i hi
        obtain ⟨v, z⟩ := each i hi
        simp only [add_plain, Nat.add_zero] at z
        exact ⟨v, z⟩
      refine ⟨_, _, _, fun i => if h : i < len then (each' i h).choose else 0, rfl, hbig, trivial, _, _, rfl, hl, hcap, fun _ => ⟨b, off, rfl, ?_, fun i hi => ?_⟩⟩
      · obtain ⟨v, z0⟩ := each' 0 (by omega)
        exact cell_lt5 z0
      · simp only [dif_pos hi]
        exact (each' i hi).choose_spec
end Go.Proofs.YthofhphlfgmklaaGreat
namespace Go.Proofs.YthofhphlfgmklaaGreat
open Go.ChangeShapes Go.WideShapes Go.ChangeAt Go.RowKit Go.Deep
set_option linter.unusedVariables false

/-- bytes that came in. -/
def Bm9 (W : World) (v : Value) : Prop := ∃ n S, Rb W v n S ∧ n ≤ 140737488351232
/-- lists of bytes that came in. -/
def Lm9 (W : World) (v : Value) : Prop := ∃ m n S, Lb W v m n S ∧ 24 * m ≤ 140737488351232 ∧ ∀ i, i < m → n i ≤ 140737488351232
theorem Bm9.below {W W' : World} {v : Value} (h : Bm9 W v) (hb : Below W.heap.size W W') : Bm9 W' v := by
  obtain ⟨n, S, h1, h2⟩ := h
  exact ⟨n, S, h1.below hb, h2⟩
theorem Lm9.below {W W' : World} {v : Value} (h : Lm9 W v) (hb : Below W.heap.size W W') : Lm9 W' v := by
  obtain ⟨m, n, S, h1, h2⟩ := h
  exact ⟨m, n, S, Lb.below h1 hb, h2⟩

theorem weightsAll_mem9 {H : Type} {P : Program} {e : TypeId} {d : DataW H} {n : Nat} (hn : n ∈ d.weights P e) : ∀ {l : List (DataW H)}, d ∈ l → n ∈ DataW.weightsAll P e l
  | d0 :: l, h => by
    rw [DataW.weightsAll, List.mem_append]
    rcases List.mem_cons.1 h with rfl | h
    · exact .inl hn
    · exact .inr (weightsAll_mem9 hn h)
theorem open_bytes9 {H : Type} {enc : TypeId × Value → H} {W : World} {base : Nat} {held : Bool} {fuel : Nat} {v : Value} {x : DataW H × List MemPlace}
    (h : DataW.trod enc Tryz.prog W base (fun _ => true) held fuel 31 [v] = some x) (hsz : ∀ n ∈ x.1.weights Tryz.prog 31, n ≤ reachBytes) : Bm9 W v := by
  obtain ⟨a, len, cap, rfl⟩ : ∃ a len cap, v = .slice a len cap := by
    rcases open_slice Tryz.underlying31 h with ⟨hcs, _⟩ | ⟨a', len', cap', m, n, D, Pl, hcs, _⟩
    · simp at hcs; exact ⟨_, _, _, hcs⟩
    · simp at hcs; exact ⟨_, _, _, hcs⟩
  have := open_bytes5 h (fun el sp he => by
    refine hsz _ ?_
    rw [he]
    simp [DataW.weights, Tryz.underlying31])
  obtain ⟨h1, F, h2⟩ := this
  exact ⟨len, F, h2, h1⟩
theorem bytes_l9 : Tryz.prog.bytesOf 31 = 24 := by kernel_rfl
theorem open_lists9 {H : Type} {enc : TypeId × Value → H} {W : World} {base : Nat} {held : Bool} {fuel : Nat} {v : Value} {x : DataW H × List MemPlace}
    (h : DataW.trod enc Tryz.prog W base (fun _ => true) held fuel 22 [v] = some x) (hsz : ∀ n ∈ x.1.weights Tryz.prog 22, n ≤ reachBytes) : Lm9 W v := by
  have hsz2 : ∀ elems spare, x.1 = .slice elems spare → (elems.length + spare.length) * Tryz.prog.bytesOf 31 ≤ reachBytes := fun el sp he => by
    refine hsz _ ?_
    rw [he]
    simp [DataW.weights, Tryz.underlying22]
  rcases open_slice Tryz.underlying22 h with ⟨hcs, _⟩ | ⟨a', len, cap, m, n, D, Pl, hcs, hb, hl, hm, hmm, hxe, hx⟩
  · simp at hcs
    subst hcs
    exact ⟨0, fun _ => 0, fun _ _ => 0, ⟨fun _ => .slice none 0 0, ⟨by unfold big; omega, none, 0, rfl, by omega, by unfold big; omega, fun h => absurd h (Nat.lt_irrefl _)⟩, fun i hi => absurd hi (Nat.not_lt_zero _)⟩, by omega, fun i hi => absurd hi (Nat.not_lt_zero _)⟩
  · simp at hcs
    subst hcs
    have hm' : cap * 24 ≤ 140737488351232 := by
      have := hsz2 _ _ (by rw [hxe])
      rw [bytes_l9] at this
      simp only [List.length_map, List.length_range, reachBytes] at this
      simp at hmm
      omega
    have hlm : len ≤ m := by rw [hmm]; split <;> omega
    have c1 : Tryz.prog.cellsOf 31 = 1 := by kernel_rfl
    have each : ∀ i, i < len → ∃ u, W.cell? ((a'.add i).add 0) = some u ∧ Bm9 W u := by
      intro i hi
      obtain ⟨cs', h1, h2⟩ := hx i (by omega)
      rw [c1] at h1
      obtain ⟨_, hlen, hcell⟩ := World.cells?_some h1
      match cs', hlen with
      | [v0], _ =>
        have z0 := hcell 0 (by omega)
        refine ⟨v0, by simpa using z0, open_bytes9 h2 (fun n hn => hsz n ?_)⟩
        have mD : D i ∈ (List.range len).map D := List.mem_map.2 ⟨i, List.mem_range.2 hi, rfl⟩
        rw [hxe]
        simp only [DataW.weights, Tryz.underlying22]
        exact List.mem_cons_of_mem _ (List.mem_append.2 (.inl (weightsAll_mem9 hn mD)))
    by_cases h0 : len = 0
    · subst h0
      exact ⟨0, fun _ => 0, fun _ _ => 0, ⟨fun _ => .slice none 0 0, ⟨by unfold big; omega, _, _, rfl, by omega, by unfold big; omega, fun h => absurd h (Nat.lt_irrefl _)⟩, fun i hi => absurd hi (Nat.not_lt_zero _)⟩, by omega, fun i hi => absurd hi (Nat.not_lt_zero _)⟩
    · obtain ⟨b, off, spot⟩ := a'
      have hspot : spot = none := by
        obtain ⟨v, z0, -⟩ := each 0 (by omega)
        simpa [Addr.add] using World.cell?_spot z0
      subst hspot
      have each' : ∀ i : Nat, ∃ u n S, i < len → W.cell? ⟨b, off + i, none⟩ = some u ∧ Rb W u n S ∧ n ≤ 140737488351232 := by
        intro i
        by_cases hi : i < len
        · obtain ⟨u, z, n, S, h1, h2⟩ := each i hi
          simp only [add_plain, Nat.add_zero] at z
          exact ⟨u, n, S, fun _ => ⟨z, h1, h2⟩⟩
        · exact ⟨.slice none 0 0, 0, fun _ => 0, fun h => absurd h hi⟩
      obtain ⟨U, hU⟩ := Classical.skolem.1 each'
      obtain ⟨N, hN⟩ := Classical.skolem.1 hU
      obtain ⟨S, hS⟩ := Classical.skolem.1 hN
      refine ⟨len, N, S, ⟨U, ⟨by unfold big; omega, _, _, rfl, hl, by unfold big; omega, fun _ => ⟨b, off, rfl, ⟨?_, fun e => e⟩, fun i hi => (hS i hi).1⟩⟩, fun i hi => (hS i hi).2.1.re (fun _ _ e => e)⟩, by omega, fun i hi => (hS i hi).2.2⟩
      exact cell_lt5 (hS 0 (by omega)).1

end Go.Proofs.YthofhphlfgmklaaGreat
namespace Go.Proofs.YthofhphlfgmklaaGreat
open Go.RowKit Gf2
set_option linter.unusedVariables false

-- layer 16: the numbers
/-- the least power of two that is n or more (n 1 or more). -/
def p2 (n : Nat) : Nat := 2 ^ Nat.log2 (2 * n - 1)
theorem p2_lo {n : Nat} (h : 1 ≤ n) : n ≤ p2 n := by
  have := Nat.lt_log2_self (n := 2 * n - 1)
  unfold p2
  rw [Nat.pow_succ] at this
  omega
theorem p2_only {n j : Nat} (h : 1 ≤ n) (h1 : n ≤ 2 ^ j) (h2 : 2 ^ j < 2 * n) : 2 ^ j = p2 n := by
  unfold p2
  congr 1
  exact ((Nat.log2_eq_iff (by omega)).2 ⟨by omega, by rw [Nat.pow_succ]; omega⟩).symm
/-- what Pow2 answers. -/
def p2z (m : Int) : Int := if m < 1 ∨ 65536 < m then 0 else (p2 m.toNat : Int)
def p2e (m : Int) : Int := if m < 1 ∨ 65536 < m then 7 else 0
/-- what room answers. -/
def rm16 (d p q : Int) : Int := if d < 1 ∨ p < 1 ∨ q - d < p then 4 else 0
/-- what Params answers. -/
def prm (f k m : Int) : Int := if f = 0 ∨ f = 1 then rm16 k m 256 else if f = 2 then rm16 k (p2z m) 65536 else 2
/-- valid parameters. -/
structure Pv (f k m : Int) : Prop where
  fam : f = 0 ∨ f = 1 ∨ f = 2
  hk : 1 ≤ k
  hm : 1 ≤ m
  sum : k + m ≤ 65536
  small : f ≠ 2 → k + m ≤ 256
  long : f = 2 → k + (p2 m.toNat : Int) ≤ 65536
theorem prm_ok {f k m : Int} : prm f k m = 0 ↔ Pv f k m := by
  unfold prm rm16 p2z
  constructor
  · intro h
    by_cases h1 : f = 0 ∨ f = 1
    · rw [if_pos h1] at h
      split at h
      · cases h
      · exact ⟨by omega, by omega, by omega, by omega, fun _ => by omega, fun _ => by omega⟩
    · rw [if_neg h1] at h
      by_cases h2 : f = 2
      · rw [if_pos h2] at h
        by_cases h3 : m < 1 ∨ 65536 < m
        · rw [if_pos h3, if_pos (by omega)] at h; cases h
        · rw [if_neg h3] at h
          split at h
          · cases h
          · have := p2_lo (n := m.toNat) (by omega)
            exact ⟨by omega, by omega, by omega, by omega, fun _ => by omega, fun _ => by omega⟩
      · rw [if_neg h2] at h; cases h
  · intro h
    obtain ⟨h1, h2, h3, h4, h5, h6⟩ := h
    by_cases e : f = 2
    · have := h6 e
      have hl := p2_lo (n := m.toNat) (by omega)
      have e9 : ¬ (m < 1 ∨ 65536 < m) := by omega
      rw [if_neg (by omega), if_pos e, if_neg e9, if_neg (by omega)]
    · have := h5 e
      rw [if_pos (by omega), if_neg (by omega)]
end Go.Proofs.YthofhphlfgmklaaGreat
namespace Go.Proofs.YthofhphlfgmklaaGreat
open Go.RowKit Gf2
set_option linter.unusedVariables false

-- layer 16: contracts of the numbers (laid by wip/genyhb.py)
theorem pow_meas {p n : Nat} (h : p < n) (h1 : 1 ≤ p) : (2 * n - (2 * p : Nat)) < 2 * n - p := by omega

set_option maxHeartbeats 2000000 in
set_option maxRecDepth 100000 in
theorem pow16p_no (n : Int) (w : World) (h : n < 1 ∨ 65536 < n) :
    Calls Tryz.prog 86 #[.int .i64 n] w fun e w' => e = .returned (.tuple #[.int .i64 0, .int .i64 7]) ∧ w' = w := by
  by_cases h1 : n < 1
  · have D1 : decide (n < 1) = true := by simpa using h1
    clear h h1
    go_enter Tryz.func86, Tryz.ntmps86
    go_wp2
    go_ret2
    exact ⟨rfl, rfl⟩
  · have D1 : decide (n < 1) = false := by simpa using h1
    have D2 : decide (65536 < n) = true := by simp; omega
    clear h h1
    go_enter Tryz.func86, Tryz.ntmps86
    go_wp2
    go_ret2
    exact ⟨rfl, rfl⟩
set_option maxHeartbeats 2000000 in
set_option maxRecDepth 100000 in
theorem pow16p_yes (n : Nat) (w : World) (h1 : 1 ≤ n) (h2 : n ≤ 65536) :
    Calls Tryz.prog 86 #[.int .i64 (n : Int)] w fun e w' => e = .returned (.tuple #[.int .i64 (p2 n : Nat), .int .i64 0]) ∧ w' = w := by
  have D1 : decide ((n : Int) < 1) = false := by simp; omega
  have D2 : decide ((65536 : Int) < (n : Int)) = false := by simp; omega
  have HN : Hid (1 ≤ n ∧ n ≤ 65536) := ⟨h1, h2⟩
  obtain ⟨z, hz⟩ : ∃ z, z = p2 n := ⟨_, rfl⟩
  rw [← hz]
  have HZ : Hid (z = p2 n) := hz
  clear h1 h2 hz
  go_enter Tryz.func86, Tryz.ntmps86
  go_wp2
  go_loopw [4] (fun p wr => ∃ j q : Nat, q = 2 ^ j ∧ p = .int .i64 (q : Nat) ∧ q < 2 * n ∧ wr = w) (fun p _ => 2 * n - (intOf p).toNat)
  case atStart => exact ⟨0, 1, rfl, rfl, by have := HN.out; omega, rfl⟩
  case round =>
    obtain ⟨j, p, hp, rfl, hn, rfl⟩ := hrel
    have h0 : 1 ≤ p := by rw [hp]; exact Nat.one_le_two_pow
    by_cases hlt : p < n
    · have W1 : wrap64 ((p : Int) * 2) = ((2 * p : Nat) : Int) := by have := HN.out; unfold wrap64; omega
      have HX : Hid (p = 2 ^ j ∧ p < n ∧ 1 ≤ p) := ⟨hp, hlt, h0⟩
      clear hp hn h0
      go_wp2
      go_roundw
      case rel => exact ⟨j + 1, 2 * p, by rw [HX.out.1, Nat.pow_succ, Nat.mul_comm], by first | rfl | (rw [W1]), by have := HX.out.2.1; omega, by first | rfl | trivial⟩
      case measure => first | exact pow_meas HX.out.2.1 HX.out.2.2 | (rw [W1]; exact pow_meas HX.out.2.1 HX.out.2.2)
    · have e := p2_only HN.out.1 (by rw [← hp]; omega) (by rw [← hp]; exact hn)
      rw [← hp] at e
      have hz : z = p := HZ.out.trans e.symm
      subst hz
      clear hp hn h0 e
      go_wp2
      go_ret2
      exact ⟨rfl, rfl⟩
theorem pow16p (n : Int) (w : World) :
    Calls Tryz.prog 86 #[.int .i64 n] w fun e w' => e = .returned (.tuple #[.int .i64 (p2z n), .int .i64 (p2e n)]) ∧ w' = w := by
  unfold p2z p2e
  by_cases h : n < 1 ∨ 65536 < n
  · rw [if_pos h, if_pos h]; exact pow16p_no n w h
  · rw [if_neg h, if_neg h]
    obtain ⟨k, rfl⟩ := Int.eq_ofNat_of_zero_le (show 0 ≤ n by omega)
    exact pow16p_yes k w (by omega) (by omega)

set_option maxHeartbeats 2000000 in
set_option maxRecDepth 100000 in
theorem room16 (d p q : Int) (w : World) (hd : d ≤ 9223372036854775807) (hq0 : 0 ≤ q) (hq : q ≤ 65536) :
    Calls Tryz.prog 85 #[.int .i64 d, .int .i64 p, .int .i64 q] w fun e w' => e = .returned (.int .i64 (rm16 d p q)) ∧ w' = w := by
  obtain ⟨z, hz⟩ : ∃ z, z = rm16 d p q := ⟨_, rfl⟩
  rw [← hz]
  have HZ : Hid (z = rm16 d p q) := hz
  clear hz
  have E : ∀ b : Bool, (decide (d < 1 ∨ p < 1 ∨ q - d < p) = b) → Hid (z = if b then 4 else 0) := fun b hb => by
    show z = _
    rw [HZ.out, ← hb]
    unfold rm16
    by_cases h : d < 1 ∨ p < 1 ∨ q - d < p
    · rw [if_pos h]; simp [h]
    · rw [if_neg h]; simp [h]
  by_cases h1 : d < 1
  · have D1 : decide (d < 1) = true := by simpa using h1
    have hz := (E true (by simp [h1])).out
    rw [if_pos rfl] at hz
    subst hz
    clear E HZ h1 hd hq hq0
    go_enter Tryz.func85, Tryz.ntmps85
    go_wp2
    go_ret
    exact ⟨rfl, rfl⟩
  · have D1 : decide (d < 1) = false := by simpa using h1
    by_cases h2 : p < 1
    · have D2 : decide (p < 1) = true := by simpa using h2
      have hz := (E true (by simp [h2])).out
      rw [if_pos rfl] at hz
      subst hz
      clear E HZ h1 h2 hd hq hq0
      go_enter Tryz.func85, Tryz.ntmps85
      go_wp2
      go_ret
      exact ⟨rfl, rfl⟩
    · have D2 : decide (p < 1) = false := by simpa using h2
      have W1 : wrap64 (q - d) = q - d := by unfold wrap64; omega
      by_cases h3 : q - d < p
      · have D3 : decide (q - d < p) = true := by simpa using h3
        have hz := (E true (by simp [h3])).out
        rw [if_pos rfl] at hz
        subst hz
        clear E HZ h1 h2 h3 hd hq hq0
        go_enter Tryz.func85, Tryz.ntmps85
        go_wp2
        go_ret
        exact ⟨rfl, rfl⟩
      · have D3 : decide (q - d < p) = false := by simpa using h3
        have hz := (E false (by simp; omega)).out
        simp at hz
        subst hz
        clear E HZ h1 h2 h3 hd hq hq0
        go_enter Tryz.func85, Tryz.ntmps85
        go_wp2
        go_ret
        exact ⟨rfl, rfl⟩
/-- an int's range. -/
def I64 (k : Int) : Prop := -9223372036854775808 ≤ k ∧ k ≤ 9223372036854775807
set_option maxHeartbeats 2000000 in
set_option maxRecDepth 100000 in
theorem params16 (f k m : Int) (w : World) (hk : I64 k) :
    Calls Tryz.prog 55 #[.int .i64 f, .int .i64 k, .int .i64 m] w fun e w' => e = .returned (.int .i64 (prm f k m)) ∧ w' = w := by
  have c1 := fun x => room16 k m 256 x hk.2 (by decide) (by decide)
  have c2 := fun x => pow16p m x
  have c3 := fun x => room16 k (p2z m) 65536 x hk.2 (by decide) (by decide)
  clear hk
  unfold prm
  by_cases h0 : f = 0
  · subst h0
    rw [if_pos (.inl rfl)]
    generalize rm16 k m 256 = z at c1
    clear c2 c3
    go_enter Tryz.func55, Tryz.ntmps55
    go_wp2_with (go_at_call 85; ((with_reducible refine (c1 _).mono ?_); rintro e w' ⟨rfl, rfl⟩))
    go_ret
    exact ⟨rfl, rfl⟩
  by_cases h1 : f = 1
  · subst h1
    rw [if_pos (.inr rfl)]
    generalize rm16 k m 256 = z at c1
    clear c2 c3 h0
    go_enter Tryz.func55, Tryz.ntmps55
    go_wp2_with (go_at_call 85; ((with_reducible refine (c1 _).mono ?_); rintro e w' ⟨rfl, rfl⟩))
    go_ret
    exact ⟨rfl, rfl⟩
  rw [if_neg (by omega)]
  by_cases h2 : f = 2
  · subst h2
    rw [if_pos rfl]
    generalize rm16 k (p2z m) 65536 = z at c3
    generalize p2z m = p at c2 c3
    generalize p2e m = pe at c2
    clear c1 h0 h1
    go_enter Tryz.func55, Tryz.ntmps55
    go_wp2_with (first | (go_at_call 86; ((with_reducible refine (c2 _).mono ?_); rintro e w' ⟨rfl, rfl⟩)) | (go_at_call 85; ((with_reducible refine (c3 _).mono ?_); rintro e w' ⟨rfl, rfl⟩)))
    go_ret
    exact ⟨rfl, rfl⟩
  · rw [if_neg h2]
    have D0 : (f == 0) = false := by simpa using h0
    have D1 : (f == 1) = false := by simpa using h1
    have D2 : (f == 2) = false := by simpa using h2
    clear c1 c2 c3
    go_enter Tryz.func55, Tryz.ntmps55
    go_wp2
    go_ret
    exact ⟨rfl, rfl⟩
end Go.Proofs.YthofhphlfgmklaaGreat
namespace Go.Proofs.YthofhphlfgmklaaGreat
open Go.ChangeShapes Go.WideShapes Go.ChangeAt Go.RowKit Go.Deep
set_option linter.unusedVariables false

-- layer 19: a shard set that came in
theorem lm_open19 {W : World} {v : Value} (h : Lm9 W v) : ∃ (a : Option Addr) (n c : Nat) (ln : Nat → Nat) (S : Nat → Nat → Nat), v = .slice a n c ∧ Lb W (.slice a n c) n ln S ∧ 24 * n ≤ 140737488351232 ∧ ∀ i, i < n → ln i ≤ 140737488351232 := by
  obtain ⟨m, n, S, h1, h2, h3⟩ := h
  obtain ⟨V, ⟨hm, a, cap, e, h5⟩, hV⟩ := h1
  subst e
  exact ⟨a, m, cap, n, S, rfl, ⟨V, ⟨hm, a, cap, rfl, h5⟩, hV⟩, h2, h3⟩
end Go.Proofs.YthofhphlfgmklaaGreat
namespace Go.Proofs.YthofhphlfgmklaaGreat
open Go.ChangeShapes Go.WideShapes Go.ChangeAt Go.RowKit Go.Deep
set_option linter.unusedVariables false

-- layer 19: a case that came in
/-- a list of wrongs that came in: column, shard, mask. -/
def Qw19 (W : World) (v : Value) (n : Nat) (Co Sh : Nat → Int) (Mk : Nat → Nat) : Prop := n ≤ big ∧
  ∃ a cap, v = .slice a n cap ∧ n ≤ cap ∧ cap ≤ big ∧ (0 < n → ∃ b o, a = some ⟨b, o, none⟩ ∧ b < W.heap.size ∧ ∀ t, t < n → Mk t < 256 ∧ W.cell? ⟨b, o + t * 3, none⟩ = some (.int .i64 (Co t)) ∧ W.cell? ⟨b, o + t * 3 + 1, none⟩ = some (.int .i64 (Sh t)) ∧ W.cell? ⟨b, o + t * 3 + 2, none⟩ = some (.int .u8 (Mk t : Nat)))
theorem Qw19.below {W W' : World} {v : Value} {n : Nat} {Co Sh : Nat → Int} {Mk : Nat → Nat} (h : Qw19 W v n Co Sh Mk) (hb : Below W.heap.size W W') : Qw19 W' v n Co Sh Mk := by
  obtain ⟨h1, a, cap, rfl, h2, h3, h4⟩ := h
  refine ⟨h1, a, cap, rfl, h2, h3, fun h0 => ?_⟩
  obtain ⟨b, o, rfl, hl, hc⟩ := h4 h0
  refine ⟨b, o, rfl, Nat.lt_of_lt_of_le hl hb.size, fun t ht => ?_⟩
  obtain ⟨c1, c2, c3, c4⟩ := hc t ht
  exact ⟨c1, (hb.cell (p := ⟨b, o + t * 3, none⟩) hl).trans c2, (hb.cell (p := ⟨b, o + t * 3 + 1, none⟩) hl).trans c3, (hb.cell (p := ⟨b, o + t * 3 + 2, none⟩) hl).trans c4⟩
set_option maxRecDepth 100000 in
theorem open_wrongs19 {H : Type} {enc : TypeId × Value → H} {W : World} {base : Nat} {held : Bool} {fuel : Nat} {v : Value} {x : DataW H × List MemPlace}
    (h : DataW.trod enc Tryz.prog W base (fun _ => true) held fuel 24 [v] = some x) : ∃ a len cap Co Sh Mk, v = .slice a len cap ∧ Qw19 W (.slice a len cap) len Co Sh Mk := by
  rcases open_slice Tryz.underlying24 h with ⟨hcs, _⟩ | ⟨a', len, cap, m, n, D, Pl, hcs, hb, hl, hm, hmm, hxe, hx⟩
  · simp at hcs
    subst hcs
    exact ⟨none, 0, 0, fun _ => 0, fun _ => 0, fun _ => 0, rfl, by decide, none, 0, rfl, Nat.le_refl _, by decide, fun h => absurd h (Nat.lt_irrefl _)⟩
  · simp at hcs
    subst hcs
    have hlm : len ≤ m := by rw [hmm]; split <;> omega
    have c3 : Tryz.prog.cellsOf 3 = 1 := by kernel_rfl
    have c4 : Tryz.prog.cellsOf 5 = 1 := by kernel_rfl
    have c5 : Tryz.prog.cellsOf 33 = 3 := by kernel_rfl
    have each : ∀ t, t < len → ∃ (p q : Int) (r : Nat), r < 256 ∧ W.cell? ((a'.add (t * 3)).add 0) = some (.int .i64 p) ∧ W.cell? ((a'.add (t * 3)).add 1) = some (.int .i64 q) ∧ W.cell? ((a'.add (t * 3)).add 2) = some (.int .u8 (r : Nat)) := by
      intro t ht
      obtain ⟨cs', h1, h2⟩ := hx t (by omega)
      rw [c5] at h1
      obtain ⟨_, hlen, hcell⟩ := World.cells?_some h1
      obtain ⟨xs, k, hk, hxy, hlen2, hxl, hf⟩ := DataW.trod_struct Tryz.underlying33 h2
      obtain ⟨y0, y1, y2, hxs⟩ : ∃ y0 y1 y2, xs = [y0, y1, y2] := by
        match xs, hxl with
        | [y0, y1, y2], _ => exact ⟨_, _, _, rfl⟩
      obtain ⟨v0, v1, v2, hcs⟩ : ∃ v0 v1 v2, cs' = [v0, v1, v2] := by
        match cs', hlen with
        | [v0, v1, v2], _ => exact ⟨_, _, _, rfl⟩
      subst hxs hcs
      have g0 := hf 0 _ rfl
      have g1 := hf 1 _ rfl
      have g2 := hf 2 _ rfl
      simp [c3, c4] at g0 g1 g2
      obtain ⟨k0, e0, -, w0⟩ := DataW.trod_int Tryz.underlying3 g0
      obtain ⟨k1, e1, -, w1⟩ := DataW.trod_int Tryz.underlying3 g1
      obtain ⟨k2, e2, -, w2⟩ := DataW.trod_int Tryz.underlying5 g2
      simp at e0 e1 e2
      subst e0 e1 e2
      have b2 := bounds_u8 w2
      have t2 : ((k2.toNat : Nat) : Int) = k2 := by omega
      have z0 := hcell 0 (by omega)
      have z1 := hcell 1 (by omega)
      have z2 := hcell 2 (by omega)
      exact ⟨k0, k1, k2.toNat, by omega, by simpa using z0, by simpa using z1, by rw [t2]; simpa using z2⟩
    have hcap : cap ≤ big := by unfold big; unfold maxLen at hm; omega
    by_cases h0 : len = 0
    · subst h0
      exact ⟨_, _, _, fun _ => 0, fun _ => 0, fun _ => 0, rfl, by decide, _, _, rfl, hl, hcap, fun h => absurd h (Nat.lt_irrefl _)⟩
    · obtain ⟨b, off, spot⟩ := a'
      have hspot : spot = none := by
        obtain ⟨p, q, r, hr, z0, -⟩ := each 0 (by omega)
        simpa [Addr.add] using World.cell?_spot z0
      subst hspot
      have each' : ∀ t, ∃ x : Int × Int × Nat, t < len → x.2.2 < 256 ∧ W.cell? ⟨b, off + t * 3, none⟩ = some (.int .i64 x.1) ∧ W.cell? ⟨b, off + t * 3 + 1, none⟩ = some (.int .i64 x.2.1) ∧ W.cell? ⟨b, off + t * 3 + 2, none⟩ = some (.int .u8 (x.2.2 : Nat)) := by
        intro t
        by_cases ht : t < len
        · obtain ⟨p, q, r, hr, z0, z1, z2⟩ := each t ht
          simp only [add_plain, Nat.add_zero] at z0 z1 z2
          exact ⟨(p, q, r), fun _ => ⟨hr, z0, z1, z2⟩⟩
        · exact ⟨(0, 0, 0), fun h => absurd h ht⟩
      refine ⟨_, _, _, fun t => (each' t).choose.1, fun t => (each' t).choose.2.1, fun t => (each' t).choose.2.2, rfl, by omega, _, _, rfl, hl, hcap, fun _ => ⟨b, off, rfl, ?_, fun t ht => (each' t).choose_spec ht⟩⟩
      obtain ⟨_, _, _, -, z0, -⟩ := each 0 (by omega)
      simpa [Addr.add] using cell_lt5 z0
theorem six19 {cs : List Value} (h : cs.length = 6) : ∃ c0 c1 c2 c3 c4 c5, cs = [c0, c1, c2, c3, c4, c5] := by
  match cs, h with
  | [c0, c1, c2, c3, c4, c5], _ => exact ⟨_, _, _, _, _, _, rfl⟩
set_option maxRecDepth 100000 in
theorem open_case19 {H : Type} {enc : TypeId × Value → H} {W W' : World} {base base' : Nat} {held : Bool} {v : Value} {d : DataW H} {p : List MemPlace}
    (ho : Value.okWide Tryz.prog W' .any base' 26 v) (h : DataW.Trod enc Tryz.prog W base (fun _ => true) held 26 v d p) (hsz : ∀ n ∈ d.weights Tryz.prog 26, n ≤ reachBytes) :
    ∃ (f k m : Int) (aS aL aW : Option Addr) (nS cS nL cL nW cW : Nat) (sl : Nat → Nat) (Sd : Nat → Nat → Nat) (Lo : Nat → Int) (Co Sh : Nat → Int) (Mk : Nat → Nat), v = .agg #[.int .i64 f, .int .i64 k, .int .i64 m, .slice aS nS cS, .slice aL nL cL, .slice aW nW cW] ∧ Lb W (.slice aS nS cS) nS sl Sd ∧ Qi W (.slice aL nL cL) nL Lo ∧ Qw19 W (.slice aW nW cW) nW Co Sh Mk := by
  obtain ⟨cs, rfl, -⟩ := okWide_struct Tryz.underlying26 ho
  obtain ⟨fuel, hf⟩ := h
  have c6 : Tryz.prog.cellsOf 26 = 6 := by kernel_rfl
  have c3 : Tryz.prog.cellsOf 3 = 1 := by kernel_rfl
  have c7 : Tryz.prog.cellsOf 22 = 1 := by kernel_rfl
  have c8 : Tryz.prog.cellsOf 23 = 1 := by kernel_rfl
  have c9 : Tryz.prog.cellsOf 24 = 1 := by kernel_rfl
  obtain ⟨xs, k, hk, hxy, hlen, hxl, hf⟩ := DataW.trod_struct Tryz.underlying26 hf
  rw [c6] at hlen
  have hD : d = .agg (xs.map (·.1)) := congrArg Prod.fst hxy
  rw [hD] at hsz
  simp only [DataW.weights, Tryz.underlying26] at hsz
  obtain ⟨y0, y1, y2, y3, y4, y5, hxs⟩ : ∃ y0 y1 y2 y3 y4 y5, xs = [y0, y1, y2, y3, y4, y5] := by
    match xs, hxl with
    | [y0, y1, y2, y3, y4, y5], _ => exact ⟨_, _, _, _, _, _, rfl⟩
  obtain ⟨v0, v1, v2, v3, v4, v5, hcs⟩ := six19 hlen
  subst hxs
  rw [hcs] at hf
  have g0 := hf 0 _ rfl
  have g1 := hf 1 _ rfl
  have g2 := hf 2 _ rfl
  have g3 := hf 3 _ rfl
  have g4 := hf 4 _ rfl
  have g5 := hf 5 _ rfl
  simp [c3, c7, c8, c9] at g0 g1 g2 g3 g4 g5
  obtain ⟨k0, e0, -, w0⟩ := DataW.trod_int Tryz.underlying3 g0
  obtain ⟨k1, e1, -, w1⟩ := DataW.trod_int Tryz.underlying3 g1
  obtain ⟨k2, e2, -, w2⟩ := DataW.trod_int Tryz.underlying3 g2
  obtain ⟨a, n, c, ln, S, e3, hS, hn, -⟩ := lm_open19 (open_lists9 g3 (fun n hn => hsz n (DataW.weights_mem_each (j := 3) rfl rfl n hn)))
  obtain ⟨aL, nL, cL, Lo, e4, hL⟩ := open_ints10 g4
  obtain ⟨aW, nW, cW, Co, Sh, Mk, e5, hW⟩ := open_wrongs19 g5
  simp at e0 e1 e2
  subst e0 e1 e2 e3 e4 e5
  refine ⟨k0, k1, k2, a, aL, aW, n, c, nL, cL, nW, cW, ln, S, Lo, Co, Sh, Mk, ?_, hS, hL, hW⟩
  have e : cs = #[.int .i64 k0, .int .i64 k1, .int .i64 k2, .slice a n c, .slice aL nL cL, .slice aW nW cW] := by
    apply Array.toList_inj.1
    simpa [Value.cells] using hcs
  rw [e]
end Go.Proofs.YthofhphlfgmklaaGreat
namespace Go.Proofs.YthofhphlfgmklaaGreat
open Go.RowKit Gf2
set_option linter.unusedVariables false

-- layer 16: Length
/-- Length's error. -/
def lne (f k m n : Int) : Int := if prm f k m = 0 then (if n < 1 then 163 else if 1099511627776 < n then 5 else 0) else prm f k m
end Go.Proofs.YthofhphlfgmklaaGreat
namespace Go.Proofs.YthofhphlfgmklaaGreat
open Go.RowKit Gf2
set_option linter.unusedVariables false

-- layer 16: a list of lists that is made and filled from the front; pieces of lists
/-- the list lies in block g and has m places, the first k are filled. -/
structure Fl (w wr : World) (g m k : Nat) (n C B : Nat → Nat) (S : Nat → Nat → Nat) : Prop where
  bel : Below w.heap.size w wr
  lo : w.heap.size ≤ g
  list : wr.rowIs g 31 m (fun i => if i < k then .slice (some ⟨B i, 0, none⟩) (n i) (C i) else .slice none 0 0)
  rows : ∀ i, i < k → w.heap.size ≤ B i ∧ B i ≠ g ∧ n i ≤ C i ∧ Rw wr (B i) (C i) (S i)
  inj : ∀ i j, i < k → j < k → B i = B j → i = j
section
variable {w wr w' : World} {g m k : Nat} {n C B : Nat → Nat} {S : Nat → Nat → Nat}
theorem Fl.start (w : World) (m : Nat) (n C B : Nat → Nat) (S : Nat → Nat → Nat) : Fl w (w.alloc (.cells (madeCells #[.slice none 0 0] m) 31)) w.heap.size m 0 n C B S :=
  ⟨(Below.refl _ _).alloc (Nat.le_refl _) _, Nat.le_refl _, (World.rowIs_made w (.slice none 0 0) m 31).congr (fun i _ => (if_neg (Nat.not_lt_zero _)).symm), fun i hi => absurd hi (Nat.not_lt_zero _), fun i j hi => absurd hi (Nat.not_lt_zero _)⟩
theorem Fl.below (h : Fl w wr g m k n C B S) (hb : Below wr.heap.size wr w') : Fl w w' g m k n C B S :=
  ⟨h.bel.trans (hb.mono h.bel.size), h.lo, h.list.of_block (hb.block g h.list.lt), fun i hi => ⟨(h.rows i hi).1, (h.rows i hi).2.1, (h.rows i hi).2.2.1, rw_below (h.rows i hi).2.2.2 hb⟩, h.inj⟩
theorem Fl.drewN (h : Fl w wr g m k n C B S) (q : Nat) : Fl w (wr.drewN q) g m k n C B S := h.below (below_drewN (Below.refl _ _) q)
theorem Fl.cell (h : Fl w wr g m k n C B S) {i : Nat} (hi : i < k) (hk : k ≤ m) : wr.cell? ⟨g, i, none⟩ = some (.slice (some ⟨B i, 0, none⟩) (n i) (C i)) := by
  rw [h.list.cell (by omega), if_pos hi]
theorem Fl.bare (h : Fl w wr g m k n C B S) (hk : k < m) : wr.cell? ⟨g, k, none⟩ = some (.slice none 0 0) := by
  rw [h.list.cell hk, if_neg (Nat.lt_irrefl _)]
theorem Fl.froz (h : Fl w wr g m k n C B S) (i : Nat) : wr.frozen? ⟨g, i, none⟩ = false := h.list.frozen i
theorem Fl.next {wx : World} {b c l : Nat} {F : Nat → Nat} (h : Fl w wr g m k n C B S) (hk : k < m) (hb : Below wr.heap.size wr wx) (hb1 : wr.heap.size ≤ b) (hr : Rw wx b c F) (hl : l ≤ c) :
    Fl w (wx.setCell ⟨g, k, none⟩ (.slice (some ⟨b, 0, none⟩) l c)) g m (k + 1) (upn n k l) (upn C k c) (upn B k b) (upn S k F) := by
  have hx := h.below hb
  have gl := h.list.lt
  have ho : Only g wx (wx.setCell ⟨g, k, none⟩ (.slice (some ⟨b, 0, none⟩) l c)) := (Only.refl _ _).setCell _ _
  refine ⟨hx.bel.setCell h.lo _, h.lo, (hx.list.set k _).congr (fun i hi => ?_), fun i hi => ?_, fun i j hi hj hij => ?_⟩
  · by_cases e : i = k
    · subst e; rw [if_pos rfl, if_pos (Nat.lt_succ_self _), upn_same, upn_same, upn_same]
    · rw [if_neg e, upn_other _ _ e, upn_other _ _ e, upn_other _ _ e]
      by_cases e2 : i < k
      · rw [if_pos e2, if_pos (by omega)]
      · rw [if_neg e2, if_neg (by omega)]
  · by_cases e : i = k
    · subst e
      rw [upn_same, upn_same, upn_same, upn_same]
      exact ⟨Nat.le_trans h.bel.size hb1, by omega, hl, ho.rw_ hr (by omega)⟩
    · rw [upn_other _ _ e, upn_other _ _ e, upn_other _ _ e, upn_other _ _ e]
      obtain ⟨r1, r2, r3, r4⟩ := hx.rows i (by omega)
      exact ⟨r1, r2, r3, ho.rw_ r4 r2⟩
  · by_cases e1 : i = k
    · subst e1
      rw [upn_same] at hij
      by_cases e2 : j = i
      · exact e2.symm
      · rw [upn_other _ _ e2] at hij
        have := (h.rows j (by omega)).2.2.2.lt
        omega
    · rw [upn_other _ _ e1] at hij
      by_cases e2 : j = k
      · subst e2
        rw [upn_same] at hij
        have := (h.rows i (by omega)).2.2.2.lt
        omega
      · rw [upn_other _ _ e2] at hij
        exact h.inj i j (by omega) (by omega) hij
theorem Fl.turn {i : Nat} {F : Nat → Nat} (h : Fl w wr g m k n C B S) (hi : i < k) (ho : Kp (B i) wr w') (hr : Rw w' (B i) (C i) F) : Fl w w' g m k n C B (upn S i F) := by
  obtain ⟨r1, r2, r3, r4⟩ := h.rows i hi
  refine ⟨h.bel.trans (ho.below r1 h.bel.size), h.lo, h.list.of_block (ho.2 g h.list.lt (fun e => r2 e.symm)), fun j hj => ?_, h.inj⟩
  obtain ⟨q1, q2, q3, q4⟩ := h.rows j hj
  by_cases e : j = i
  · subst e; rw [upn_same]; exact ⟨q1, q2, q3, hr⟩
  · rw [upn_other _ _ e]
    exact ⟨q1, q2, q3, ho.rw_ q4 (fun e2 => e (h.inj j i hj hi e2))⟩
theorem Fl.congr {n' C' B' : Nat → Nat} {T : Nat → Nat → Nat} (h : Fl w wr g m k n C B S) (hn : ∀ i, i < k → n i = n' i) (hC : ∀ i, i < k → C i = C' i) (hB : ∀ i, i < k → B i = B' i) (hS : ∀ i, i < k → ∀ j, j < C i → S i j = T i j) : Fl w wr g m k n' C' B' T := by
  refine ⟨h.bel, h.lo, h.list.congr (fun i hi => ?_), fun i hi => ?_, fun i j hi hj e => h.inj i j hi hj (by rw [hB i hi, hB j hj]; exact e)⟩
  · by_cases e : i < k
    · rw [if_pos e, if_pos e, hn i e, hC i e, hB i e]
    · rw [if_neg e, if_neg e]
  · obtain ⟨r1, r2, r3, r4⟩ := h.rows i hi
    rw [← hn i hi, ← hC i hi, ← hB i hi]
    exact ⟨r1, r2, r3, r4.congr (hS i hi)⟩
theorem Fl.cs (h : Fl w wr g m m n C B S) (hm : m ≤ big) : Cs w.heap.size wr.heap.size wr (.slice (some ⟨g, 0, none⟩) m m) m n C B S := by
  refine ⟨hm, Nat.le_refl _, ⟨_, _, rfl, Nat.le_refl _, hm, fun h0 => ⟨g, rfl, h.lo, h.list.lt, fun i hi => (h.rows i hi).2.1, fun i hi => h.cell hi (Nat.le_refl _)⟩⟩, fun i hi => ?_, h.inj⟩
  obtain ⟨r1, r2, r3, r4⟩ := h.rows i hi
  exact ⟨r1, r4.lt, r3, r4⟩
end
end Go.Proofs.YthofhphlfgmklaaGreat
namespace Go.Proofs.YthofhphlfgmklaaGreat
open Go.ChangeShapes Go.WideShapes Go.ChangeAt Go.RowKit Go.Deep
set_option linter.unusedVariables false

-- layer 16: what came in, opened
theorem balloc16 (w : World) (o : Obj) : Below w.heap.size w (w.alloc o) := (Below.refl _ _).alloc (Nat.le_refl _) _
theorem bthen16 {w a b : World} (h : Below w.heap.size w a) (k : Below a.heap.size a b) : Below w.heap.size w b := h.trans (k.mono h.size)
end Go.Proofs.YthofhphlfgmklaaGreat
namespace Go.Proofs.YthofhphlfgmklaaGreat
open Go.RowKit Gf2
set_option linter.unusedVariables false

-- layer 16: lengths of lists: plain mathematics, and lists read by their lengths
/-- the one length of what is not empty among the first k, behind s; none: two unlike ones. -/
def scf (s : Option Nat) (n : Nat → Nat) : Nat → Option Nat
  | 0 => s
  | k + 1 => match scf s n k with
    | none => none
    | some l => if n k = 0 then some l else if l ≠ 0 ∧ n k ≠ l then none else some (n k)
theorem scf_zero {s : Option Nat} {n : Nat → Nat} {k l : Nat} (h : scf s n k = some l) (h0 : n k = 0) : scf s n (k + 1) = some l := by
  rw [scf, h]; simp only; rw [if_pos h0]
theorem scf_bad {s : Option Nat} {n : Nat → Nat} {k l : Nat} (h : scf s n k = some l) (h0 : n k ≠ 0) (h1 : l ≠ 0) (h2 : n k ≠ l) : scf s n (k + 1) = none := by
  rw [scf, h]; simp only; rw [if_neg h0, if_pos ⟨h1, h2⟩]
theorem scf_good {s : Option Nat} {n : Nat → Nat} {k l : Nat} (h : scf s n k = some l) (h0 : n k ≠ 0) (h1 : l = 0 ∨ n k = l) : scf s n (k + 1) = some (n k) := by
  rw [scf, h]; simp only; rw [if_neg h0, if_neg (by omega)]
theorem scf_none {s : Option Nat} {n : Nat → Nat} {a b : Nat} (h : scf s n a = none) (hab : a ≤ b) : scf s n b = none := by
  induction b with
  | zero => obtain rfl : a = 0 := by omega
            exact h
  | succ b ih =>
    by_cases e : a = b + 1
    · rw [← e]; exact h
    · rw [scf, ih (by omega)]
theorem scf_from_none (n : Nat → Nat) (k : Nat) : scf none n k = none := scf_none (a := 0) rfl (Nat.zero_le _)
/-- the length over several lists. -/
def sco (cs : Nat → Nat) (ns : Nat → Nat → Nat) : Nat → Option Nat
  | 0 => some 0
  | t + 1 => scf (sco cs ns t) (ns t) (cs t)
theorem sco_none {cs : Nat → Nat} {ns : Nat → Nat → Nat} {a b : Nat} (h : sco cs ns a = none) (hab : a ≤ b) : sco cs ns b = none := by
  induction b with
  | zero => obtain rfl : a = 0 := by omega
            exact h
  | succ b ih =>
    by_cases e : a = b + 1
    · rw [← e]; exact h
    · rw [sco, ih (by omega)]; exact scf_from_none _ _
/-- what oneLength answers. -/
def ole (f : Int) : Option Nat → Int
  | none => 162
  | some l => if f = 2 ∧ l % 2 = 1 then 8 else 0
def olv (f : Int) : Option Nat → Int
  | none => 0
  | some l => if f = 2 ∧ l % 2 = 1 then 0 else (l : Int)

theorem ole_odd {f : Int} {l : Nat} (h : f = 2 ∧ l % 2 = 1) : ole f (some l) = 8 := if_pos h
theorem ole_even {f : Int} {l : Nat} (h : ¬ (f = 2 ∧ l % 2 = 1)) : ole f (some l) = 0 := if_neg h
theorem olv_even {f : Int} {l : Nat} (h : ¬ (f = 2 ∧ l % 2 = 1)) : olv f (some l) = (l : Int) := if_neg h
/-- a list of c lists, the i-th of the length n i. -/
def Ln (w : World) (v : Value) (c : Nat) (n : Nat → Nat) : Prop := c ≤ 281474976710656 ∧ (∀ i, i < c → n i ≤ big) ∧ ∃ a cap, v = .slice a c cap ∧ c ≤ cap ∧ cap ≤ big ∧ (0 < c → ∃ b o, a = some ⟨b, o, none⟩ ∧ b < w.heap.size ∧ ∀ i, i < c → ∃ x y, w.cell? ⟨b, o + i, none⟩ = some (.slice x (n i) y))
theorem Ln.below {w w' : World} {v : Value} {c : Nat} {n : Nat → Nat} (h : Ln w v c n) (hb : Below w.heap.size w w') : Ln w' v c n := by
  obtain ⟨h1, h2, a, cap, h3, h4, h5, h6⟩ := h
  refine ⟨h1, h2, a, cap, h3, h4, h5, fun h0 => ?_⟩
  obtain ⟨b, o, e, hl, hc⟩ := h6 h0
  refine ⟨b, o, e, Nat.lt_of_lt_of_le hl hb.size, fun i hi => ?_⟩
  obtain ⟨x, y, z⟩ := hc i hi
  exact ⟨x, y, (hb.cell (p := ⟨b, o + i, none⟩) hl).trans z⟩
theorem Ll.ln {E : Nat → Prop} {w : World} {v : Value} {c : Nat} {n : Nat → Nat} {S : Nat → Nat → Nat} (h : Ll E w v c n S) (hc : c ≤ 281474976710656) : Ln w v c n := by
  obtain ⟨V, ⟨h1, a, cap, h3, h5, h6, h4⟩, hV⟩ := h
  refine ⟨hc, fun i hi => (hV i hi).1, a, cap, h3, h5, h6, fun h0 => ?_⟩
  obtain ⟨b, o, e, hl, hc⟩ := h4 h0
  refine ⟨b, o, e, hl.1, fun i hi => ?_⟩
  obtain ⟨-, -, x, y, e2, -⟩ := hV i hi
  exact ⟨x, y, by rw [hc i hi, e2]⟩
theorem Ln.congr {w : World} {v : Value} {c : Nat} {n n' : Nat → Nat} (h : Ln w v c n) (e : ∀ i, i < c → n i = n' i) : Ln w v c n' := by
  obtain ⟨h1, h2, a, cap, h3, h4, h5, h6⟩ := h
  refine ⟨h1, fun i hi => by rw [← e i hi]; exact h2 i hi, a, cap, h3, h4, h5, fun h0 => ?_⟩
  obtain ⟨b, o, e1, hl, hc⟩ := h6 h0
  exact ⟨b, o, e1, hl, fun i hi => by rw [← e i hi]; exact hc i hi⟩
theorem Ln.form {w : World} {v : Value} {c : Nat} {n : Nat → Nat} (h : Ln w v c n) : ∃ a cap, v = .slice a c cap := by
  obtain ⟨h1, h2, a, cap, h3, h4, h5, h6⟩ := h
  exact ⟨a, cap, h3⟩
/-- the first k of them. -/
theorem Ln.head {w : World} {x : Option Addr} {c cx k : Nat} {n : Nat → Nat} (h : Ln w (.slice x c cx) c n) (hk : k ≤ c) : Ln w (.slice x k cx) k n := by
  obtain ⟨h1, h2, a, cap, h3, h4, h5, h6⟩ := h
  cases h3
  refine ⟨by omega, fun i hi => h2 i (by omega), x, cx, rfl, by omega, h5, fun h0 => ?_⟩
  obtain ⟨b, o, e1, hl, hc⟩ := h6 (by omega)
  exact ⟨b, o, e1, hl, fun i hi => hc i (by omega)⟩
/-- the numbers below k that P holds of. -/
def ems (P : Nat → Bool) (k : Nat) : List Nat := (List.range k).filter P
theorem ems_yes {P : Nat → Bool} {k : Nat} (h : P k = true) : ems P (k + 1) = ems P k ++ [k] := by unfold ems; rw [List.range_succ, List.filter_append]; simp [h]
theorem ems_no {P : Nat → Bool} {k : Nat} (h : P k = false) : ems P (k + 1) = ems P k := by unfold ems; rw [List.range_succ, List.filter_append]; simp [h]
theorem ems_le (P : Nat → Bool) (k : Nat) : (ems P k).length ≤ k := by unfold ems; exact Nat.le_trans (List.length_filter_le _ _) (by simp)
theorem ems_len_yes {P : Nat → Bool} {k : Nat} (h : P k = true) : (ems P (k + 1)).length = (ems P k).length + 1 := by rw [ems_yes h]; simp
/-- as a list of ints. -/
def emz (P : Nat → Bool) (k i : Nat) : Int := ((ems P k).getD i 0 : Nat)
theorem emz_step {P : Nat → Bool} {k : Nat} (h : P k = true) : ∀ i, i < (ems P (k + 1)).length → (if i < (ems P k).length then emz P k i else (k : Int)) = emz P (k + 1) i := by
  intro i hi
  rw [ems_len_yes h] at hi
  unfold emz
  rw [ems_yes h, List.getD_eq_getElem?_getD, List.getD_eq_getElem?_getD]
  by_cases e : i < (ems P k).length
  · rw [if_pos e, List.getElem?_append_left e]
  · rw [if_neg e, List.getElem?_append_right (by omega)]
    obtain rfl : i = (ems P k).length := by omega
    simp
theorem ems_full {P : Nat → Bool} {k : Nat} : (ems P k).length = k ↔ ∀ i, i < k → P i = true := by
  have hr : (List.range k).length = k := by simp
  unfold ems
  constructor
  · intro h i hi
    have := (List.length_filter_eq_length_iff (p := P) (l := List.range k)).1 (by rw [h, hr])
    exact this i (List.mem_range.2 hi)
  · intro h
    rw [(List.length_filter_eq_length_iff (p := P) (l := List.range k)).2 (fun a ha => h a (List.mem_range.1 ha)), hr]
end Go.Proofs.YthofhphlfgmklaaGreat
namespace Go.Proofs.YthofhphlfgmklaaGreat
open Go.RowKit Gf2
set_option linter.unusedVariables false

-- layer 16: isEmpty, isFull, anyEmpty, longest, unlike
set_option maxHeartbeats 2000000 in
set_option maxRecDepth 100000 in
theorem isEmpty16 (x : Option Addr) (n y : Nat) (w : World) :
    Calls Tryz.prog 57 #[.slice x n y] w fun e w' => e = .returned (.bool (n == 0)) ∧ w' = w := by
  by_cases h : n = 0
  · subst h
    go_enter Tryz.func57, Tryz.ntmps57
    go_wp2
    go_ret
    exact ⟨rfl, rfl⟩
  · have e : (n == 0) = false := by simpa using h
    have e2 : (((n : Nat) : Int) == 0) = false := by simpa using h
    rw [e]
    go_enter Tryz.func57, Tryz.ntmps57
    go_wp2
    go_ret
    exact ⟨rfl, rfl⟩
end Go.Proofs.YthofhphlfgmklaaGreat
namespace Go.Proofs.YthofhphlfgmklaaGreat
open Go.RowKit Gf2
set_option linter.unusedVariables false

-- layer 16: oneLength
set_option maxHeartbeats 4000000 in
set_option maxRecDepth 100000 in
theorem oneLength16 (f : Int) (g q : Nat) (V : Nat → Value) (cs : Nat → Nat) (ns : Nat → Nat → Nat) (w : World) (hq : q ≤ 2)
    (hV : ∀ t, t < q → w.cell? ⟨g, t, none⟩ = some (V t) ∧ Ln w (V t) (cs t) (ns t)) :
    Calls Tryz.prog 58 #[.int .i64 f, .slice (some ⟨g, 0, none⟩) q q] w fun e w' => e = .returned (.tuple #[.int .i64 (olv f (sco cs ns q)), .int .i64 (ole f (sco cs ns q))]) ∧ w' = w := by
  obtain ⟨zv, hzv⟩ : ∃ z, z = olv f (sco cs ns q) := ⟨_, rfl⟩
  obtain ⟨ze, hze⟩ : ∃ z, z = ole f (sco cs ns q) := ⟨_, rfl⟩
  rw [← hzv, ← hze]
  have HZ : Hid (zv = olv f (sco cs ns q) ∧ ze = ole f (sco cs ns q)) := ⟨hzv, hze⟩
  have HV : Hid (∀ t, t < q → w.cell? ⟨g, t, none⟩ = some (V t) ∧ Ln w (V t) (cs t) (ns t)) := hV
  have HQ : Hid (q ≤ 2) := hq
  clear hzv hze hV hq
  go_enter Tryz.func58, Tryz.ntmps58
  go_wp2
  go_loopw [6, 13] (fun s i wr => ∃ t l : Nat, t ≤ q ∧ i = .int .i64 t ∧ s = .int .i64 (l : Nat) ∧ sco cs ns t = some l ∧ wr = w) (fun _ i _ => q - (intOf i).toNat)
  case atStart => exact ⟨0, 0, Nat.zero_le _, rfl, rfl, rfl, rfl⟩
  case round =>
    obtain ⟨t, l, ht, rfl, rfl, hs, rfl⟩ := hrel
    by_cases hlt : t < q
    · obtain ⟨p1, hL⟩ := HV.out t hlt
      obtain ⟨h1, h2, a, cap, hv, h4, h5, h6⟩ := hL
      rw [hv] at p1
      have it : ((t : Nat) : Int) < (q : Int) := by omega
      have WT := wrap_succ8 (j := t) (by have := HQ.out; unfold big; omega)
      have HT : Hid (t < q ∧ sco cs ns t = some l ∧ cs t ≤ 281474976710656) := ⟨hlt, hs, h1⟩
      obtain ⟨c, hc⟩ : ∃ c, c = cs t := ⟨_, rfl⟩
      obtain ⟨n, hn⟩ : ∃ n, n = ns t := ⟨_, rfl⟩
      rw [← hc] at p1 h6
      rw [← hn] at h6
      have HC : Hid (c = cs t ∧ n = ns t) := ⟨hc, hn⟩
      clear hv h1 h2 h4 h5 hs ht hlt hc hn
      go_wp2
      go_loopw [6, 19] (fun s i w2 => ∃ k x : Nat, k ≤ c ∧ i = .int .i64 k ∧ s = .int .i64 (x : Nat) ∧ scf (some l) n k = some x ∧ w2 = wr) (fun _ i _ => c - (intOf i).toNat)
      case atStart => exact ⟨0, l, Nat.zero_le _, rfl, rfl, rfl, rfl⟩
      case round =>
        obtain ⟨k, x, hk, rfl, rfl, hs, rfl⟩ := hrel
        by_cases hlt : k < c
        · obtain ⟨b, o, rfl, -, hcc⟩ := h6 (by omega)
          obtain ⟨y1, y2, q1⟩ := hcc k hlt
          have ib : ((k : Nat) : Int) < (c : Int) := by omega
          have W1 := wrap_succ8 (j := k) (by have := HT.out.2.2; have := HC.out.1; unfold big; omega)
          have c1 := fun w => isEmpty16 y1 (n k) y2 w
          by_cases hn : n k = 0
          · have HS : Hid (scf (some l) n (k + 1) = some x) := scf_zero hs hn
            have e1 : (n k == 0) = true := by simpa using hn
            rw [e1] at c1
            rw [hn] at q1 c1
            clear hcc h6 hn e1 hs
            go_wp2_with (go_at_call 57; ((with_reducible refine (c1 _).mono ?_); (rintro e w9 ⟨rfl, hw9⟩; have hw9 := hw9.symm; subst hw9)))
            go_roundw
            case rel => exact ⟨k + 1, x, hlt, by first | rfl | (rw [W1]; rfl), rfl, HS.out, by trivial⟩
            case measure => first | exact meas_lt8 hlt | (rw [W1]; exact meas_lt8 hlt)
          · have e1 : (n k == 0) = false := by simpa using hn
            rw [e1] at c1
            by_cases hl : x = 0
            · have HS : Hid (scf (some l) n (k + 1) = some (n k)) := scf_good hs hn (.inl hl)
              subst hl
              obtain ⟨nk, hnk⟩ : ∃ nk, nk = n k := ⟨_, rfl⟩
              rw [← hnk] at q1 c1
              have HK : Hid (nk = n k) := hnk
              clear hcc h6 hn e1 hs hnk
              go_wp2_with (go_at_call 57; ((with_reducible refine (c1 _).mono ?_); (rintro e w9 ⟨rfl, hw9⟩; have hw9 := hw9.symm; subst hw9)))
              go_roundw
              case rel => exact ⟨k + 1, nk, hlt, by first | rfl | (rw [W1]; rfl), rfl, by rw [HK.out]; exact HS.out, by trivial⟩
              case measure => first | exact meas_lt8 hlt | (rw [W1]; exact meas_lt8 hlt)
            · have e3 : (((x : Nat) : Int) != 0) = true := by simpa using hl
              by_cases he : n k = x
              · have HS : Hid (scf (some l) n (k + 1) = some x) := by have := scf_good hs hn (.inr he); rw [he] at this; exact this
                rw [he] at q1 c1
                clear hcc h6 hn e1 hs he hl
                go_wp2_with (go_at_call 57; ((with_reducible refine (c1 _).mono ?_); (rintro e w9 ⟨rfl, hw9⟩; have hw9 := hw9.symm; subst hw9)))
                go_roundw
                case rel => exact ⟨k + 1, x, hlt, by first | rfl | (rw [W1]; rfl), rfl, HS.out, by trivial⟩
                case measure => first | exact meas_lt8 hlt | (rw [W1]; exact meas_lt8 hlt)
              · have hbad : sco cs ns q = none := by
                  refine sco_none (a := t + 1) ?_ HT.out.1
                  rw [sco, HT.out.2.1, ← HC.out.1, ← HC.out.2]
                  exact scf_none (scf_bad hs hn hl he) hlt
                have hz1 : zv = 0 := by rw [HZ.out.1, hbad]; rfl
                have hz2 : ze = 162 := by rw [HZ.out.2, hbad]; rfl
                subst hz1 hz2
                generalize n k = nk at q1 c1 he
                clear hcc h6 hn e1 hs hl hbad
                go_wp2_with (go_at_call 57; ((with_reducible refine (c1 _).mono ?_); (rintro e w9 ⟨rfl, hw9⟩; have hw9 := hw9.symm; subst hw9)))
                go_ret2
                exact ⟨rfl, rfl⟩
        · have htl : ¬ ((k : Nat) : Int) < (c : Int) := fun e => hlt (Int.ofNat_lt.1 e)
          obtain rfl : k = c := by omega
          have HS : Hid (sco cs ns (t + 1) = some x) := by
            show _ = _
            rw [sco, HT.out.2.1, ← HC.out.1, ← HC.out.2]; exact hs
          clear h6 hs
          go_wp2
          go_roundw
          case rel => exact ⟨t + 1, x, HT.out.1, by first | rfl | (rw [WT]; rfl), rfl, HS.out, by trivial⟩
          case measure => first | exact meas_lt8 HT.out.1 | (rw [WT]; exact meas_lt8 HT.out.1)
    · have htl : ¬ ((t : Nat) : Int) < (q : Int) := fun e => hlt (Int.ofNat_lt.1 e)
      obtain rfl : t = q := by omega
      obtain ⟨z1, z2⟩ := HZ.out
      rw [hs] at z1 z2
      have T3 : (l : Int).tmod 2 = ((l % 2 : Nat) : Int) := (Int.ofNat_tmod _ _).symm
      by_cases h2 : f = 2
      · subst h2
        by_cases ho : l % 2 = 1
        · have hz1 : zv = 0 := by rw [z1, olv, if_pos ⟨rfl, ho⟩]
          have hz2 : ze = 8 := by rw [z2, ole, if_pos ⟨rfl, ho⟩]
          subst hz1 hz2
          have T4 : (l : Int) % 2 = 1 := by omega
          rw [ho] at T3
          clear z1 z2 hs ho HV HQ HZ
          go_wp2
          go_ret2
          exact ⟨rfl, rfl⟩
        · have hz1 : zv = (l : Int) := by rw [z1, olv, if_neg (fun h => ho h.2)]
          have hz2 : ze = 0 := by rw [z2, ole, if_neg (fun h => ho h.2)]
          have T4 : (l : Int) % 2 = 0 := by omega
          rw [show l % 2 = 0 by omega] at T3
          subst hz1 hz2
          clear z1 z2 hs ho HV HQ HZ
          go_wp2
          go_ret2
          exact ⟨rfl, rfl⟩
      · have hz1 : zv = (l : Int) := by rw [z1, olv, if_neg (fun h => h2 h.1)]
        have hz2 : ze = 0 := by rw [z2, ole, if_neg (fun h => h2 h.1)]
        have E2 : (f == 2) = false := by simpa using h2
        subst hz1 hz2
        clear z1 z2 hs HV HQ HZ T3
        go_wp2
        go_ret2
        exact ⟨rfl, rfl⟩
end Go.Proofs.YthofhphlfgmklaaGreat
namespace Go.Proofs.YthofhphlfgmklaaGreat
open Go.RowKit Gf2
set_option linter.unusedVariables false

-- layer 16: numbers, empties (laid by wip/genyhu.py)
set_option maxHeartbeats 4000000 in
set_option maxRecDepth 100000 in
theorem numbers16e (v : Value) (c : Nat) (n : Nat → Nat) (w : World) (h : Ln w v c n) (hcb : c ≤ 1099511627776) :
    Calls Tryz.prog 56 #[v, .func (.func 57) #[] #[]] w fun e w' => ∃ u, e = .returned u ∧ Gi w w' u (ems (fun i => n i == 0) c).length (emz (fun i => n i == 0) c) := by
  have HL : Hid (Ln w v c n) := h
  obtain ⟨a, cap, rfl⟩ := h.form
  have HN : Hid (c ≤ 1099511627776) := hcb
  clear hcb h
  go_enter Tryz.func56, Tryz.ntmps56
  go_wp2
  go_loopw [5, 10] (fun s i wr => ∃ k : Nat, k ≤ c ∧ i = .int .i64 k ∧ Gi w wr s (ems (fun i => n i == 0) k).length (emz (fun i => n i == 0) k)) (fun _ i _ => c - (intOf i).toNat)
  case atStart => exact ⟨0, Nat.zero_le _, rfl, Gi.start _ _⟩
  case round =>
    obtain ⟨k, hk, rfl, hG⟩ := hrel
    obtain ⟨sa, sC, rfl⟩ := hG.form
    by_cases hlt : k < c
    · obtain ⟨-, -, a', cap', e', -, -, h6⟩ := HL.out.below hG.1
      cases e'
      obtain ⟨b, o, rfl, -, hc⟩ := h6 (by omega)
      obtain ⟨x, y, q1⟩ := hc k hlt
      have ib : ((k : Nat) : Int) < (c : Int) := by omega
      have W1 := wrap_succ8 (j := k) (by have := HN.out; unfold big; omega)
      have hle := ems_le (fun i => n i == 0) k
      have c1 := fun w => isEmpty16 x (n k) y w
      cases hP : (fun i => n i == 0) k
      · have e1 : (n k == 0) = false := by simpa using hP
        rw [e1] at c1
        have HG : Hid (Gi w wr (.slice sa (ems (fun i => n i == 0) (k + 1)).length sC) (ems (fun i => n i == 0) (k + 1)).length (emz (fun i => n i == 0) (k + 1))) := by
          show Gi _ _ _ _ _
          have := ems_no (P := fun i => n i == 0) (k := k) hP
          unfold emz at hG ⊢
          rw [this]; exact hG
        have HQ : Hid ((ems (fun i => n i == 0) (k + 1)).length = (ems (fun i => n i == 0) k).length) := by show _ = _; rw [ems_no (P := fun i => n i == 0) (k := k) hP]
        generalize n k = nk at q1 c1
        clear hG hc h6 hP hle
        go_wp2_with (go_at_call 57; (with_reducible refine (c1 _).mono ?_); rintro e w9 ⟨rfl, hw9⟩; have hw9 := hw9.symm; subst hw9)
        go_roundw
        case rel => exact ⟨k + 1, hlt, by first | rfl | (rw [W1]; rfl), by rw [← HQ.out]; exact HG.out⟩
        case measure => first | exact meas_lt8 hlt | (rw [W1]; exact meas_lt8 hlt)
      · have e1 : (n k == 0) = true := by simpa using hP
        rw [e1] at c1
        obtain ⟨w5, v5, hrun, hG5⟩ := app_gi hG (k : Int) (by have := HN.out; omega)
        have HG : Hid (Gi w w5 v5 (ems (fun i => n i == 0) (k + 1)).length (emz (fun i => n i == 0) (k + 1))) := by
          show Gi _ _ _ _ _
          rw [ems_len_yes (P := fun i => n i == 0) (k := k) hP]
          exact hG5.congr (fun i hi => emz_step (P := fun i => n i == 0) (k := k) hP i (by rw [ems_len_yes (P := fun i => n i == 0) (k := k) hP]; exact hi))
        generalize n k = nk at q1 c1
        clear hG hc h6 hG5 hP hle
        go_wp2_with (first | (go_at_call 57; (with_reducible refine (c1 _).mono ?_); rintro e w9 ⟨rfl, hw9⟩; have hw9 := hw9.symm; subst hw9) | (at_builtin; refine Lib.wpList_append_run _ rfl _ _ _ _ rfl _ _ rfl rfl _ _ hrun ?_))
        go_roundw
        case rel => exact ⟨k + 1, hlt, by first | rfl | (rw [W1]; rfl), HG.out⟩
        case measure => first | exact meas_lt8 hlt | (rw [W1]; exact meas_lt8 hlt)
    · have htl : ¬ ((k : Nat) : Int) < (c : Int) := fun e => hlt (Int.ofNat_lt.1 e)
      obtain rfl : k = c := by omega
      clear HL
      go_wp2
      go_ret
      exact ⟨_, rfl, hG⟩
end Go.Proofs.YthofhphlfgmklaaGreat
