import Derived.Test.YtlblkckglelbdaaGreatMwal
import Derived.Test.YtlblkckglelbdaaGreatMwai
namespace Go.Proofs.YtlblkckglelbdaaGreat
open Go.ChangeShapes Go.WideShapes Go.ChangeAt Go.RowKit Go.Deep
set_option linter.unusedVariables false

/-- integers that came in. -/
theorem open_ints10 {H : Type} {enc : TypeId × Value → H} {W : World} {base : Nat} {held : Bool} {fuel : Nat} {v : Value} {x : DataW H × List MemPlace}
    (h : DataW.trod enc Tryz.prog W base (fun _ => true) held fuel 23 [v] = some x) : ∃ a len cap F, v = .slice a len cap ∧ Qi W (.slice a len cap) len F := by
  rcases open_slice Tryz.underlying23 h with ⟨hcs, _⟩ | ⟨a', len, cap, m, n, D, Pl, hcs, hb, hl, hm, hmm, hxe, hx⟩
  · simp at hcs
    subst hcs
    exact ⟨none, 0, 0, fun _ => 0, rfl, by decide, trivial, none, 0, rfl, Nat.le_refl _, by decide, fun h => absurd h (Nat.lt_irrefl _)⟩
  · simp at hcs
    subst hcs
    have hlm : len ≤ m := by rw [hmm]; split <;> omega
    have c3 : Tryz.prog.cellsOf 3 = 1 := by kernel_rfl
    have each : ∀ i, i < len → ∃ k : Int, W.cell? ((a'.add i).add 0) = some (.int .i64 k) := by
      intro i hi
      obtain ⟨cs', h1, h2⟩ := hx i (by omega)
      rw [c3] at h1
      obtain ⟨_, hlen, hcell⟩ := World.cells?_some h1
      match cs', hlen with
      | [v0], _ =>
        obtain ⟨k0, e0, -, w0⟩ := DataW.trod_int Tryz.underlying3 h2
        simp at e0
        subst e0
        have z0 := hcell 0 (by omega)
        exact ⟨k0, by simpa using z0⟩
    have hcap : cap ≤ big := by unfold big; unfold maxLen at hm; omega
    have hbig : len ≤ big := by omega
    by_cases h0 : len = 0
    · subst h0
      exact ⟨_, _, _, fun _ => 0, rfl, hbig, trivial, _, _, rfl, hl, hcap, fun h => absurd h (Nat.lt_irrefl _)⟩
    · obtain ⟨b, off, spot⟩ := a'
      have hspot : spot = none := by
        obtain ⟨v, z0⟩ := each 0 (by omega)
        simpa [Addr.add] using World.cell?_spot z0
      subst hspot
      have each' : ∀ i, i < len → ∃ k : Int, W.cell? ⟨b, off + i, none⟩ = some (.int .i64 k) := by
        intro i hi
        obtain ⟨v, z⟩ := each i hi
        simp only [add_plain, Nat.add_zero] at z
        exact ⟨v, z⟩
      refine ⟨_, _, _, fun i => if h : i < len then (each' i h).choose else 0, rfl, hbig, trivial, _, _, rfl, hl, hcap, fun _ => ⟨b, off, rfl, ?_, fun i hi => ?_⟩⟩
      · obtain ⟨v, z0⟩ := each' 0 (by omega)
        exact cell_lt5 z0
      · simp only [dif_pos hi]
        exact (each' i hi).choose_spec
end Go.Proofs.YtlblkckglelbdaaGreat
namespace Go.Proofs.YtlblkckglelbdaaGreat
open Go.ChangeShapes Go.WideShapes Go.ChangeAt Go.RowKit Go.Deep
set_option linter.unusedVariables false

/-- bytes that came in. -/
def Bm9 (W : World) (v : Value) : Prop := ∃ n S, Rb W v n S ∧ n ≤ 140737488351232
/-- lists of bytes that came in. -/
def Lm9 (W : World) (v : Value) : Prop := ∃ m n S, Lb W v m n S ∧ 24 * m ≤ 140737488351232 ∧ ∀ i, i < m → n i ≤ 140737488351232
theorem Bm9.below {W W' : World} {v : Value} (h : Bm9 W v) (hb : Below W.heap.size W W') : Bm9 W' v := by
  obtain ⟨n, S, h1, h2⟩ := h
  exact ⟨n, S, h1.below hb, h2⟩
theorem Lm9.below {W W' : World} {v : Value} (h : Lm9 W v) (hb : Below W.heap.size W W') : Lm9 W' v := by
  obtain ⟨m, n, S, h1, h2⟩ := h
  exact ⟨m, n, S, Lb.below h1 hb, h2⟩

theorem weightsAll_mem9 {H : Type} {P : Program} {e : TypeId} {d : DataW H} {n : Nat} (hn : n ∈ d.weights P e) : ∀ {l : List (DataW H)}, d ∈ l → n ∈ DataW.weightsAll P e l
  | d0 :: l, h => by
    rw [DataW.weightsAll, List.mem_append]
    rcases List.mem_cons.1 h with rfl | h
    · exact .inl hn
    · exact .inr (weightsAll_mem9 hn h)
theorem open_bytes9 {H : Type} {enc : TypeId × Value → H} {W : World} {base : Nat} {held : Bool} {fuel : Nat} {v : Value} {x : DataW H × List MemPlace}
    (h : DataW.trod enc Tryz.prog W base (fun _ => true) held fuel 27 [v] = some x) (hsz : ∀ n ∈ x.1.weights Tryz.prog 27, n ≤ reachBytes) : Bm9 W v := by
  obtain ⟨a, len, cap, rfl⟩ : ∃ a len cap, v = .slice a len cap := by
    rcases open_slice Tryz.underlying27 h with ⟨hcs, _⟩ | ⟨a', len', cap', m, n, D, Pl, hcs, _⟩
    · simp at hcs; exact ⟨_, _, _, hcs⟩
    · simp at hcs; exact ⟨_, _, _, hcs⟩
  have := open_bytes5 h (fun el sp he => by
    refine hsz _ ?_
    rw [he]
    simp [DataW.weights, Tryz.underlying27])
  obtain ⟨h1, F, h2⟩ := this
  exact ⟨len, F, h2, h1⟩
theorem bytes_l9 : Tryz.prog.bytesOf 27 = 24 := by kernel_rfl
theorem open_lists9 {H : Type} {enc : TypeId × Value → H} {W : World} {base : Nat} {held : Bool} {fuel : Nat} {v : Value} {x : DataW H × List MemPlace}
    (h : DataW.trod enc Tryz.prog W base (fun _ => true) held fuel 22 [v] = some x) (hsz : ∀ n ∈ x.1.weights Tryz.prog 22, n ≤ reachBytes) : Lm9 W v := by
  have hsz2 : ∀ elems spare, x.1 = .slice elems spare → (elems.length + spare.length) * Tryz.prog.bytesOf 27 ≤ reachBytes := fun el sp he => by
    refine hsz _ ?_
    rw [he]
    simp [DataW.weights, Tryz.underlying22]
  rcases open_slice Tryz.underlying22 h with ⟨hcs, _⟩ | ⟨a', len, cap, m, n, D, Pl, hcs, hb, hl, hm, hmm, hxe, hx⟩
  · simp at hcs
    subst hcs
    exact ⟨0, fun _ => 0, fun _ _ => 0, ⟨fun _ => .slice none 0 0, ⟨by unfold big; omega, none, 0, rfl, by omega, by unfold big; omega, fun h => absurd h (Nat.lt_irrefl _)⟩, fun i hi => absurd hi (Nat.not_lt_zero _)⟩, by omega, fun i hi => absurd hi (Nat.not_lt_zero _)⟩
  · simp at hcs
    subst hcs
    have hm' : cap * 24 ≤ 140737488351232 := by
      have := hsz2 _ _ (by rw [hxe])
      rw [bytes_l9] at this
      simp only [List.length_map, List.length_range, reachBytes] at this
      simp at hmm
      omega
    have hlm : len ≤ m := by rw [hmm]; split <;> omega
    have c1 : Tryz.prog.cellsOf 27 = 1 := by kernel_rfl
    have each : ∀ i, i < len → ∃ u, W.cell? ((a'.add i).add 0) = some u ∧ Bm9 W u := by
      intro i hi
      obtain ⟨cs', h1, h2⟩ := hx i (by omega)
      rw [c1] at h1
      obtain ⟨_, hlen, hcell⟩ := World.cells?_some h1
      match cs', hlen with
      | [v0], _ =>
        have z0 := hcell 0 (by omega)
        refine ⟨v0, by simpa using z0, open_bytes9 h2 (fun n hn => hsz n ?_)⟩
        have mD : D i ∈ (List.range len).map D := List.mem_map.2 ⟨i, List.mem_range.2 hi, rfl⟩
        rw [hxe]
        simp only [DataW.weights, Tryz.underlying22]
        exact List.mem_cons_of_mem _ (List.mem_append.2 (.inl (weightsAll_mem9 hn mD)))
    by_cases h0 : len = 0
    · subst h0
      exact ⟨0, fun _ => 0, fun _ _ => 0, ⟨fun _ => .slice none 0 0, ⟨by unfold big; omega, _, _, rfl, by omega, by unfold big; omega, fun h => absurd h (Nat.lt_irrefl _)⟩, fun i hi => absurd hi (Nat.not_lt_zero _)⟩, by omega, fun i hi => absurd hi (Nat.not_lt_zero _)⟩
    · obtain ⟨b, off, spot⟩ := a'
      have hspot : spot = none := by
        obtain ⟨v, z0, -⟩ := each 0 (by omega)
        simpa [Addr.add] using World.cell?_spot z0
      subst hspot
      have each' : ∀ i : Nat, ∃ u n S, i < len → W.cell? ⟨b, off + i, none⟩ = some u ∧ Rb W u n S ∧ n ≤ 140737488351232 := by
        intro i
        by_cases hi : i < len
        · obtain ⟨u, z, n, S, h1, h2⟩ := each i hi
          simp only [add_plain, Nat.add_zero] at z
          exact ⟨u, n, S, fun _ => ⟨z, h1, h2⟩⟩
        · exact ⟨.slice none 0 0, 0, fun _ => 0, fun h => absurd h hi⟩
      obtain ⟨U, hU⟩ := Classical.skolem.1 each'
      obtain ⟨N, hN⟩ := Classical.skolem.1 hU
      obtain ⟨S, hS⟩ := Classical.skolem.1 hN
      refine ⟨len, N, S, ⟨U, ⟨by unfold big; omega, _, _, rfl, hl, by unfold big; omega, fun _ => ⟨b, off, rfl, ⟨?_, fun e => e⟩, fun i hi => (hS i hi).1⟩⟩, fun i hi => (hS i hi).2.1.re (fun _ _ e => e)⟩, by omega, fun i hi => (hS i hi).2.2⟩
      exact cell_lt5 (hS 0 (by omega)).1

end Go.Proofs.YtlblkckglelbdaaGreat
namespace Go.Proofs.YtlblkckglelbdaaGreat
open Go.RowKit Gf2
set_option linter.unusedVariables false

-- layer 16: the numbers
/-- the least power of two that is n or more (n 1 or more). -/
def p2 (n : Nat) : Nat := 2 ^ Nat.log2 (2 * n - 1)
theorem p2_lo {n : Nat} (h : 1 ≤ n) : n ≤ p2 n := by
  have := Nat.lt_log2_self (n := 2 * n - 1)
  unfold p2
  rw [Nat.pow_succ] at this
  omega
theorem p2_only {n j : Nat} (h : 1 ≤ n) (h1 : n ≤ 2 ^ j) (h2 : 2 ^ j < 2 * n) : 2 ^ j = p2 n := by
  unfold p2
  congr 1
  exact ((Nat.log2_eq_iff (by omega)).2 ⟨by omega, by rw [Nat.pow_succ]; omega⟩).symm
/-- what Pow2 answers. -/
def p2z (m : Int) : Int := if m < 1 ∨ 65536 < m then 0 else (p2 m.toNat : Int)
def p2e (m : Int) : Int := if m < 1 ∨ 65536 < m then 7 else 0
/-- what room answers. -/
def rm16 (d p q : Int) : Int := if d < 1 ∨ p < 1 ∨ q - d < p then 4 else 0
/-- what Params answers. -/
def prm (f k m : Int) : Int := if f = 0 ∨ f = 1 then rm16 k m 256 else if f = 2 then rm16 k (p2z m) 65536 else 2
/-- valid parameters. -/
structure Pv (f k m : Int) : Prop where
  fam : f = 0 ∨ f = 1 ∨ f = 2
  hk : 1 ≤ k
  hm : 1 ≤ m
  sum : k + m ≤ 65536
  small : f ≠ 2 → k + m ≤ 256
  long : f = 2 → k + (p2 m.toNat : Int) ≤ 65536
theorem prm_ok {f k m : Int} : prm f k m = 0 ↔ Pv f k m := by
  unfold prm rm16 p2z
  constructor
  · intro h
    by_cases h1 : f = 0 ∨ f = 1
    · rw [if_pos h1] at h
      split at h
      · cases h
      · exact ⟨by omega, by omega, by omega, by omega, fun _ => by omega, fun _ => by omega⟩
    · rw [if_neg h1] at h
      by_cases h2 : f = 2
      · rw [if_pos h2] at h
        by_cases h3 : m < 1 ∨ 65536 < m
        · rw [if_pos h3, if_pos (by omega)] at h; cases h
        · rw [if_neg h3] at h
          split at h
          · cases h
          · have := p2_lo (n := m.toNat) (by omega)
            exact ⟨by omega, by omega, by omega, by omega, fun _ => by omega, fun _ => by omega⟩
      · rw [if_neg h2] at h; cases h
  · intro h
    obtain ⟨h1, h2, h3, h4, h5, h6⟩ := h
    by_cases e : f = 2
    · have := h6 e
      have hl := p2_lo (n := m.toNat) (by omega)
      have e9 : ¬ (m < 1 ∨ 65536 < m) := by omega
      rw [if_neg (by omega), if_pos e, if_neg e9, if_neg (by omega)]
    · have := h5 e
      rw [if_pos (by omega), if_neg (by omega)]
end Go.Proofs.YtlblkckglelbdaaGreat
namespace Go.Proofs.YtlblkckglelbdaaGreat
open Go.RowKit Gf2
set_option linter.unusedVariables false

-- layer 16: contracts of the numbers (laid by wip/genyhb.py)
theorem pow_meas {p n : Nat} (h : p < n) (h1 : 1 ≤ p) : (2 * n - (2 * p : Nat)) < 2 * n - p := by omega

set_option maxHeartbeats 2000000 in
set_option maxRecDepth 100000 in
theorem pow16p_no (n : Int) (w : World) (h : n < 1 ∨ 65536 < n) :
    Calls Tryz.prog 81 #[.int .i64 n] w fun e w' => e = .returned (.tuple #[.int .i64 0, .int .i64 7]) ∧ w' = w := by
  by_cases h1 : n < 1
  · have D1 : decide (n < 1) = true := by simpa using h1
    clear h h1
    go_enter Tryz.func81, Tryz.ntmps81
    go_wp2
    go_ret2
    exact ⟨rfl, rfl⟩
  · have D1 : decide (n < 1) = false := by simpa using h1
    have D2 : decide (65536 < n) = true := by simp; omega
    clear h h1
    go_enter Tryz.func81, Tryz.ntmps81
    go_wp2
    go_ret2
    exact ⟨rfl, rfl⟩
set_option maxHeartbeats 2000000 in
set_option maxRecDepth 100000 in
theorem pow16p_yes (n : Nat) (w : World) (h1 : 1 ≤ n) (h2 : n ≤ 65536) :
    Calls Tryz.prog 81 #[.int .i64 (n : Int)] w fun e w' => e = .returned (.tuple #[.int .i64 (p2 n : Nat), .int .i64 0]) ∧ w' = w := by
  have D1 : decide ((n : Int) < 1) = false := by simp; omega
  have D2 : decide ((65536 : Int) < (n : Int)) = false := by simp; omega
  have HN : Hid (1 ≤ n ∧ n ≤ 65536) := ⟨h1, h2⟩
  obtain ⟨z, hz⟩ : ∃ z, z = p2 n := ⟨_, rfl⟩
  rw [← hz]
  have HZ : Hid (z = p2 n) := hz
  clear h1 h2 hz
  go_enter Tryz.func81, Tryz.ntmps81
  go_wp2
  go_loopw [4] (fun p wr => ∃ j q : Nat, q = 2 ^ j ∧ p = .int .i64 (q : Nat) ∧ q < 2 * n ∧ wr = w) (fun p _ => 2 * n - (intOf p).toNat)
  case atStart => exact ⟨0, 1, rfl, rfl, by have := HN.out; omega, rfl⟩
  case round =>
    obtain ⟨j, p, hp, rfl, hn, rfl⟩ := hrel
    have h0 : 1 ≤ p := by rw [hp]; exact Nat.one_le_two_pow
    by_cases hlt : p < n
    · have W1 : wrap64 ((p : Int) * 2) = ((2 * p : Nat) : Int) := by have := HN.out; unfold wrap64; omega
      have HX : Hid (p = 2 ^ j ∧ p < n ∧ 1 ≤ p) := ⟨hp, hlt, h0⟩
      clear hp hn h0
      go_wp2
      go_roundw
      case rel => exact ⟨j + 1, 2 * p, by rw [HX.out.1, Nat.pow_succ, Nat.mul_comm], by first | rfl | (rw [W1]), by have := HX.out.2.1; omega, by first | rfl | trivial⟩
      case measure => first | exact pow_meas HX.out.2.1 HX.out.2.2 | (rw [W1]; exact pow_meas HX.out.2.1 HX.out.2.2)
    · have e := p2_only HN.out.1 (by rw [← hp]; omega) (by rw [← hp]; exact hn)
      rw [← hp] at e
      have hz : z = p := HZ.out.trans e.symm
      subst hz
      clear hp hn h0 e
      go_wp2
      go_ret2
      exact ⟨rfl, rfl⟩
theorem pow16p (n : Int) (w : World) :
    Calls Tryz.prog 81 #[.int .i64 n] w fun e w' => e = .returned (.tuple #[.int .i64 (p2z n), .int .i64 (p2e n)]) ∧ w' = w := by
  unfold p2z p2e
  by_cases h : n < 1 ∨ 65536 < n
  · rw [if_pos h, if_pos h]; exact pow16p_no n w h
  · rw [if_neg h, if_neg h]
    obtain ⟨k, rfl⟩ := Int.eq_ofNat_of_zero_le (show 0 ≤ n by omega)
    exact pow16p_yes k w (by omega) (by omega)

set_option maxHeartbeats 2000000 in
set_option maxRecDepth 100000 in
theorem room16 (d p q : Int) (w : World) (hd : d ≤ 9223372036854775807) (hq0 : 0 ≤ q) (hq : q ≤ 65536) :
    Calls Tryz.prog 80 #[.int .i64 d, .int .i64 p, .int .i64 q] w fun e w' => e = .returned (.int .i64 (rm16 d p q)) ∧ w' = w := by
  obtain ⟨z, hz⟩ : ∃ z, z = rm16 d p q := ⟨_, rfl⟩
  rw [← hz]
  have HZ : Hid (z = rm16 d p q) := hz
  clear hz
  have E : ∀ b : Bool, (decide (d < 1 ∨ p < 1 ∨ q - d < p) = b) → Hid (z = if b then 4 else 0) := fun b hb => by
    show z = _
    rw [HZ.out, ← hb]
    unfold rm16
    by_cases h : d < 1 ∨ p < 1 ∨ q - d < p
    · rw [if_pos h]; simp [h]
    · rw [if_neg h]; simp [h]
  by_cases h1 : d < 1
  · have D1 : decide (d < 1) = true := by simpa using h1
    have hz := (E true (by simp [h1])).out
    rw [if_pos rfl] at hz
    subst hz
    clear E HZ h1 hd hq hq0
    go_enter Tryz.func80, Tryz.ntmps80
    go_wp2
    go_ret
    exact ⟨rfl, rfl⟩
  · have D1 : decide (d < 1) = false := by simpa using h1
    by_cases h2 : p < 1
    · have D2 : decide (p < 1) = true := by simpa using h2
      have hz := (E true (by simp [h2])).out
      rw [if_pos rfl] at hz
      subst hz
      clear E HZ h1 h2 hd hq hq0
      go_enter Tryz.func80, Tryz.ntmps80
      go_wp2
      go_ret
      exact ⟨rfl, rfl⟩
    · have D2 : decide (p < 1) = false := by simpa using h2
      have W1 : wrap64 (q - d) = q - d := by unfold wrap64; omega
      by_cases h3 : q - d < p
      · have D3 : decide (q - d < p) = true := by simpa using h3
        have hz := (E true (by simp [h3])).out
        rw [if_pos rfl] at hz
        subst hz
        clear E HZ h1 h2 h3 hd hq hq0
        go_enter Tryz.func80, Tryz.ntmps80
        go_wp2
        go_ret
        exact ⟨rfl, rfl⟩
      · have D3 : decide (q - d < p) = false := by simpa using h3
        have hz := (E false (by simp; omega)).out
        simp at hz
        subst hz
        clear E HZ h1 h2 h3 hd hq hq0
        go_enter Tryz.func80, Tryz.ntmps80
        go_wp2
        go_ret
        exact ⟨rfl, rfl⟩
/-- an int's range. -/
def I64 (k : Int) : Prop := -9223372036854775808 ≤ k ∧ k ≤ 9223372036854775807
set_option maxHeartbeats 2000000 in
set_option maxRecDepth 100000 in
theorem params16 (f k m : Int) (w : World) (hk : I64 k) :
    Calls Tryz.prog 48 #[.int .i64 f, .int .i64 k, .int .i64 m] w fun e w' => e = .returned (.int .i64 (prm f k m)) ∧ w' = w := by
  have c1 := fun x => room16 k m 256 x hk.2 (by decide) (by decide)
  have c2 := fun x => pow16p m x
  have c3 := fun x => room16 k (p2z m) 65536 x hk.2 (by decide) (by decide)
  clear hk
  unfold prm
  by_cases h0 : f = 0
  · subst h0
    rw [if_pos (.inl rfl)]
    generalize rm16 k m 256 = z at c1
    clear c2 c3
    go_enter Tryz.func48, Tryz.ntmps48
    go_wp2_with (go_at_call 80; ((with_reducible refine (c1 _).mono ?_); rintro e w' ⟨rfl, rfl⟩))
    go_ret
    exact ⟨rfl, rfl⟩
  by_cases h1 : f = 1
  · subst h1
    rw [if_pos (.inr rfl)]
    generalize rm16 k m 256 = z at c1
    clear c2 c3 h0
    go_enter Tryz.func48, Tryz.ntmps48
    go_wp2_with (go_at_call 80; ((with_reducible refine (c1 _).mono ?_); rintro e w' ⟨rfl, rfl⟩))
    go_ret
    exact ⟨rfl, rfl⟩
  rw [if_neg (by omega)]
  by_cases h2 : f = 2
  · subst h2
    rw [if_pos rfl]
    generalize rm16 k (p2z m) 65536 = z at c3
    generalize p2z m = p at c2 c3
    generalize p2e m = pe at c2
    clear c1 h0 h1
    go_enter Tryz.func48, Tryz.ntmps48
    go_wp2_with (first | (go_at_call 81; ((with_reducible refine (c2 _).mono ?_); rintro e w' ⟨rfl, rfl⟩)) | (go_at_call 80; ((with_reducible refine (c3 _).mono ?_); rintro e w' ⟨rfl, rfl⟩)))
    go_ret
    exact ⟨rfl, rfl⟩
  · rw [if_neg h2]
    have D0 : (f == 0) = false := by simpa using h0
    have D1 : (f == 1) = false := by simpa using h1
    have D2 : (f == 2) = false := by simpa using h2
    clear c1 c2 c3
    go_enter Tryz.func48, Tryz.ntmps48
    go_wp2
    go_ret
    exact ⟨rfl, rfl⟩
end Go.Proofs.YtlblkckglelbdaaGreat
namespace Go.Proofs.YtlblkckglelbdaaGreat
open Go.ChangeShapes Go.WideShapes Go.ChangeAt Go.RowKit Go.Deep
set_option linter.unusedVariables false

-- layer 19: a shard set that came in
theorem lm_open19 {W : World} {v : Value} (h : Lm9 W v) : ∃ (a : Option Addr) (n c : Nat) (ln : Nat → Nat) (S : Nat → Nat → Nat), v = .slice a n c ∧ Lb W (.slice a n c) n ln S ∧ 24 * n ≤ 140737488351232 ∧ ∀ i, i < n → ln i ≤ 140737488351232 := by
  obtain ⟨m, n, S, h1, h2, h3⟩ := h
  obtain ⟨V, ⟨hm, a, cap, e, h5⟩, hV⟩ := h1
  subst e
  exact ⟨a, m, cap, n, S, rfl, ⟨V, ⟨hm, a, cap, rfl, h5⟩, hV⟩, h2, h3⟩
end Go.Proofs.YtlblkckglelbdaaGreat
namespace Go.Proofs.YtlblkckglelbdaaGreat
open Go.ChangeShapes Go.WideShapes Go.ChangeAt Go.RowKit Go.Deep
set_option linter.unusedVariables false

-- layer 19: a case that came in
/-- a list of wrongs that came in: column, shard, mask. -/
def Qw19 (W : World) (v : Value) (n : Nat) (Co Sh : Nat → Int) (Mk : Nat → Nat) : Prop := n ≤ big ∧
  ∃ a cap, v = .slice a n cap ∧ n ≤ cap ∧ cap ≤ big ∧ (0 < n → ∃ b o, a = some ⟨b, o, none⟩ ∧ b < W.heap.size ∧ ∀ t, t < n → Mk t < 256 ∧ W.cell? ⟨b, o + t * 3, none⟩ = some (.int .i64 (Co t)) ∧ W.cell? ⟨b, o + t * 3 + 1, none⟩ = some (.int .i64 (Sh t)) ∧ W.cell? ⟨b, o + t * 3 + 2, none⟩ = some (.int .u8 (Mk t : Nat)))
theorem Qw19.below {W W' : World} {v : Value} {n : Nat} {Co Sh : Nat → Int} {Mk : Nat → Nat} (h : Qw19 W v n Co Sh Mk) (hb : Below W.heap.size W W') : Qw19 W' v n Co Sh Mk := by
  obtain ⟨h1, a, cap, rfl, h2, h3, h4⟩ := h
  refine ⟨h1, a, cap, rfl, h2, h3, fun h0 => ?_⟩
  obtain ⟨b, o, rfl, hl, hc⟩ := h4 h0
  refine ⟨b, o, rfl, Nat.lt_of_lt_of_le hl hb.size, fun t ht => ?_⟩
  obtain ⟨c1, c2, c3, c4⟩ := hc t ht
  exact ⟨c1, (hb.cell (p := ⟨b, o + t * 3, none⟩) hl).trans c2, (hb.cell (p := ⟨b, o + t * 3 + 1, none⟩) hl).trans c3, (hb.cell (p := ⟨b, o + t * 3 + 2, none⟩) hl).trans c4⟩
end Go.Proofs.YtlblkckglelbdaaGreat
namespace Go.Proofs.YtlblkckglelbdaaGreat
open Go.ChangeShapes Go.WideShapes Go.ChangeAt Go.RowKit Go.Deep
set_option linter.unusedVariables false

-- WholeMends: its argument that came in
set_option maxRecDepth 100000 in
theorem open_hits_t {H : Type} {enc : TypeId × Value → H} {W : World} {base : Nat} {held : Bool} {fuel : Nat} {v : Value} {x : DataW H × List MemPlace}
    (h : DataW.trod enc Tryz.prog W base (fun _ => true) held fuel 24 [v] = some x) : ∃ a len cap Co Sh Mk, v = .slice a len cap ∧ Qw19 W (.slice a len cap) len Co Sh Mk := by
  rcases open_slice Tryz.underlying24 h with ⟨hcs, _⟩ | ⟨a', len, cap, m, n, D, Pl, hcs, hb, hl, hm, hmm, hxe, hx⟩
  · simp at hcs
    subst hcs
    exact ⟨none, 0, 0, fun _ => 0, fun _ => 0, fun _ => 0, rfl, by decide, none, 0, rfl, Nat.le_refl _, by decide, fun h => absurd h (Nat.lt_irrefl _)⟩
  · simp at hcs
    subst hcs
    have hlm : len ≤ m := by rw [hmm]; split <;> omega
    have c3 : Tryz.prog.cellsOf 3 = 1 := by kernel_rfl
    have c4 : Tryz.prog.cellsOf 5 = 1 := by kernel_rfl
    have c5 : Tryz.prog.cellsOf 40 = 3 := by kernel_rfl
    have each : ∀ t, t < len → ∃ (p q : Int) (r : Nat), r < 256 ∧ W.cell? ((a'.add (t * 3)).add 0) = some (.int .i64 p) ∧ W.cell? ((a'.add (t * 3)).add 1) = some (.int .i64 q) ∧ W.cell? ((a'.add (t * 3)).add 2) = some (.int .u8 (r : Nat)) := by
      intro t ht
      obtain ⟨cs', h1, h2⟩ := hx t (by omega)
      rw [c5] at h1
      obtain ⟨_, hlen, hcell⟩ := World.cells?_some h1
      obtain ⟨xs, k, hk, hxy, hlen2, hxl, hf⟩ := DataW.trod_struct Tryz.underlying40 h2
      obtain ⟨y0, y1, y2, hxs⟩ : ∃ y0 y1 y2, xs = [y0, y1, y2] := by
        match xs, hxl with
        | [y0, y1, y2], _ => exact ⟨_, _, _, rfl⟩
      obtain ⟨v0, v1, v2, hcs⟩ : ∃ v0 v1 v2, cs' = [v0, v1, v2] := by
        match cs', hlen with
        | [v0, v1, v2], _ => exact ⟨_, _, _, rfl⟩
      subst hxs hcs
      have g0 := hf 0 _ rfl
      have g1 := hf 1 _ rfl
      have g2 := hf 2 _ rfl
      simp [c3, c4] at g0 g1 g2
      obtain ⟨k0, e0, -, w0⟩ := DataW.trod_int Tryz.underlying3 g0
      obtain ⟨k1, e1, -, w1⟩ := DataW.trod_int Tryz.underlying3 g1
      obtain ⟨k2, e2, -, w2⟩ := DataW.trod_int Tryz.underlying5 g2
      simp at e0 e1 e2
      subst e0 e1 e2
      have b2 := bounds_u8 w2
      have t2 : ((k2.toNat : Nat) : Int) = k2 := by omega
      have z0 := hcell 0 (by omega)
      have z1 := hcell 1 (by omega)
      have z2 := hcell 2 (by omega)
      exact ⟨k0, k1, k2.toNat, by omega, by simpa using z0, by simpa using z1, by rw [t2]; simpa using z2⟩
    have hcap : cap ≤ big := by unfold big; unfold maxLen at hm; omega
    by_cases h0 : len = 0
    · subst h0
      exact ⟨_, _, _, fun _ => 0, fun _ => 0, fun _ => 0, rfl, by decide, _, _, rfl, hl, hcap, fun h => absurd h (Nat.lt_irrefl _)⟩
    · obtain ⟨b, off, spot⟩ := a'
      have hspot : spot = none := by
        obtain ⟨p, q, r, hr, z0, -⟩ := each 0 (by omega)
        simpa [Addr.add] using World.cell?_spot z0
      subst hspot
      have each' : ∀ t, ∃ x : Int × Int × Nat, t < len → x.2.2 < 256 ∧ W.cell? ⟨b, off + t * 3, none⟩ = some (.int .i64 x.1) ∧ W.cell? ⟨b, off + t * 3 + 1, none⟩ = some (.int .i64 x.2.1) ∧ W.cell? ⟨b, off + t * 3 + 2, none⟩ = some (.int .u8 (x.2.2 : Nat)) := by
        intro t
        by_cases ht : t < len
        · obtain ⟨p, q, r, hr, z0, z1, z2⟩ := each t ht
          simp only [add_plain, Nat.add_zero] at z0 z1 z2
          exact ⟨(p, q, r), fun _ => ⟨hr, z0, z1, z2⟩⟩
        · exact ⟨(0, 0, 0), fun h => absurd h ht⟩
      refine ⟨_, _, _, fun t => (each' t).choose.1, fun t => (each' t).choose.2.1, fun t => (each' t).choose.2.2, rfl, by omega, _, _, rfl, hl, hcap, fun _ => ⟨b, off, rfl, ?_, fun t ht => (each' t).choose_spec ht⟩⟩
      obtain ⟨_, _, _, -, z0, -⟩ := each 0 (by omega)
      simpa [Addr.add] using cell_lt5 z0
theorem five_t {cs : List Value} (h : cs.length = 5) : ∃ c0 c1 c2 c3 c4, cs = [c0, c1, c2, c3, c4] := by
  match cs, h with
  | [c0, c1, c2, c3, c4], _ => exact ⟨_, _, _, _, _, rfl⟩
set_option maxRecDepth 100000 in
theorem open_marred_t {H : Type} {enc : TypeId × Value → H} {W W' : World} {base base' : Nat} {held : Bool} {v : Value} {d : DataW H} {p : List MemPlace}
    (ho : Value.okWide Tryz.prog W' .any base' 26 v) (h : DataW.Trod enc Tryz.prog W base (fun _ => true) held 26 v d p) (hsz : ∀ n ∈ d.weights Tryz.prog 26, n ≤ reachBytes) :
    ∃ (f m : Int) (aS aL aW : Option Addr) (nS cS nL cL nW cW : Nat) (sl : Nat → Nat) (Sd : Nat → Nat → Nat) (Lo : Nat → Int) (Co Sh : Nat → Int) (Mk : Nat → Nat), v = .agg #[.int .i64 f, .int .i64 m, .slice aS nS cS, .slice aL nL cL, .slice aW nW cW] ∧ (∀ i, i < nS → sl i ≤ 140737488351232) ∧ 24 * nS ≤ 140737488351232 ∧ Lb W (.slice aS nS cS) nS sl Sd ∧ Qi W (.slice aL nL cL) nL Lo ∧ Qw19 W (.slice aW nW cW) nW Co Sh Mk := by
  obtain ⟨cs, rfl, -⟩ := okWide_struct Tryz.underlying26 ho
  obtain ⟨fuel, hf⟩ := h
  have c6 : Tryz.prog.cellsOf 26 = 5 := by kernel_rfl
  have c3 : Tryz.prog.cellsOf 3 = 1 := by kernel_rfl
  have c7 : Tryz.prog.cellsOf 22 = 1 := by kernel_rfl
  have c8 : Tryz.prog.cellsOf 23 = 1 := by kernel_rfl
  have c9 : Tryz.prog.cellsOf 24 = 1 := by kernel_rfl
  obtain ⟨xs, k, hk, hxy, hlen, hxl, hf⟩ := DataW.trod_struct Tryz.underlying26 hf
  rw [c6] at hlen
  have hD : d = .agg (xs.map (·.1)) := congrArg Prod.fst hxy
  rw [hD] at hsz
  simp only [DataW.weights, Tryz.underlying26] at hsz
  obtain ⟨y0, y1, y2, y3, y4, hxs⟩ : ∃ y0 y1 y2 y3 y4, xs = [y0, y1, y2, y3, y4] := by
    match xs, hxl with
    | [y0, y1, y2, y3, y4], _ => exact ⟨_, _, _, _, _, rfl⟩
  obtain ⟨v0, v1, v2, v3, v4, hcs⟩ := five_t hlen
  subst hxs
  rw [hcs] at hf
  have g0 := hf 0 _ rfl
  have g1 := hf 1 _ rfl
  have g2 := hf 2 _ rfl
  have g3 := hf 3 _ rfl
  have g4 := hf 4 _ rfl
  simp [c3, c7, c8, c9] at g0 g1 g2 g3 g4
  obtain ⟨k0, e0, -, w0⟩ := DataW.trod_int Tryz.underlying3 g0
  obtain ⟨k1, e1, -, w1⟩ := DataW.trod_int Tryz.underlying3 g1
  obtain ⟨a, n, c, ln, S, e3, hS, hn, hl9⟩ := lm_open19 (open_lists9 g2 (fun n hn => hsz n (DataW.weights_mem_each (j := 2) rfl rfl n hn)))
  obtain ⟨aL, nL, cL, Lo, e4, hL⟩ := open_ints10 g3
  obtain ⟨aW, nW, cW, Co, Sh, Mk, e5, hW⟩ := open_hits_t g4
  simp at e0 e1
  subst e0 e1 e3 e4 e5
  refine ⟨k0, k1, a, aL, aW, n, c, nL, cL, nW, cW, ln, S, Lo, Co, Sh, Mk, ?_, hl9, hn, hS, hL, hW⟩
  have e : cs = #[.int .i64 k0, .int .i64 k1, .slice a n c, .slice aL nL cL, .slice aW nW cW] := by
    apply Array.toList_inj.1
    simpa [Value.cells] using hcs
  rw [e]
end Go.Proofs.YtlblkckglelbdaaGreat
