import Derived.Test.YtfhgamaakkoplaaMvau
import Derived.Test.YtfhgamaakkoplaaMvaw
import Derived.BigQuiet
import Derived.Test.YtfhgamaakkoplaaMvae
namespace Go.Proofs.Ytfhgamaakkoplaa
open Go.RowKit Gf2
set_option linter.unusedVariables false

theorem ti_fv (a : Nat) : ti a = fv a := by unfold ti fv; rfl
theorem Tab8.kp {w w' : World} {t g : Nat} (h : Tab8 w t) (hk : Kp g w w') (hne : t ≠ g) : Tab8 w' t := h.of_heap (hk.2 t h.lt hne)
/-- one place more. -/
theorem pl_more {F S : Nat → Nat} {o k : Nat} (i : Nat) : (if i = o + k then S k else pl F o k S i) = pl F o (k + 1) S i := by
  unfold pl
  by_cases e : i = o + k
  · rw [if_pos e, if_pos (by omega), show i - o = k by omega]
  · rw [if_neg e]
    by_cases e2 : o ≤ i ∧ i < o + k
    · rw [if_pos e2, if_pos (by omega)]
    · rw [if_neg e2, if_neg (by omega)]

end Go.Proofs.Ytfhgamaakkoplaa
namespace Go.Proofs.Ytfhgamaakkoplaa
open Go.RowKit Gf2
set_option linter.unusedVariables false

/-- the first x cells from column c on scaled in row p. -/
def scp (S : Nat → Nat → Nat) (p c x : Nat) : Nat → Nat → Nat := fun i j => if i = p ∧ c ≤ j ∧ j < c + x then fm 285 (fv (S p c)) (S p j) else S i j
theorem scp_zero (S : Nat → Nat → Nat) (p c i j : Nat) : S i j = scp S p c 0 i j := by unfold scp; rw [if_neg (by omega)]
theorem scp_step (S : Nat → Nat → Nat) (p c x i j : Nat) : st2 (scp S p c x) p (c + x) (fm 285 (fv (S p c)) (S p (c + x))) i j = scp S p c (x + 1) i j := by
  unfold st2 scp
  by_cases e : i = p ∧ j = c + x
  · rw [if_pos e, if_pos (by omega), e.2]
  · rw [if_neg e]
    by_cases e2 : i = p ∧ c ≤ j ∧ j < c + x
    · rw [if_pos e2, if_pos (by omega)]
    · rw [if_neg e2, if_neg (by omega)]
/-- the rows below r cleared. -/
def clp (M : Nat → Nat → Nat) (p c r : Nat) : Nat → Nat → Nat := fun i j => if i < r ∧ i ≠ p ∧ c ≤ j then M i j ^^^ fm 285 (M i c) (M p j) else M i j
theorem clp_zero (S : Nat → Nat → Nat) (p c i j : Nat) : S i j = clp S p c 0 i j := by unfold clp; rw [if_neg (by omega)]
theorem clp_skip (M : Nat → Nat → Nat) (p c i j : Nat) : clp M p c p i j = clp M p c (p + 1) i j := by
  unfold clp
  by_cases e : i < p ∧ i ≠ p ∧ c ≤ j
  · rw [if_pos e, if_pos (by omega)]
  · rw [if_neg e, if_neg (by omega)]
theorem clp_step (M : Nat → Nat → Nat) {p c r k : Nat} (hrp : r ≠ p) (hc : c < k) (i j : Nat) (hj : j < k) : upn (clp M p c r) r (pl (clp M p c r r) c (k - c) (fun x => clp M p c r r (c + x) ^^^ fm 285 (clp M p c r r c) (clp M p c r p (c + x)))) i j = clp M p c (r + 1) i j := by
  by_cases e : i = r
  · subst e
    rw [upn_same]
    unfold pl
    by_cases h : c ≤ j
    · rw [if_pos (by omega)]
      show clp M p c i i (c + (j - c)) ^^^ fm 285 (clp M p c i i c) (clp M p c i p (c + (j - c))) = _
      rw [show c + (j - c) = j by omega]
      unfold clp
      rw [if_neg (by omega), if_neg (by omega), if_neg (by omega), if_pos (by omega)]
    · rw [if_neg (by omega)]
      unfold clp
      rw [if_neg (by omega), if_neg (by omega)]
  · rw [upn_other _ _ e]
    unfold clp
    by_cases h : i < r ∧ i ≠ p ∧ c ≤ j
    · rw [if_pos h, if_pos (by omega)]
    · rw [if_neg h, if_neg (by omega)]
/-- the rows' own blocks. -/
abbrev EB (m : Nat) (B : Nat → Nat) : Nat → Prop := fun x => ∃ r, r < m ∧ x = B r
theorem Ke.setB {m : Nat} {B : Nat → Nat} {w w' : World} (h : Ke (EB m B) w w') {p : Nat} (hp : p < m) (j : Nat) (x : Value) : Ke (EB m B) w (w'.setCell ⟨B p, j, none⟩ x) :=
  h.trans ((((Only.refl (B p) w').setCell j x).kp.ke).mono (fun y _ e => ⟨p, hp, e⟩))
end Go.Proofs.Ytfhgamaakkoplaa
namespace Go.Proofs.Ytfhgamaakkoplaa
open Go.RowKit Gf2
set_option linter.unusedVariables false

theorem wrap_lt8 {j b : Nat} (h : j < b) (hb : b ≤ 1000) : wrap64 ((j : Int) + 1) = (j : Int) + 1 := wrap_succ8 (by unfold big; omega)
/-- copy of n bytes into a row. -/
theorem copy10 {w : World} {g o N dl n cap cx : Nat} {F S : Nat → Nat} {x : Option Addr} (hr : Rw w g N F) (hx : Rb w (.slice x n cx) n S) (hd : o + dl ≤ N) (hn : n ≤ dl) :
    ∃ w', (Builtin.copy_ #[25, 25] 3 #[.slice (some ⟨g, o, none⟩) dl cap, .slice x n cx]).run Try.prog w = .ok (goInt n) w' ∧ Rw w' g N (pl F o n S) ∧ Only g w w' := by
  obtain ⟨h1, h2, a, c', e, h5, h6, h4⟩ := hx
  cases e
  exact copy8_min w (g := g) (o := o) (dl := dl) (cap := cap) hr (m := n) (n := n) h2 (fun h0 => by
    obtain ⟨b, p, e, hl, hc⟩ := h4 h0
    exact ⟨b, p, e, hc⟩) hd hn (Nat.le_refl _) (Nat.min_eq_left hn)

theorem Cs.ne {lo hi m g cm : Nat} {w : World} {n C B : Nat → Nat} {S : Nat → Nat → Nat} (h : Cs lo hi w (.slice (some ⟨g, 0, none⟩) m cm) m n C B S) {i : Nat} (hi' : i < m) : B i ≠ g := by
  obtain ⟨a, c, e, hc1, hc2, hf⟩ := h.form
  cases e
  obtain ⟨g', e1, g1, g2, g3, g4⟩ := hf (by omega)
  cases e1
  exact g3 i hi'
end Go.Proofs.Ytfhgamaakkoplaa
namespace Go.Proofs.Ytfhgamaakkoplaa
open Go.RowKit Gf2
set_option linter.unusedVariables false

-- layer 4: slices.Sort of bytes that rise already
theorem less8_nan (x : Int) (w : World) : Calls Try.prog 95 #[.int .u8 x] w fun e w' => e = .returned (.bool false) ∧ w' = w := by
  go_enter Try.func95, Try.ntmps95
  go_wp2
  go_ret
  exact ⟨rfl, rfl⟩
set_option maxHeartbeats 400000 in
theorem less8 (x y : Int) (w : World) : Calls Try.prog 82 #[.int .u8 x, .int .u8 y] w fun e w' => e = .returned (.bool (decide (x < y))) ∧ w' = w := by
  have c1 := fun x w => less8_nan x w
  go_enter Try.func82, Try.ntmps82
  go_wp2_with (go_at_call 95; (with_reducible refine (c1 _ _).mono ?_); rintro e w9 ⟨rfl, hw9⟩; have hw9 := hw9.symm; subst hw9)
  go_ret
  exact ⟨rfl, rfl⟩
theorem less8_no (x y : Int) (w : World) (h : ¬ x < y) : Calls Try.prog 82 #[.int .u8 x, .int .u8 y] w fun e w' => e = .returned (.bool false) ∧ w' = w := by
  have c := less8 x y w
  rw [decide_eq_false h] at c
  exact c
/-- each is greater than those ahead of it. -/
def Up8 (n : Nat) (F : Nat → Nat) : Prop := ∀ i j, i < j → j < n → F i < F j
set_option maxHeartbeats 2000000 in
set_option maxRecDepth 100000 in
theorem order8 (v x : Value) (n a b : Nat) (F : Nat → Nat) (w : World) (h : Rb w v n F) (up : Up8 n F) (hab : a < b) (hb : b < n) :
    Calls Try.prog 96 #[v, .int .i64 (a : Int), .int .i64 (b : Int), x] w fun e w' => e = .returned (.tuple #[.int .i64 (a : Int), .int .i64 (b : Int)]) ∧ ∃ q, w' = w.drewN q := by
  have c1 := fun w => less8_no (F b : Int) (F a : Int) w (by have := up a b hab hb; omega)
  obtain ⟨-, -, aa, cap, rfl, -, -, h4⟩ := h
  obtain ⟨g, o, rfl, -, hc⟩ := h4 (by omega)
  have q1 := hc a (by omega)
  have q2 := hc b hb
  have ia : ((a : Nat) : Int) < (n : Int) := by omega
  have ib : ((b : Nat) : Int) < (n : Int) := by omega
  generalize F a = y at q1 c1
  generalize F b = z at q2 c1
  clear hc h4 up hab hb
  go_enter Try.func96, Try.ntmps96
  go_wp2
  go_quiet ((go_at_call 82; with_reducible exact Calls.quiet_of_same (c1 _)))
  go_wp2
  go_ret2
  exact ⟨rfl, _, rfl⟩
theorem rb_drewN8 {w : World} {v : Value} {n : Nat} {F : Nat → Nat} (h : Rb w v n F) (q : Nat) : Rb (w.drewN q) v n F := h
set_option maxHeartbeats 2000000 in
set_option maxRecDepth 100000 in
theorem median8 (v x : Value) (n a b c : Nat) (F : Nat → Nat) (w : World) (h : Rb w v n F) (up : Up8 n F) (hab : a < b) (hbc : b < c) (hc : c < n) :
    Calls Try.prog 94 #[v, .int .i64 (a : Int), .int .i64 (b : Int), .int .i64 (c : Int), x] w fun e w' => e = .returned (.int .i64 (b : Int)) ∧ ∃ q, w' = w.drewN q := by
  have c1 := fun q => order8 v x n a b F (w.drewN q) (rb_drewN8 h q) up hab (by omega)
  have c2 := fun q => order8 v x n b c F (w.drewN q) (rb_drewN8 h q) up hbc hc
  have c0 := order8 v x n a b F w h up hab (by omega)
  have hd : ∀ q r, (w.drewN q).drewN r = w.drewN (q + r) := fun q r => World.drewN_drewN _ _ _
  clear h up hab hbc hc
  go_enter Try.func94, Try.ntmps94
  go_wp2_with (go_at_call 96; first
    | ((with_reducible refine c0.mono ?_); rintro e w9 ⟨rfl, q0, rfl⟩; clear c0)
    | ((with_reducible refine (c2 _).mono ?_); rintro e w9 ⟨rfl, q1, hw9⟩; rw [hd] at hw9; subst hw9; clear c2)
    | ((with_reducible refine (c1 _).mono ?_); rintro e w9 ⟨rfl, q2, hw9⟩; rw [hd] at hw9; subst hw9; clear c1))
  go_ret
  exact ⟨rfl, _, rfl⟩
set_option maxHeartbeats 2000000 in
set_option maxRecDepth 100000 in
theorem adjacent8 (v x : Value) (n a : Nat) (F : Nat → Nat) (w : World) (h : Rb w v n F) (up : Up8 n F) (ha : 1 ≤ a) (hc : a + 1 < n) (hn : n ≤ 1000) :
    Calls Try.prog 93 #[v, .int .i64 (a : Int), x] w fun e w' => e = .returned (.int .i64 (a : Int)) ∧ ∃ q, w' = w.drewN q := by
  obtain ⟨b, rfl⟩ : ∃ b, a = b + 1 := ⟨a - 1, by omega⟩
  have c0 := median8 v x n b (b + 1) (b + 2) F w h up (by omega) (by omega) (by omega)
  have W0 : wrap64 (((b + 1 : Nat) : Int) - 1) = ((b : Nat) : Int) := by unfold wrap64; omega
  have W1 : wrap64 (((b + 1 : Nat) : Int) + 1) = ((b + 2 : Nat) : Int) := by unfold wrap64; omega
  generalize hs : ((b + 1 : Nat) : Int) = s at c0 W0 W1 ⊢
  generalize ((b : Nat) : Int) = r at c0 W0
  generalize ((b + 2 : Nat) : Int) = t at c0 W1
  clear h up ha hc hn hs
  go_enter Try.func93, Try.ntmps93
  go_wp2_with (go_at_call 94; first | rw [W0, W1] | skip; (with_reducible refine c0.mono ?_); rintro e w9 ⟨rfl, q0, rfl⟩; clear c0)
  go_ret
  exact ⟨rfl, _, rfl⟩
end Go.Proofs.Ytfhgamaakkoplaa
namespace Go.Proofs.Ytfhgamaakkoplaa
open Go.RowKit Gf2
set_option linter.unusedVariables false

-- layer 4: slices.Sort of bytes that rise already
set_option maxHeartbeats 4000000 in
set_option maxRecDepth 100000 in
theorem insertion8 (v : Value) (n : Nat) (F : Nat → Nat) (w : World) (h : Rb w v n F) (up : Up8 n F) (hn : n ≤ 1000) :
    Calls Try.prog 76 #[v, .int .i64 0, .int .i64 (n : Int)] w fun e w' => e = .returned (.tuple #[]) ∧ ∃ q, w' = w.drewN q := by
  obtain ⟨-, -, aa, cap, rfl, -, -, h4⟩ := h
  go_enter Try.func76, Try.ntmps76
  go_wp2
  go_loopw [6] (fun i wr => ∃ m q : Nat, 1 ≤ m ∧ i = .int .i64 (m : Int) ∧ Hid (wr = w.drewN q)) (fun i _ => n - (intOf i).toNat)
  case atStart => exact ⟨1, 0, Nat.le_refl _, rfl, rfl⟩
  case round =>
    obtain ⟨m, q, hm1, rfl, hw⟩ := hrel
    by_cases hlt : m < n
    · obtain ⟨g, o, rfl, -, hc⟩ := h4 (by omega)
      obtain ⟨j, hj⟩ : ∃ j, m = j + 1 := ⟨m - 1, by omega⟩
      have q1 : wr.cell? ⟨g, o + m, none⟩ = some (.int .u8 (F m : Nat)) := by rw [hw.out]; exact hc m hlt
      have q2 : wr.cell? ⟨g, o + j, none⟩ = some (.int .u8 (F j : Nat)) := by rw [hw.out]; exact hc j (by omega)
      have ib : ((m : Nat) : Int) < (n : Int) := Int.ofNat_lt.2 hlt
      have ia : ((j : Nat) : Int) < (n : Int) := by omega
      have c1 := fun w => less8_no (F m : Int) (F j : Int) w (by have := up j m (by omega) hlt; omega)
      have i0 : (0 : Int) < ((m : Nat) : Int) := by omega
      have i0n : 0 < m := hm1
      have W0 : wrap64 (((m : Nat) : Int) - 1) = ((j : Nat) : Int) := by unfold wrap64; omega
      have W1 := wrap_lt8 hlt hn
      have HX : Hid (m < n ∧ 1 ≤ m) := ⟨hlt, hm1⟩
      generalize F j = x at q2 c1
      generalize F m = y at q1 c1
      clear hc h4 hn up hlt hj hm1
      go_wp2
      go_loopw [7] (fun j wr2 => j = .int .i64 ((m : Nat) : Int) ∧ wr2 = wr) (fun _ _ => 0)
      case atStart => exact ⟨rfl, rfl⟩
      case round =>
        obtain ⟨rfl, rfl⟩ := hrel
        go_wp2
        go_quiet ((go_at_call 82; with_reducible exact Calls.quiet_of_same (c1 _)))
        go_wp2
        go_roundw
        case rel => exact ⟨m + 1, q + nq, by omega, by first | rfl | (rw [W1]; rfl), by show _ = _; rw [hw.out, World.drewN_drewN]⟩
        case measure => first | exact meas_lt8 HX.out.1 | (rw [W1]; exact meas_lt8 HX.out.1)
    · have ib : ¬ ((m : Nat) : Int) < (n : Int) := by omega
      have HQ : Hid (∃ q, wr = w.drewN q) := ⟨q, hw.out⟩
      clear hw h4 up hn hlt hm1
      go_wp2
      ((try simp only [Exit.inBlock, Exit.then]); first | (refine bodyPost_ret (results_none rfl _ _ _) rfl ?_) | (refine bodyPost_end (results_none rfl _ _ _) rfl ?_))
      exact ⟨rfl, HQ.out⟩
end Go.Proofs.Ytfhgamaakkoplaa
namespace Go.Proofs.Ytfhgamaakkoplaa
open Go.RowKit Gf2
set_option linter.unusedVariables false

-- layer 4: slices.Sort of bytes that rise already
set_option maxHeartbeats 4000000 in
set_option maxRecDepth 100000 in
theorem partial8 (v : Value) (n : Nat) (F : Nat → Nat) (w : World) (h : Rb w v n F) (up : Up8 n F) (hn : n ≤ 1000) (h1 : 1 ≤ n) :
    Calls Try.prog 81 #[v, .int .i64 0, .int .i64 (n : Int)] w fun e w' => e = .returned (.bool true) ∧ ∃ q, w' = w.drewN q := by
  obtain ⟨-, -, aa, cap, rfl, -, -, h4⟩ := h
  go_enter Try.func81, Try.ntmps81
  go_wp2
  go_loopw [7, 8] (fun i j wr => i = .int .i64 1 ∧ j = .int .i64 0 ∧ wr = w) (fun _ _ _ => 0)
  case atStart => exact ⟨rfl, rfl, rfl⟩
  case round =>
    obtain ⟨rfl, rfl, hw0⟩ := hrel
    have hw0 := hw0.symm
    subst hw0
    go_wp2
    go_loopw [7] (fun i w2 => ∃ m q : Nat, 1 ≤ m ∧ m ≤ n ∧ i = .int .i64 (m : Int) ∧ Hid (w2 = w.drewN q)) (fun i _ => n - (intOf i).toNat)
    case atStart => exact ⟨1, 0, Nat.le_refl _, h1, rfl, rfl⟩
    case round =>
      obtain ⟨m, q, hm1, hmn, rfl, hw⟩ := hrel
      by_cases hlt : m < n
      · obtain ⟨g, o, rfl, -, hc⟩ := h4 (by omega)
        obtain ⟨j, hj⟩ : ∃ j, m = j + 1 := ⟨m - 1, by omega⟩
        have q1 : wr.cell? ⟨g, o + m, none⟩ = some (.int .u8 (F m : Nat)) := by rw [hw.out]; exact hc m hlt
        have q2 : wr.cell? ⟨g, o + j, none⟩ = some (.int .u8 (F j : Nat)) := by rw [hw.out]; exact hc j (by omega)
        have ib : ((m : Nat) : Int) < (n : Int) := Int.ofNat_lt.2 hlt
        have ia : ((j : Nat) : Int) < (n : Int) := by omega
        have c1 := fun w => less8_no (F m : Int) (F j : Int) w (by have := up j m (by omega) hlt; omega)
        have W0 : wrap64 (((m : Nat) : Int) - 1) = ((j : Nat) : Int) := by unfold wrap64; omega
        have W1 := wrap_lt8 hlt hn
        have HX : Hid (m < n ∧ 1 ≤ m) := ⟨hlt, hm1⟩
        generalize F j = x at q2 c1
        generalize F m = y at q1 c1
        clear hc h4 hn up hj hm1 hmn
        go_wp2
        go_quiet ((go_at_call 82; with_reducible exact Calls.quiet_of_same (c1 _)))
        go_wp2
        go_roundw
        case rel => exact ⟨m + 1, q + nq, by omega, HX.out.1, by first | rfl | (rw [W1]; rfl), by show _ = _; rw [hw.out, World.drewN_drewN]⟩
        case measure => first | exact meas_lt8 HX.out.1 | (rw [W1]; exact meas_lt8 HX.out.1)
      · obtain rfl : m = n := by omega
        have HQ : Hid (∃ q, wr = w.drewN q) := ⟨q, hw.out⟩
        clear hw h4 up hn hm1 hmn h1
        go_wp2
        go_quiet (fail)
        go_wp2
        go_ret
        obtain ⟨q5, hq5⟩ := HQ.out
        exact ⟨rfl, q5 + nq, by rw [hq5, World.drewN_drewN]⟩
theorem quarter8 {n q : Nat} (hq : q = n / 4) : ((q : Nat) : Int) = (n : Int) / 4 := by omega
set_option maxHeartbeats 4000000 in
set_option maxRecDepth 100000 in
theorem pivot8 (v : Value) (n : Nat) (F : Nat → Nat) (w : World) (h : Rb w v n F) (up : Up8 n F) (hn : n ≤ 1000) (h1 : 12 < n) :
    Calls Try.prog 79 #[v, .int .i64 0, .int .i64 (n : Int)] w fun e w' => (∃ p, e = .returned (.tuple #[p, .int .i64 1])) ∧ Below w.heap.size w w' := by
  have hv : ∃ a cap, v = .slice a n cap := by obtain ⟨-, -, aa, cap, rfl, -⟩ := h; exact ⟨_, _, rfl⟩
  obtain ⟨a0, cap, rfl⟩ := hv
  obtain ⟨q, hq⟩ : ∃ q, q = n / 4 := ⟨_, rfl⟩
  have e1 := quarter8 hq
  have e2 : ((q * 2 : Nat) : Int) = (n : Int) / 4 * 2 := by omega
  have e3 : ((q * 3 : Nat) : Int) = (n : Int) / 4 * 3 := by omega
  have b1 : Below w.heap.size w (w.alloc (.cells #[.int .i64 0] 3)) := (Below.refl _ _).alloc (Nat.le_refl _) _
  have hR := h.below b1
  have HB : Hid (∀ r, Below w.heap.size w ((w.alloc (.cells #[.int .i64 0] 3)).drewN r)) := fun r => below_drewN b1 r
  have hz : ∀ r, ((w.alloc (.cells #[.int .i64 0] 3)).drewN r).cell? ⟨w.heap.size, 0, none⟩ = some (.int .i64 0) := fun r => by
    show (w.alloc (.cells #[.int .i64 0] 3)).cell? ⟨w.heap.size, 0, none⟩ = _
    rw [cell_of_row _ _ 0 _ _ _ (heap_alloc_new _ _)]; rfl
  have m0 := fun r => median8 (.slice a0 n cap) (.pointer (some ⟨w.heap.size, 0, none⟩)) n q (q * 2) (q * 3) F ((w.alloc (.cells #[.int .i64 0] 3)).drewN r) (rb_drewN8 hR r) up (by omega) (by omega) (by omega)
  have mm0 := median8 (.slice a0 n cap) (.pointer (some ⟨w.heap.size, 0, none⟩)) n q (q * 2) (q * 3) F (w.alloc (.cells #[.int .i64 0] 3)) hR up (by omega) (by omega) (by omega)
  have j1 := adjacent8 (.slice a0 n cap) (.pointer (some ⟨w.heap.size, 0, none⟩)) n q F (w.alloc (.cells #[.int .i64 0] 3)) hR up (by omega) (by omega) hn
  have j2 := fun r => adjacent8 (.slice a0 n cap) (.pointer (some ⟨w.heap.size, 0, none⟩)) n (q * 2) F ((w.alloc (.cells #[.int .i64 0] 3)).drewN r) (rb_drewN8 hR r) up (by omega) (by omega) hn
  have j3 := fun r => adjacent8 (.slice a0 n cap) (.pointer (some ⟨w.heap.size, 0, none⟩)) n (q * 3) F ((w.alloc (.cells #[.int .i64 0] 3)).drewN r) (rb_drewN8 hR r) up (by omega) (by omega) hn
  simp only [e1, e2, e3] at m0 mm0 j1 j2 j3
  have hd : ∀ q r, ((w.alloc (.cells #[.int .i64 0] 3)).drewN q).drewN r = (w.alloc (.cells #[.int .i64 0] 3)).drewN (q + r) := fun q r => World.drewN_drewN _ _ _
  have i8 : (8 : Int) ≤ (n : Int) := by omega
  clear h up e1 e2 e3 b1 hR hq
  by_cases h50 : 50 ≤ n
  · have i50 : (50 : Int) ≤ (n : Int) := by omega
    clear mm0
    go_enter Try.func79, Try.ntmps79
    go_wp2_with (first
      | (go_at_call 93; first
        | ((with_reducible refine j1.mono ?_); rintro e w9 ⟨rfl, q0, rfl⟩; clear j1)
        | ((with_reducible refine (j2 _).mono ?_); rintro e w9 ⟨rfl, q1, hw9⟩; rw [hd] at hw9; subst hw9; clear j2)
        | ((with_reducible refine (j3 _).mono ?_); rintro e w9 ⟨rfl, q2, hw9⟩; rw [hd] at hw9; subst hw9; clear j3))
      | (go_at_call 94; (with_reducible refine (m0 _).mono ?_); rintro e w9 ⟨rfl, q3, hw9⟩; rw [hd] at hw9; subst hw9; have hz1 := hz (q0 + q1 + q2 + q3); clear m0))
    go_ret2
    exact ⟨⟨_, rfl⟩, HB.out _⟩
  · have i50 : ¬ (50 : Int) ≤ (n : Int) := by omega
    clear m0 j1 j2 j3
    go_enter Try.func79, Try.ntmps79
    go_wp2_with (go_at_call 94; (with_reducible refine mm0.mono ?_); rintro e w9 ⟨rfl, q3, rfl⟩; have hz1 := hz q3; clear mm0)
    go_ret2
    exact ⟨⟨_, rfl⟩, HB.out _⟩
end Go.Proofs.Ytfhgamaakkoplaa
namespace Go.Proofs.Ytfhgamaakkoplaa
open Go.RowKit Gf2
set_option linter.unusedVariables false

-- layer 4: slices.Sort of bytes that rise already
set_option maxHeartbeats 2000000 in
set_option maxRecDepth 100000 in
theorem bitlen8 (m : Nat) (w : World) (hm : m ≤ 65536) :
    Calls Try.prog 72 #[.int .u64 (m : Int)] w fun e w' => e = .returned (.int .i64 ((len m : Nat) : Int)) ∧ w' = w := by
  have c := len64_int (m : Int) w (by omega) (by omega)
  rw [show ((m : Int).toNat) = m from rfl] at c
  clear hm
  go_enter Try.func72, Try.ntmps72
  go_wp2_with (go_at_call 86; ((with_reducible refine (c).mono ?_); rintro e w' ⟨rfl, rfl⟩))
  go_ret
  exact ⟨rfl, rfl⟩
set_option maxHeartbeats 4000000 in
set_option maxRecDepth 100000 in
theorem pdq8 (v : Value) (n : Nat) (l : Int) (F : Nat → Nat) (w : World) (h : Rb w v n F) (up : Up8 n F) (hn : n ≤ 1000) (hl : 12 < n → l ≠ 0) :
    Calls Try.prog 71 #[v, .int .i64 0, .int .i64 (n : Int), .int .i64 l] w fun e w' => e = .returned (.tuple #[]) ∧ Below w.heap.size w w' := by
  have Wn : wrap64 ((n : Nat) : Int) = (n : Int) := by unfold wrap64; omega
  by_cases h12 : n ≤ 12
  · have c1 := insertion8 v n F w h up hn
    have i12 : ((n : Nat) : Int) ≤ 12 := by omega
    clear h up hn hl
    go_enter Try.func71, Try.ntmps71
    go_wp2
    go_loopw [1, 2, 3, 8, 9] (fun a b c d e wr => a = .int .i64 0 ∧ b = .int .i64 (n : Int) ∧ c = .int .i64 l ∧ d = .bool true ∧ e = .bool true ∧ wr = w) (fun _ _ _ _ _ _ => 0)
    case atStart => exact ⟨rfl, rfl, rfl, rfl, rfl, rfl⟩
    case round =>
      obtain ⟨rfl, rfl, rfl, rfl, rfl, hw0⟩ := hrel
      have hw0 := hw0.symm
      subst hw0
      go_wp2_with (go_at_call 76; (with_reducible refine c1.mono ?_); rintro e w9 ⟨rfl, q0, rfl⟩; clear c1)
      ((try simp only [Exit.inBlock, Exit.then]); first | (refine bodyPost_ret (results_none rfl _ _ _) rfl ?_) | (refine bodyPost_end (results_none rfl _ _ _) rfl ?_))
      exact ⟨rfl, below_drewN (Below.refl _ _) q0⟩
  · have c1 := pivot8 v n F w h up hn (by omega)
    have HC : Hid (∀ w1, Below w.heap.size w w1 → Calls Try.prog 81 #[v, .int .i64 0, .int .i64 (n : Int)] w1 fun e w' => e = .returned (.bool true) ∧ Below w.heap.size w w') := fun w1 b1 => (partial8 v n F w1 (h.below b1) up hn (by omega)).mono fun e w' ⟨he, q, hq⟩ => ⟨he, by rw [hq]; exact below_drewN b1 q⟩
    have i12 : ¬ ((n : Nat) : Int) ≤ 12 := by omega
    have hl0 : ¬ l = 0 := hl (by omega)
    have hlb : (l == 0) = false := by simp [hl0]
    clear h up hn hl
    go_enter Try.func71, Try.ntmps71
    go_wp2
    go_loopw [1, 2, 3, 8, 9] (fun a b c d e wr => a = .int .i64 0 ∧ b = .int .i64 (n : Int) ∧ c = .int .i64 l ∧ d = .bool true ∧ e = .bool true ∧ wr = w) (fun _ _ _ _ _ _ => 0)
    case atStart => exact ⟨rfl, rfl, rfl, rfl, rfl, rfl⟩
    case round =>
      obtain ⟨rfl, rfl, rfl, rfl, rfl, hw0⟩ := hrel
      have hw0 := hw0.symm
      subst hw0
      go_wp2_with (first
        | (go_at_call 79; (with_reducible refine c1.mono ?_); rintro e w9 ⟨⟨p0, rfl⟩, b9⟩; have c2 := HC.out w9 b9; clear c1 b9 HC)
        | (go_at_call 81; (with_reducible refine c2.mono ?_); rintro e w8 ⟨rfl, b8⟩; clear c2; have HF : Hid (Below w.heap.size w w8) := b8; clear b8))
      ((try simp only [Exit.inBlock, Exit.then]); first | (refine bodyPost_ret (results_none rfl _ _ _) rfl ?_) | (refine bodyPost_end (results_none rfl _ _ _) rfl ?_))
      exact ⟨rfl, HF.out⟩
theorem len_pos8 {n : Nat} (h : 1 ≤ n) : ((len n : Nat) : Int) ≠ 0 := by
  intro e
  have e0 : len n = 0 := by omega
  have := len_eq_zero.1 e0
  omega
set_option maxHeartbeats 4000000 in
set_option maxRecDepth 100000 in
theorem sort8 (v : Value) (n : Nat) (F : Nat → Nat) (w : World) (h : Rb w v n F) (up : Up8 n F) (hn : n ≤ 1000) :
    Calls Try.prog 67 #[v] w fun e w' => e = .returned (.tuple #[]) ∧ Below w.heap.size w w' := by
  have c1 := bitlen8 n w (by omega)
  have c2 := pdq8 v n ((len n : Nat) : Int) F w h up hn (fun _ => len_pos8 (by omega))
  obtain ⟨-, -, aa, cap, rfl, -, -, h4⟩ := h
  have U0 : IntKind.u64.wrap ((n : Nat) : Int) = ((n : Nat) : Int) := by rw [IntKind.wrap_u64]; omega
  generalize ((len n : Nat) : Int) = l at c1 c2
  clear up h4 hn
  go_enter Try.func67, Try.ntmps67
  go_wp2_with (first
    | (go_at_call 72; (with_reducible refine c1.mono ?_); rintro e w9 ⟨rfl, hw9⟩; have hw9 := hw9.symm; subst hw9; clear c1)
    | (go_at_call 71; (with_reducible refine c2.mono ?_); rintro e w8 ⟨rfl, b8⟩; clear c2; have HF : Hid (Below w.heap.size w w8) := b8; clear b8))
  ((try simp only [Exit.inBlock, Exit.then]); first | (refine bodyPost_ret (results_none rfl _ _ _) rfl ?_) | (refine bodyPost_end (results_none rfl _ _ _) rfl ?_))
  exact ⟨rfl, HF.out⟩
end Go.Proofs.Ytfhgamaakkoplaa
namespace Go.Proofs.Ytfhgamaakkoplaa
open Go.RowKit Gf2
set_option linter.unusedVariables false

-- layer 4: the ring of polynomials over bytes
/-- the ring in block r, over the tables in block t. -/
structure Rg8 (w : World) (r t : Nat) : Prop where
  tab : Tab8 w t
  lt : r < w.heap.size
  mul : w.cell? ⟨r, 0, none⟩ = some (.func (.func 43) #[.pointer (some ⟨t, 0, none⟩)] #[])
  inv : w.cell? ⟨r, 1, none⟩ = some (.func (.func 44) #[.pointer (some ⟨t, 0, none⟩)] #[])
theorem Rg8.below {w w' : World} {r t : Nat} (h : Rg8 w r t) (hb : Below w.heap.size w w') : Rg8 w' r t :=
  ⟨h.tab.of_heap (hb.block _ h.tab.lt), Nat.lt_of_lt_of_le h.lt hb.size, (hb.cell (p := ⟨r, 0, none⟩) h.lt).trans h.mul, (hb.cell (p := ⟨r, 1, none⟩) h.lt).trans h.inv⟩
theorem Rg8.drewN {w : World} {r t : Nat} (h : Rg8 w r t) (q : Nat) : Rg8 (w.drewN q) r t := ⟨h.tab.drewN q, h.lt, h.mul, h.inv⟩
set_option maxHeartbeats 2000000 in
set_option maxRecDepth 100000 in
theorem over8 (w : World) : Calls Try.prog 25 #[] w fun e w' => ∃ r t, e = .returned (.pointer (some ⟨r, 0, none⟩)) ∧ Rg8 w' r t ∧ w.heap.size ≤ r ∧ Below w.heap.size w w' := by
  have c1 := new_tab w
  have hmf : ∀ (fn : Fn) (first cap : Array Value) (w : World), (Instr.makeFunc fn first cap).run Try.prog w = .ok (.func fn first cap) w := fun _ _ _ _ => rfl
  go_enter Try.func25, Try.ntmps25
  go_wp2_with (go_at_call 42; (with_reducible refine c1.mono ?_); rintro e w9 ⟨rfl, w0, hw9, hs0, ht, hb0⟩; subst hw9; clear c1; have HT : Hid (w0.heap.size = w.heap.size + 1 ∧ Tab8 w0 w.heap.size ∧ Below w.heap.size w w0) := ⟨hs0, ht, hb0⟩; clear hs0 ht hb0)
  go_ret
  have b1 : Below w0.heap.size w0 (w0.alloc (.cells #[.func (.func 43) #[.pointer (some ⟨w.heap.size, 0, none⟩)] #[], .func (.func 44) #[.pointer (some ⟨w.heap.size, 0, none⟩)] #[]] 92)) := (Below.refl _ _).alloc (Nat.le_refl _) _
  refine ⟨w0.heap.size, w.heap.size, rfl, ⟨HT.out.2.1.of_heap (b1.block _ (by have := HT.out.1; omega)), ?_, ?_, ?_⟩, by have := HT.out.1; omega, HT.out.2.2.trans (b1.mono (by have := HT.out.1; omega))⟩
  · exact (Array.getElem?_eq_some_iff.1 (heap_alloc_new _ _)).1
  · show (w0.alloc _).cell? _ = _
    rw [cell_of_row _ _ 0 _ _ _ (heap_alloc_new _ _)]; rfl
  · show (w0.alloc _).cell? _ = _
    rw [cell_of_row _ _ 1 _ _ _ (heap_alloc_new _ _)]; rfl
set_option maxHeartbeats 2000000 in
set_option maxRecDepth 100000 in
theorem lacking8 (r t : Nat) (w : World) (h : Rg8 w r t) : Calls Try.prog 47 #[.pointer (some ⟨r, 0, none⟩)] w fun e w' => e = .returned (.bool false) ∧ w' = w := by
  have q1 := h.mul
  have q2 := h.inv
  have n1 : ∀ (f : Fn) (a : Array Value) (W : World), Sem.run Try.prog (binOp BinOp.eql 83 (Value.func f a #[]) Value.nilFunc) W = .ok (.bool false) W := fun f a W => by kernel_rfl
  have n2 : ∀ (f : Fn) (a : Array Value) (W : World), Sem.run Try.prog (binOp BinOp.eql 90 (Value.func f a #[]) Value.nilFunc) W = .ok (.bool false) W := fun f a W => by kernel_rfl
  clear h
  go_enter Try.func47, Try.ntmps47
  go_wp2
  go_ret
  exact ⟨rfl, rfl⟩
set_option maxHeartbeats 2000000 in
set_option maxRecDepth 100000 in
theorem unfit8 (r t n m : Nat) (v u : Value) (w : World) (h : Rg8 w r t) (hv : ∃ a c, v = .slice a n c) (hu : ∃ a c, u = .slice a m c) (hn : n ≤ 1024) (hm : m ≤ 1024) : Calls Try.prog 45 #[.pointer (some ⟨r, 0, none⟩), v, u] w fun e w' => e = .returned (.int .i64 0) ∧ w' = w := by
  have c1 := lacking8 r t w h
  obtain ⟨a, c, rfl⟩ := hv
  obtain ⟨a', c', rfl⟩ := hu
  have i1 : ¬ (1024 : Int) < (n : Int) := by omega
  have i2 : ¬ (1024 : Int) < (m : Int) := by omega
  clear h
  go_enter Try.func45, Try.ntmps45
  go_wp2_with (go_at_call 47; (with_reducible refine c1.mono ?_); rintro e w9 ⟨rfl, hw9⟩; have hw9 := hw9.symm; subst hw9; clear c1)
  go_ret
  exact ⟨rfl, rfl⟩
/-- so many elements are left without the zeros at the end. -/
structure Nz8 (n : Nat) (F : Nat → Nat) (d : Nat) : Prop where
  le : d ≤ n
  out : ∀ i, d ≤ i → i < n → F i = 0
  top : d = 0 ∨ F (d - 1) ≠ 0
set_option maxHeartbeats 2000000 in
set_option maxRecDepth 100000 in
theorem degree8 (v : Value) (n : Nat) (F : Nat → Nat) (w : World) (h : Rb w v n F) (hn : n ≤ 2000) : Calls Try.prog 48 #[v] w fun e w' => ∃ d : Nat, e = .returned (.int .i64 ((d : Int) - 1)) ∧ Nz8 n F d ∧ ∃ q, w' = w.drewN q := by
  obtain ⟨-, -, aa, cap, rfl, -, -, h4⟩ := h
  have W0 : wrap64 (((n : Nat) : Int) - 1) = (n : Int) - 1 := by unfold wrap64; omega
  go_enter Try.func48, Try.ntmps48
  go_wp2
  go_loopw [3] (fun i wr => ∃ d q : Nat, d ≤ n ∧ i = .int .i64 ((d : Int) - 1) ∧ (∀ i, d ≤ i → i < n → F i = 0) ∧ Hid (wr = w.drewN q)) (fun i _ => (intOf i + 1).toNat)
  case atStart => exact ⟨n, 0, Nat.le_refl _, by first | rfl | (rw [W0]), fun i h1 h2 => absurd h1 (by omega), rfl⟩
  case round =>
    obtain ⟨d, q, hd, rfl, hz, hw⟩ := hrel
    by_cases h0 : d = 0
    · subst h0
      have HQ : Hid (Nz8 n F 0 ∧ ∃ q, wr = w.drewN q) := ⟨⟨hd, hz, .inl rfl⟩, q, hw.out⟩
      clear hw hz hd h4 hn W0
      go_wp2
      go_ret
      exact ⟨0, rfl, HQ.out⟩
    · obtain ⟨j, rfl⟩ : ∃ j, d = j + 1 := ⟨d - 1, by omega⟩
      obtain ⟨g, o, rfl, -, hc⟩ := h4 (by omega)
      have e1 : (((j + 1 : Nat) : Int) - 1) = (j : Int) := by omega
      rw [e1]
      have q1 : wr.cell? ⟨g, o + j, none⟩ = some (.int .u8 (F j : Nat)) := by rw [hw.out]; exact hc j (by omega)
      have ib : ((j : Nat) : Int) < (n : Int) := by omega
      have W1 : wrap64 ((j : Int) - 1) = (j : Int) - 1 := by unfold wrap64; omega
      by_cases hF : F j = 0
      · rw [hF] at q1
        have HR : Hid (j ≤ n ∧ (∀ i, j ≤ i → i < n → F i = 0)) := ⟨by omega, fun i h1 h2 => by
          by_cases e : i = j
          · rw [e, hF]
          · exact hz i (by omega) h2⟩
        clear hz hc h4 hn W0 hd hF h0 e1
        go_wp2
        go_roundw
        case rel => exact ⟨j, q, HR.out.1, by first | rfl | (rw [W1]), HR.out.2, hw⟩
        case measure => simp [intOf]; rw [W1]; omega
      · have HQ : Hid (Nz8 n F (j + 1) ∧ ∃ q, wr = w.drewN q) := ⟨⟨hd, hz, .inr hF⟩, q, hw.out⟩
        have hI : ¬ ((F j : Nat) : Int) = 0 := by omega
        have hIb : (((F j : Nat) : Int) == 0) = false := by simp [hF]
        generalize F j = x at q1 hI hIb
        clear hw hz hc h4 hn W0 hd hF h0 e1
        go_wp2
        go_ret
        exact ⟨j + 1, by simp, HQ.out⟩
theorem rb_slice8 {w : World} {v : Value} {n : Nat} {F : Nat → Nat} (h : Rb w v n F) : ∃ a c, v = .slice a n c ∧ n ≤ c := by
  obtain ⟨-, -, aa, cap, rfl, h5, -⟩ := h
  exact ⟨_, _, rfl, h5⟩
/-- the first d of a list. -/
theorem Rb.cut8 {w : World} {a : Option Addr} {n c d : Nat} {F : Nat → Nat} (h : Rb w (.slice a n c) n F) (hd : d ≤ n) : Rb w (.slice a d c) d F := by
  obtain ⟨h1, h2, a', c', e, h5, h6, h4⟩ := h
  cases e
  exact ⟨by omega, fun i hi => h2 i (by omega), a, c, rfl, by omega, h6, fun h0 => by
    obtain ⟨b, o, e, hl, hc⟩ := h4 (by omega)
    exact ⟨b, o, e, hl, fun i hi => hc i (by omega)⟩⟩
set_option maxHeartbeats 2000000 in
set_option maxRecDepth 100000 in
theorem trimmed8 (a : Option Addr) (n c : Nat) (F : Nat → Nat) (w : World) (h : Rb w (.slice a n c) n F) (hn : n ≤ 2000) : Calls Try.prog 50 #[.slice a n c] w fun e w' => ∃ d : Nat, e = .returned (.slice a d c) ∧ Nz8 n F d ∧ ∃ q, w' = w.drewN q := by
  have c1 := degree8 _ n F w h hn
  have hc : n ≤ c := by obtain ⟨a', c', e, h5⟩ := rb_slice8 h; cases e; exact h5
  have ha : a = none → c = c := fun _ => rfl
  have HN : Hid (n ≤ 2000 ∧ n ≤ c) := ⟨hn, hc⟩
  clear hn
  go_enter Try.func50, Try.ntmps50
  go_wp2_with (go_at_call 48; (with_reducible refine c1.mono ?_); rintro e w9 ⟨d, rfl, hz, q, rfl⟩; have HZ : Hid (Nz8 n F d) := hz; have W1 : wrap64 (((d : Int) - 1) + 1) = (d : Int) := by { have := hz.le; have := HN.out; unfold wrap64; omega }; have W2 : wrap64 (d : Int) = (d : Int) := by { have := hz.le; have := HN.out; unfold wrap64; omega }; have i1 : ((d : Nat) : Int) ≤ (c : Int) := by { have := hz.le; have := HN.out; omega }; have i2 : d ≤ c := by { have := hz.le; have := HN.out; omega }; clear hz c1)
  go_ret
  exact ⟨d, rfl, HZ.out, _, rfl⟩
end Go.Proofs.Ytfhgamaakkoplaa
namespace Go.Proofs.Ytfhgamaakkoplaa
open Go.RowKit Gf2
set_option linter.unusedVariables false

-- layer 4: copies, values
set_option maxHeartbeats 2000000 in
set_option maxRecDepth 100000 in
theorem copied8 (v : Value) (n : Nat) (F : Nat → Nat) (w : World) (h : Rb w v n F) (hn : n ≤ 2000) :
    Calls Try.prog 49 #[v] w fun e w' => e = .returned (.slice (some ⟨w.heap.size, 0, none⟩) n n) ∧ Rw w' w.heap.size n F ∧ Below w.heap.size w w' := by
  have hmk := make_u8 n (by omega)
  have r0 := made_rw n (by omega) w
  have b0 : Below w.heap.size w (w.alloc (.cells (madeCells #[.int .u8 0] n) 5)) := (Below.refl _ _).alloc (Nat.le_refl _) _
  obtain ⟨a, c, rfl, -⟩ := rb_slice8 h
  obtain ⟨w1, hrun, hR, ho⟩ := copy10 (cap := n) r0 (h.below b0) (o := 0) (dl := n) (by omega) (Nat.le_refl _)
  have HR : Hid (Rw w1 w.heap.size n F ∧ Below w.heap.size w w1) := ⟨hR.congr (fun i hi => by unfold pl; rw [if_pos (by omega), Nat.sub_zero]), b0.trans (ho.below (Nat.le_refl _))⟩
  clear h hR ho r0 b0 hn
  go_enter Try.func49, Try.ntmps49
  go_wp2
  go_ret
  exact ⟨rfl, HR.out⟩
/-- Horner's way: the value at x of the elements from i on. -/
def hnr (x : Nat) (F : Nat → Nat) (n : Nat) : Nat → Nat
  | 0 => 0
  | k + 1 => fm 285 (hnr x F n k) x ^^^ F (n - 1 - k)
theorem hnr_lt (x : Nat) {F : Nat → Nat} {n : Nat} (hF : ∀ i, i < n → F i < 256) : ∀ k, k ≤ n → hnr x F n k < 256
  | 0, _ => Nat.two_pow_pos 8
  | k + 1, hk => Nat.xor_lt_two_pow (n := 8) (fm8_lt _ _) (hF _ (by omega))
theorem hnr_sum {x : Nat} {F : Nat → Nat} {n : Nat} (hx : x < 256) (hF : ∀ i, i < n → F i < 256) : ∀ k, k ≤ n → hnr x F n k = sx k (fun i => fm 285 (F (n - k + i)) (fp 285 x i))
  | 0, _ => rfl
  | k + 1, hk => by
    show fm 285 (hnr x F n k) x ^^^ F (n - 1 - k) = _
    rw [hnr_sum hx hF k (by omega), sx_first, fm_comm, fld8.fm_sx, Nat.xor_comm]
    congr 1
    · rw [fld8.fp_zero, fld8.fm_one (hF _ (by omega)), Nat.add_zero, show n - (k + 1) = n - 1 - k by omega]
    · refine sx_congr (fun i hi => ?_)
      rw [show n - (k + 1) + (i + 1) = n - k + i by omega, fld8.fp_succ hx, fm_comm 285 x, fld8.fm_assoc]
theorem hnr_pe {x : Nat} {F : Nat → Nat} {n : Nat} (hx : x < 256) (hF : ∀ i, i < n → F i < 256) : hnr x F n n = pe 285 x n F := by
  rw [hnr_sum hx hF n (Nat.le_refl _)]
  exact sx_congr (fun i hi => by rw [Nat.sub_self, Nat.zero_add])
set_option maxHeartbeats 4000000 in
set_option maxRecDepth 100000 in
theorem eval8 (r t x n : Nat) (v : Value) (F : Nat → Nat) (w : World) (hr : Rg8 w r t) (h : Rb w v n F) (hn : n ≤ 2000) (hx : x < 256) :
    Calls Try.prog 31 #[.pointer (some ⟨r, 0, none⟩), v, .int .u8 (x : Int)] w fun e w' => e = .returned (.int .u8 (pe 285 x n F : Nat)) ∧ ∃ q, w' = w.drewN q := by
  have c1 := lacking8 r t w hr
  obtain ⟨-, hF, aa, cap, rfl, -, -, h4⟩ := h
  rw [← hnr_pe hx hF]
  have W0 : wrap64 (((n : Nat) : Int) - 1) = (n : Int) - 1 := by unfold wrap64; omega
  go_enter Try.func31, Try.ntmps31
  go_wp2_with (go_at_call 47; (with_reducible refine c1.mono ?_); rintro e w9 ⟨rfl, hw9⟩; have hw9 := hw9.symm; subst hw9; clear c1)
  go_loopw [7, 8] (fun s i wr => ∃ k q : Nat, k ≤ n ∧ s = .int .u8 (hnr x F n k : Nat) ∧ i = .int .i64 ((n : Int) - (k : Int) - 1) ∧ Hid (wr = w.drewN q)) (fun _ i _ => (intOf i + 1).toNat)
  case atStart => exact ⟨0, 0, Nat.zero_le _, rfl, by first | rfl | (rw [W0]; simp), rfl⟩
  case round =>
    obtain ⟨k, q, hk, rfl, rfl, hw⟩ := hrel
    by_cases hlt : k < n
    · obtain ⟨g, o, rfl, -, hc⟩ := h4 (by omega)
      obtain ⟨j, hj⟩ : ∃ j, n = k + j + 1 := ⟨n - k - 1, by omega⟩
      have e1 : ((n : Int) - (k : Int) - 1) = (j : Int) := by omega
      rw [e1]
      have q1 : wr.cell? ⟨g, o + j, none⟩ = some (.int .u8 (F j : Nat)) := by rw [hw.out]; exact hc j (by omega)
      have q2 : wr.cell? ⟨r, 0, none⟩ = some (.func (.func 43) #[.pointer (some ⟨t, 0, none⟩)] #[]) := by rw [hw.out]; exact hr.mul
      have ib : ((j : Nat) : Int) < (n : Int) := by omega
      have W1 : wrap64 ((j : Int) - 1) = (j : Int) - 1 := by unfold wrap64; omega
      have c5 := fun m => tmul_nat t (hnr x F n k) x (wr.drewN m) (by rw [hw.out]; exact (hr.tab.drewN _).drewN _) (hnr_lt x hF k hk) hx
      have XX := u8_xor_nat (fm 285 (hnr x F n k) x) (F j) (fm8_lt _ _) (hF j (by omega))
      have HE : Hid (hnr x F n (k + 1) = fm 285 (hnr x F n k) x ^^^ F j) := by show _ = _; rw [show j = n - 1 - k by omega]; rfl
      have HX : Hid (k < n ∧ (j : Int) - 1 = (n : Int) - ((k + 1 : Nat) : Int) - 1) := ⟨hlt, by omega⟩
      generalize fm 285 (hnr x F n k) x = M at XX HE c5
      generalize F j = y at q1 XX HE
      generalize hnr x F n k = s at c5 ⊢
      clear hc h4 hn W0 hk hlt hj e1 hF
      go_wp2
      go_quiet ((go_at_call 43; with_reducible exact Calls.quiet_of (c5 _)))
      go_wp2
      go_roundw
      case rel => exact ⟨k + 1, q + nq, HX.out.1, by rw [HE.out], by rw [← HX.out.2]; first | rfl | (rw [W1]), by show _ = _; rw [hw.out, World.drewN_drewN]⟩
      case measure => simp [intOf]; rw [W1]; omega
    · have hkn : k = n := by omega
      subst hkn
      have e1 : ((k : Int) - (k : Int) - 1) = -1 := by omega
      rw [e1]
      have HQ : Hid (∃ q, wr = w.drewN q) := ⟨q, hw.out⟩
      clear hw h4 hn W0 hk hlt hF e1
      go_wp2
      go_ret
      exact ⟨rfl, HQ.out⟩
end Go.Proofs.Ytfhgamaakkoplaa
