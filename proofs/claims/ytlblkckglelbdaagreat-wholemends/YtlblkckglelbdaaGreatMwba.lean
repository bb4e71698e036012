import Derived.Test.YtlblkckglelbdaaGreatMwaz
import Derived.Deep.Cut
import Derived.BigQuiet
import Derived.Test.YtlblkckglelbdaaGreatMwat
namespace Go.Proofs.YtlblkckglelbdaaGreat
open Go.RowKit Gf2
set_option linter.unusedVariables false

-- layer 19: Column, Syndromes
theorem cnb_cover {A B C : Nat → Bool} : ∀ {n : Nat}, (∀ i, i < n → A i = true ∨ B i = true ∨ C i = true) → n ≤ cnb A n + cnb B n + cnb C n
  | 0, _ => Nat.zero_le _
  | n + 1, h => by
    have ih := cnb_cover (n := n) (fun i hi => h i (by omega))
    show n + 1 ≤ (cnb A n + (if A n then 1 else 0)) + (cnb B n + (if B n then 1 else 0)) + (cnb C n + (if C n then 1 else 0))
    rcases h n (by omega) with e | e | e
    · rw [if_pos e]; omega
    · rw [if_pos e]; omega
    · rw [if_pos e]; omega
theorem cnb_le (P : Nat → Bool) : ∀ n, cnb P n ≤ n
  | 0 => Nat.le_refl _
  | n + 1 => by
    have := cnb_le P n
    show cnb P n + (if P n then 1 else 0) ≤ n + 1
    split <;> omega
theorem xor_zero19 {a b : Nat} (h : a ^^^ b = 0) : a = b := by
  have h2 : (a ^^^ b) ^^^ b = 0 ^^^ b := by rw [h]
  rw [Nat.xor_assoc, Nat.xor_self, Nat.xor_zero, Nat.zero_xor] at h2
  exact h2
/-- there is one near polynomial at most. -/
theorem near_uniq19 {n k : Nat} {p y f g : Nat → Nat} (hp : ∀ i, i < n → p i < 256) (up : Up8 n p) (h1 : 1 ≤ k) (hk : k ≤ n) (ef : Gf2.El 8 f) (df : Dg f k) (eg : Gf2.El 8 g) (dg : Dg g k) (hf : Nr19 p y n ((n - k) / 2) f) (hg : Nr19 p y n ((n - k) / 2) g) : f = g := by
  have hz : pa f g = pz := by
    apply Classical.byContradiction
    intro hne
    have ek : k - 1 + 1 = k := by omega
    have hd : Dg (pa f g) k := df.pa dg
    have el : Gf2.El 8 (pa f g) := ef.pa eg
    have h := fld8.few_roots (pts := p) (n := n) (m := k - 1) (f := pa f g) (P := fun i => decide (pe 285 (p i) n f = y i) && decide (pe 285 (p i) n g = y i)) ⟨el, _, hd⟩ hne (by rw [ek]; exact hd) hp (up_inj8 up) (fun i hi e => by
      have e2 : pe 285 (p i) n f = y i ∧ pe 285 (p i) n g = y i := by simpa using e
      rw [ek, fld8.pe_pa, ← fld8.pe_cut (p i) df hk, ← fld8.pe_cut (p i) dg hk, e2.1, e2.2, Nat.xor_self])
    have c := cnb_cover (A := fun i => decide (pe 285 (p i) n f ≠ y i)) (B := fun i => decide (pe 285 (p i) n g ≠ y i)) (C := fun i => decide (pe 285 (p i) n f = y i) && decide (pe 285 (p i) n g = y i)) (n := n) (fun i hi => by
      by_cases a : pe 285 (p i) n f = y i
      · by_cases b : pe 285 (p i) n g = y i
        · right; right; simp [a, b]
        · right; left; simp [b]
      · left; simp [a])
    unfold Nr19 at hf hg
    omega
  funext i
  have := congrFun hz i
  exact xor_zero19 this
/-- those of the numbers that P names. -/
def fsel (P : Nat → Bool) (p : Nat → Nat) : Nat → Nat → Int
  | 0 => fun _ => 0
  | n + 1 => if P n then (fun i => if i < cnb P n then fsel P p n i else (p n : Int)) else fsel P p n
theorem cnb_yes {P : Nat → Bool} {n : Nat} (h : P n = true) : cnb P (n + 1) = cnb P n + 1 := by show cnb P n + _ = _; rw [if_pos h]
theorem cnb_no {P : Nat → Bool} {n : Nat} (h : P n = false) : cnb P (n + 1) = cnb P n := by show cnb P n + _ = _; rw [h]; rfl
theorem fsel_yes {P : Nat → Bool} {p : Nat → Nat} {n : Nat} (h : P n = true) : fsel P p (n + 1) = fun i => if i < cnb P n then fsel P p n i else (p n : Int) := by show (if P n then _ else _) = _; rw [if_pos h]
theorem fsel_no {P : Nat → Bool} {p : Nat → Nat} {n : Nat} (h : P n = false) : fsel P p (n + 1) = fsel P p n := by show (if P n then _ else _) = _; rw [h]; rfl
theorem fsel_congr {P Q : Nat → Bool} {p : Nat → Nat} : ∀ {n : Nat}, (∀ i, i < n → P i = Q i) → fsel P p n = fsel Q p n
  | 0, _ => rfl
  | n + 1, h => by
    have e1 := fsel_congr (p := p) (n := n) (fun i hi => h i (by omega))
    have e2 := cnb_congr (n := n) (fun i hi => h i (by omega))
    have e3 := h n (by omega)
    cases e : P n with
    | true => rw [fsel_yes e, fsel_yes (by rw [← e3, e]), e1, e2]
    | false => rw [fsel_no e, fsel_no (by rw [← e3, e]), e1]
end Go.Proofs.YtlblkckglelbdaaGreat
namespace Go.Proofs.YtlblkckglelbdaaGreat
open Go.RowKit Gf2
set_option linter.unusedVariables false

-- layer 19: awake, names
set_option maxHeartbeats 4000000 in
set_option maxRecDepth 100000 in
/-- nothing is turned where there are no turns. -/
theorem turned_nil19 (v : Value) (w : World) : Calls Tryz.prog 22 #[.slice none 0 0, v] w fun e w' => e = .returned (.slice none 0 0) ∧ w' = w := by
  go_enter Tryz.func22, Tryz.ntmps22
  go_wp2
  go_loopw [5, 10] (fun l s wr => l = .slice none 0 0 ∧ s = .int .i64 0 ∧ wr = w) (fun _ _ _ => 0)
  case atStart => exact ⟨rfl, rfl, rfl⟩
  case round =>
    obtain ⟨rfl, rfl, hw⟩ := hrel
    have hw := hw.symm
    subst hw
    go_wp2
    go_ret
    exact ⟨rfl, rfl⟩
end Go.Proofs.YtlblkckglelbdaaGreat
namespace Go.Proofs.YtlblkckglelbdaaGreat
open Go.RowKit Gf2
set_option linter.unusedVariables false

-- layer 19: Derivative, inversesOf
/-- the tail with its odd places below i emptied. -/
def pdt (f : Nat → Nat) (i j : Nat) : Nat := if j % 2 = 1 ∧ j < i then 0 else f (1 + j)
theorem pdt_end {f : Nat → Nat} {n i : Nat} (df : Dg f (n + 1)) (hi : n ≤ i) (j : Nat) (hj : j < n) : pdt f i j = pd f j := by
  unfold pdt pd
  by_cases e : j % 2 = 1
  · rw [if_pos ⟨e, by omega⟩, if_neg (by omega)]
  · rw [if_neg (fun h => e h.1), if_pos (by omega), Nat.add_comm]
theorem pdt_step {f : Nat → Nat} {i j : Nat} (ho : i % 2 = 1) : (if j = i then 0 else pdt f i j) = pdt f (i + 2) j := by
  unfold pdt
  by_cases e : j = i
  · rw [if_pos e, if_pos ⟨by omega, by omega⟩]
  · rw [if_neg e]
    by_cases e2 : j % 2 = 1 ∧ j < i
    · rw [if_pos e2, if_pos ⟨e2.1, by omega⟩]
    · rw [if_neg e2, if_neg (fun h => e2 ⟨h.1, by omega⟩)]
theorem pd_el {f : Nat → Nat} (h : Gf2.El 8 f) : Gf2.El 8 (pd f) := fun i => by
  unfold pd
  split
  · exact h _
  · decide
theorem wrap2_19 {j : Nat} (h : j ≤ 100000) : wrap64 (((j : Nat) : Int) + 2) = ((j + 2 : Nat) : Int) := by unfold wrap64; omega
set_option maxHeartbeats 4000000 in
set_option maxRecDepth 100000 in
/-- Derivative, of a trimmed list of two or more. -/
theorem deriv8 (r t n : Nat) (v : Value) (f : Nat → Nat) (w : World) (hr : Rg8 w r t) (hf : Pl8 w v (n + 1) f) (h1 : 1 ≤ n) (hn : n ≤ 1000) :
    Calls Tryz.prog 84 #[.pointer (some ⟨r, 0, none⟩), v] w fun e w' => ∃ x m, e = .returned x ∧ m ≤ n ∧ Pl8 w' x m (pd f) ∧ Below w.heap.size w w' := by
  have c1 := lacking8 r t w hr
  have hrb := hf.rb
  obtain ⟨-, hF, a, c, rfl, hc1, hc2, h4⟩ := hrb
  obtain ⟨b, o, rfl, hbl, hc⟩ := h4 (by omega)
  have hs := run_from8 b o (n + 1) c 1 (by omega) hc1 (by omega)
  rw [show n + 1 - 1 = n by omega] at hs
  have hR : Rb w (.slice (some ⟨b, o + 1, none⟩) n (c - 1)) n (fun j => f (1 + j)) := ⟨by unfold big; omega, fun i hi => hF _ (by omega), _, _, rfl, by omega, by omega, fun _ => ⟨b, o + 1, rfl, hbl, fun i hi => by rw [Nat.add_assoc]; exact hc (1 + i) (by omega)⟩⟩
  have c2 := copied8 (.slice (some ⟨b, o + 1, none⟩) n (c - 1)) n (fun j => f (1 + j)) w hR (by omega)
  have nz : ¬ ((n + 1 : Nat) : Int) = 0 := by omega
  have cne : ¬ c = 1 := by omega
  have HF : Hid (Gf2.El 8 f ∧ Dg f (n + 1) ∧ 1 ≤ n ∧ n ≤ 1000) := ⟨hf.el, hf.dg, h1, hn⟩
  clear hf h4 hF hc hbl hR hr hc1 hc2
  go_enter Tryz.func84, Tryz.ntmps84
  go_wp2_with (first
    | (go_at_call 85; (with_reducible refine c1.mono ?_); rintro e w9 ⟨rfl, hw9⟩; have hw9 := hw9.symm; subst hw9; clear c1)
    | (go_at_call 94; (with_reducible refine c2.mono ?_); rintro e w2 ⟨rfl, r2, b2⟩; clear c2))
  obtain ⟨gg, hgg⟩ : ∃ gg, Hid (w.heap.size = gg) := ⟨_, rfl⟩
  rw [hgg.out] at r2 ⊢
  have HB : Hid (Below w.heap.size w w2 ∧ w.heap.size = gg) := ⟨b2, hgg.out⟩
  clear b2 hs nz
  go_loopw [6] (fun s wr => ∃ i : Nat, i % 2 = 1 ∧ i ≤ n + 2 ∧ s = .int .i64 (i : Int) ∧ Kp gg w2 wr ∧ Rw wr gg n (pdt f i)) (fun s _ => n + 2 - (intOf s).toNat)
  case atStart => exact ⟨1, rfl, by omega, rfl, Kp.refl _ _, r2.congr (fun j _ => (if_neg (fun h => by omega)).symm)⟩
  case round =>
    obtain ⟨i, ho, hi, rfl, hkp, hrw⟩ := hrel
    clear r2
    by_cases hlt : i < n
    · have q2 := hrw.2.2.cell hlt
      have q3 := hrw.2.2.frozen i
      have HC : Hid (i < n ∧ (i + 2) % 2 = 1 ∧ Kp gg w2 (wr.setCell ⟨gg, i, none⟩ (.int .u8 0)) ∧ Rw (wr.setCell ⟨gg, i, none⟩ (.int .u8 0)) gg n (pdt f (i + 2))) := ⟨hlt, by omega, hkp.setCell _ _, (hrw.set i 0 (by decide)).congr (fun j _ => pdt_step ho)⟩
      have ib : ((i : Nat) : Int) < (n : Int) := Int.ofNat_lt.2 hlt
      have W1 := wrap2_19 (j := i) (by have := HF.out; omega)
      clear hrw hkp hlt hi ho
      go_wp2
      go_roundw
      case rel => first | exact ⟨i + 2, HC.out.2.1, by have := HC.out.1; omega, by first | rfl | (rw [W1]), HC.out.2.2.1, HC.out.2.2.2⟩ | ((try rw [W1]); (repeat apply Exists.intro); exact ⟨⟨i + 2, HC.out.2.1, by have := HC.out.1; omega, rfl, HC.out.2.2.1, HC.out.2.2.2⟩, rfl⟩)
      case measure => simp [intOf]; (try rw [W1]); have := HC.out.1; omega
    · have ib : ¬ ((i : Nat) : Int) < (n : Int) := by omega
      have hrp : Rw wr gg n (pd f) := hrw.congr (fun j hj => pdt_end HF.out.2.1 (by omega) j hj)
      have bw : Below w.heap.size w wr := HB.out.1.trans (hkp.below (by have := HB.out; omega) HB.out.1.size)
      have c3 := trimmed8 (some ⟨gg, 0, none⟩) n n (pd f) wr hrp.rb0 (by have := HF.out; omega)
      have HG : Hid (Rw wr gg n (pd f) ∧ Below w.heap.size w wr) := ⟨hrp, bw⟩
      clear hrw hkp hlt hi hrp bw
      go_wp2_with (go_at_call 95; (with_reducible refine c3.mono ?_); rintro e w5 ⟨d, rfl, hz, q5, rfl⟩; clear c3)
      have HZ : Hid _ := hz
      clear hz
      go_ret
      exact ⟨_, d, rfl, HZ.out.le, pl8_of (HG.out.1.drewN q5) (pd_el HF.out.1) (pd_dg HF.out.2.1) HZ.out, below_drewN HG.out.2 q5⟩
/-- one number written out. -/
theorem lit1x_8 (W : World) {x : Nat} (hx : x < 256) (h0 : x ≠ 0) : Pl8 (W.alloc (.cells #[.int .u8 (x : Int)] 5)) (.slice (some ⟨W.heap.size, 0, none⟩) 1 1) 1 (mo x 0) := by
  have h : Rw (W.alloc (.cells #[.int .u8 (x : Int)] 5)) W.heap.size 1 (mo x 0) := ⟨by decide, fun i hi => by unfold mo; split <;> omega, _, heap_alloc_new _ _, rfl, fun i hi => by
    match i, hi with
    | 0, _ => rfl⟩
  refine ⟨h.rb0, fun i hi => ?_, fun i => ?_, .inr ?_⟩
  · unfold mo; rw [if_neg (by omega)]
  · unfold mo
    split
    · exact hx
    · decide
  · show mo x 0 0 ≠ 0
    unfold mo
    rw [if_pos rfl]
    exact h0
theorem inv_of19 {x : Nat} {Q M : Nat → Nat} (hx : x < 256) (h0 : x ≠ 0) (eQ : Gf2.El 8 Q) (dM : Dg M 0) (e : po = pa (pm 285 Q (mo x 0)) M) : Q 0 = fi 285 x := by
  have hM : M = pz := funext fun i => dM i (Nat.zero_le _)
  rw [hM, pa_pz] at e
  have h := congrFun e 0
  have h2 : pm 285 Q (mo x 0) 0 = fm 285 (Q 0) x := by
    show sx 1 _ = _
    simp [sx, mo]
  have h3 : po 0 = 1 := rfl
  rw [h2, h3] at h
  exact fld8.fi_unique hx h0 (eQ 0) (by rw [fm_comm]; exact h.symm)
end Go.Proofs.YtlblkckglelbdaaGreat
namespace Go.Proofs.YtlblkckglelbdaaGreat
open Go.RowKit Gf2
set_option linter.unusedVariables false

-- layer 19: inversesOf
theorem iv_a {w W : World} {r t x : Nat} (hr : Rg8 W r t) (hx : x < 256) (h0 : x ≠ 0) :
    Calls Tryz.prog 72 #[.pointer (some ⟨r, 0, none⟩), .slice (some ⟨W.heap.size, 0, none⟩) 1 1, .slice (some ⟨W.heap.size + 1, 0, none⟩) 1 1] ((W.alloc (.cells #[.int .u8 1] 5)).alloc (.cells #[.int .u8 (x : Int)] 5)) fun e W2 => ∃ g o c lq xm, e = .returned (.tuple #[.slice (some ⟨g, o, none⟩) (lq + 1) c, xm, .int .i64 0]) ∧ W2.cell? ⟨g, o, none⟩ = some (.int .u8 ((fi 285 x : Nat) : Int)) ∧ Below W.heap.size W W2 := by
  have s1 : (W.alloc (.cells #[.int .u8 1] 5)).heap.size = W.heap.size + 1 := by simp
  have b1 : Below W.heap.size W (W.alloc (.cells #[.int .u8 1] 5)) := (Below.refl _ _).alloc (Nat.le_refl _) _
  have l1 := lit1_8 W
  obtain ⟨X1, x1⟩ : ∃ X1, X1 = W.alloc (.cells #[.int .u8 1] 5) := ⟨_, rfl⟩
  rw [← x1] at s1 b1 l1 ⊢
  have l2 := lit1x_8 X1 hx h0
  have b2 : Below X1.heap.size X1 (X1.alloc (.cells #[.int .u8 (x : Int)] 5)) := (Below.refl _ _).alloc (Nat.le_refl _) _
  obtain ⟨X2, x2⟩ : ∃ X2, X2 = X1.alloc (.cells #[.int .u8 (x : Int)] 5) := ⟨_, rfl⟩
  rw [← x2] at l2 b2 ⊢
  rw [s1] at l2
  have b12 : Below W.heap.size W X2 := b1.trans (b2.mono b1.size)
  refine (divmod8 r t 1 1 _ _ po (mo x 0) X2 (hr.below b12) (l1.below b2) l2 (by decide) (by decide) (by decide)).mono ?_
  rintro e W2 ⟨xq, xm, rfl, hQ⟩
  obtain ⟨lq, lm, Q, M, pQ, pM, eb, dM, dQ, -, -⟩ := hQ.ex
  have hq : Q 0 = fi 285 x := inv_of19 hx h0 pQ.el dM eb
  have hne : Q 0 ≠ 0 := by rw [hq]; exact fld8.fi_ne hx h0
  have hl : lq ≠ 0 := fun e => hne (pQ.dg 0 (by omega))
  obtain ⟨-, -, a, c, rfl, -, -, h4⟩ := pQ.rb
  obtain ⟨g, o, rfl, -, hc⟩ := h4 (by omega)
  obtain ⟨l, rfl⟩ : ∃ l, lq = l + 1 := ⟨lq - 1, by omega⟩
  have := hc 0 (by omega)
  rw [hq] at this
  exact ⟨g, o, c, l, xm, rfl, this, b12.trans (hQ.bel.mono b12.size)⟩
set_option maxHeartbeats 4000000 in
set_option maxRecDepth 100000 in
theorem inverses19 (r t n : Nat) (v : Value) (F : Nat → Nat) (w : World) (hr : Rg8 w r t) (h : Rb w v n F) (hn : n ≤ 1000) (h0 : ∀ i, i < n → F i ≠ 0) :
    Calls Tryz.prog 54 #[.pointer (some ⟨r, 0, none⟩), v] w fun e w' => ∃ g, e = .returned (.slice (some ⟨g, 0, none⟩) n n) ∧ Rw w' g n (fun i => fi 285 (F i)) ∧ w.heap.size ≤ g ∧ Below w.heap.size w w' := by
  have hmk := make_u8 n (by omega)
  have r0 := made_rw n (by omega) w
  have b0 : Below w.heap.size w (w.alloc (.cells (madeCells #[.int .u8 0] n) 5)) := (Below.refl _ _).alloc (Nat.le_refl _) _
  obtain ⟨w3, hw3⟩ : ∃ w3, Hid (w.alloc (.cells (madeCells #[.int .u8 0] n) 5) = w3) := ⟨_, rfl⟩
  rw [hw3.out] at r0 b0
  have HH : Hid (Rg8 w r t ∧ Rb w v n F ∧ n ≤ 1000 ∧ (∀ i, i < n → F i ≠ 0) ∧ Below w.heap.size w w3) := ⟨hr, h, hn, h0, b0⟩
  obtain ⟨-, hF, a, cap, rfl, -, -, h4⟩ := h
  obtain ⟨gg, hgg⟩ : ∃ gg, Hid (w.heap.size = gg) := ⟨_, rfl⟩
  rw [hgg.out] at r0
  clear hr hn h0 b0
  go_enter Tryz.func54, Tryz.ntmps54
  go_wp2
  rw [hw3.out, hgg.out]
  clear hw3 hmk
  go_loopw [16] (fun s wr => ∃ i : Nat, i ≤ n ∧ s = .int .i64 (i : Int) ∧ Below w.heap.size w wr ∧ Rw wr gg n (fun j => if j < i then fi 285 (F j) else 0)) (fun s _ => n - (intOf s).toNat)
  case atStart => exact ⟨0, Nat.zero_le _, rfl, HH.out.2.2.2.2, r0.congr (fun j _ => (if_neg (Nat.not_lt_zero _)).symm)⟩
  case round =>
    obtain ⟨i, hi, rfl, hb, hrw⟩ := hrel
    clear r0
    by_cases hlt : i < n
    · obtain ⟨b, o, rfl, hbl, hc⟩ := h4 (by omega)
      have q1 : wr.cell? ⟨b, o + i, none⟩ = some (.int .u8 ((F i : Nat) : Int)) := (hb.cell (p := ⟨b, o + i, none⟩) hbl).trans (hc i hlt)
      have c5 := iv_a (w := w) (W := wr) (HH.out.1.below hb) (hF i hlt) (HH.out.2.2.2.1 i hlt)
      have HC : Hid (∀ W2, Below wr.heap.size wr W2 → i < n ∧ W2.cell? ⟨gg, i, none⟩ = some (.int .u8 0) ∧ Rw W2 gg n (fun j => if j < i then fi 285 (F j) else 0) ∧ Below w.heap.size w (W2.setCell ⟨gg, i, none⟩ (.int .u8 ((fi 285 (F i) : Nat) : Int))) ∧ Rw (W2.setCell ⟨gg, i, none⟩ (.int .u8 ((fi 285 (F i) : Nat) : Int))) gg n (fun j => if j < i + 1 then fi 285 (F j) else 0)) := fun W2 hW => by
        have r2 := hrw.of_block (hW.block _ hrw.lt)
        have bb := hb.trans (hW.mono hb.size)
        refine ⟨hlt, ?_, r2, bb.setCell (by show w.heap.size ≤ gg; have := hgg.out; omega) _, (r2.set i _ (fld8.fi_lt (hF i hlt) (HH.out.2.2.2.1 i hlt))).congr (fun j _ => ?_)⟩
        · have := r2.2.2.cell hlt
          simp only [Nat.lt_irrefl, if_false] at this
          exact this
        · by_cases e : j = i
          · rw [if_pos e, if_pos (by omega), e]
          · rw [if_neg e]
            by_cases e2 : j < i
            · rw [if_pos e2, if_pos (by omega)]
            · rw [if_neg e2, if_neg (by omega)]
      have ib : ((i : Nat) : Int) < (n : Int) := Int.ofNat_lt.2 hlt
      have W1 := wrap_lt8 (j := i) (b := n) hlt (by have := HH.out; omega)
      have HG : Hid (hgg = hgg) := rfl
      clear hrw hb hc hbl hlt hi HG
      go_wp2_with (go_at_call 72; (with_reducible refine c5.mono ?_); rintro e W2 ⟨g2, o2, k2, lq, xm, rfl, q5, hb2⟩; clear c5; obtain ⟨k1, k2', k3, k4, k5⟩ := HC.out W2 hb2; have q6 := k3.2.2.frozen i; have HE : Hid _ := And.intro k1 (And.intro k4 k5); clear HC k1 k3 k4 k5 hb2; have lq0 : (0 : Int) < ((lq + 1 : Nat) : Int) := by omega)
      go_roundw
      case rel => exact ⟨i + 1, HE.out.1, by first | rfl | (rw [W1]; rfl), HE.out.2.1, HE.out.2.2⟩
      case measure => first | exact meas_lt8 HE.out.1 | (rw [W1]; exact meas_lt8 HE.out.1)
    · obtain rfl : i = n := by omega
      have ib : ¬ ((i : Nat) : Int) < (i : Int) := by omega
      have HF : Hid (Rw wr gg i (fun j => fi 285 (F j)) ∧ w.heap.size ≤ gg ∧ Below w.heap.size w wr) := ⟨hrw.congr (fun j hj => if_pos hj), by have := hgg.out; omega, hb⟩
      clear hrw hb hlt hi h4
      go_wp2
      go_ret
      exact ⟨gg, rfl, HF.out⟩
end Go.Proofs.YtlblkckglelbdaaGreat
namespace Go.Proofs.YtlblkckglelbdaaGreat
open Go.RowKit Gf2
set_option linter.unusedVariables false

-- layer 19: scalesOf
/-- a shard's scale. -/
def sc19 (f k i : Nat) : Nat := if f = 0 then 1 else if i < k then pe 285 i k (pd (pv 285 (fun j => j) k)) else pe 285 i (k + 1) (pv 285 (fun j => j) k)
theorem sc19_lt (f k i : Nat) : sc19 f k i < 256 := by
  unfold sc19
  split
  · decide
  · split
    · exact fld8.pe_lt _ _ _
    · exact fld8.pe_lt _ _ _
theorem sc_a {W : World} {r t gn n k : Nat} (hr : Rg8 W r t) (hN : Rw W gn n (fun i => i)) (h1 : 1 ≤ k) (hk : k ≤ n) (hn : n ≤ 256) :
    Calls Tryz.prog 68 #[.pointer (some ⟨r, 0, none⟩), .slice (some ⟨gn, 0, none⟩) k n] W fun e W2 => ∃ gv, e = .returned (.tuple #[.slice (some ⟨gv, 0, none⟩) (k + 1) (k + 1), .int .i64 0]) ∧
    Calls Tryz.prog 84 #[.pointer (some ⟨r, 0, none⟩), .slice (some ⟨gv, 0, none⟩) (k + 1) (k + 1)] W2 fun e W3 => ∃ x ms, e = .returned x ∧ Below W.heap.size W W3 ∧ Pl8 W3 (.slice (some ⟨gv, 0, none⟩) (k + 1) (k + 1)) (k + 1) (pv 285 (fun i => i) k) ∧ Pl8 W3 x ms (pd (pv 285 (fun i => i) k)) ∧ ms ≤ k := by
  have hb : Rb W (.slice (some ⟨gn, 0, none⟩) k n) k (fun i => i) := hN.rb0.cut8 hk
  refine (vanish8 r t k _ (fun i => i) W hr hb (by omega)).mono ?_
  rintro e W2 ⟨gv, rfl, rv, lgv, b2⟩
  have pV : Pl8 W2 (.slice (some ⟨gv, 0, none⟩) (k + 1) (k + 1)) (k + 1) (pv 285 (fun i => i) k) := ⟨rv.rb0, fld8.pv_dg _ k, fld8.el_pv _ k, .inr (by rw [Nat.add_sub_cancel, fld8.pv_top]; decide)⟩
  refine ⟨gv, rfl, (deriv8 r t k _ _ W2 (hr.below b2) pV h1 (by omega)).mono ?_⟩
  rintro e W3 ⟨x, ms, rfl, hms, hx, b3⟩
  exact ⟨x, ms, rfl, b2.trans (b3.mono b2.size), pV.below b3, hx, hms⟩
theorem upd_19 {V : Nat → Nat} {i j : Nat} : (if j = i then V i else if j < i then V j else 0) = if j < i + 1 then V j else 0 := by
  by_cases e : j = i
  · rw [if_pos e, if_pos (by omega), e]
  · rw [if_neg e]
    by_cases e2 : j < i
    · rw [if_pos e2, if_pos (by omega)]
    · rw [if_neg e2, if_neg (by omega)]
set_option maxHeartbeats 8000000 in
set_option maxRecDepth 100000 in
theorem scales19 (r t f k m n : Nat) (w : World) (hr : Rg8 w r t) (h1 : 1 ≤ k) (hnk : n = k + m) (hn : n ≤ 256) :
    Calls Tryz.prog 53 #[.pointer (some ⟨r, 0, none⟩), .int .i64 (f : Int), .int .i64 (k : Int), .int .i64 (m : Int)] w fun e w' => ∃ g, e = .returned (.slice (some ⟨g, 0, none⟩) n n) ∧ Rw w' g n (sc19 f k) ∧ w.heap.size ≤ g ∧ Below w.heap.size w w' := by
  have hmk := make_u8 n (by omega)
  have r0 := made_rw n (by omega) w
  have b0 : Below w.heap.size w (w.alloc (.cells (madeCells #[.int .u8 0] n) 5)) := (Below.refl _ _).alloc (Nat.le_refl _) _
  obtain ⟨w3, hw3⟩ : ∃ w3, Hid (w.alloc (.cells (madeCells #[.int .u8 0] n) 5) = w3) := ⟨_, rfl⟩
  rw [hw3.out] at r0 b0
  have Wn : wrap64 (((k : Nat) : Int) + ((m : Nat) : Int)) = ((n : Nat) : Int) := by unfold wrap64; omega
  have HH : Hid (Rg8 w r t ∧ 1 ≤ k ∧ k ≤ n ∧ n ≤ 256 ∧ Below w.heap.size w w3) := ⟨hr, h1, by omega, hn, b0⟩
  obtain ⟨gn, hgn⟩ : ∃ gn, Hid (w.heap.size = gn) := ⟨_, rfl⟩
  rw [hgn.out] at r0
  clear hr h1 hn b0 hnk
  go_enter Tryz.func53, Tryz.ntmps53
  go_wp2
  rw [hw3.out, hgn.out]
  clear hw3
  go_loopw [23] (fun s wr => ∃ i : Nat, i ≤ n ∧ s = .int .i64 (i : Int) ∧ Kp gn w3 wr ∧ Rw wr gn n (fun j => if j < i then j else 0)) (fun s _ => n - (intOf s).toNat)
  case atStart => exact ⟨0, Nat.zero_le _, rfl, Kp.refl _ _, r0.congr (fun j _ => (if_neg (Nat.not_lt_zero _)).symm)⟩
  case round =>
    obtain ⟨i, hi, rfl, hkp, hrw⟩ := hrel
    clear r0
    by_cases hlt : i < n
    · have q2 := hrw.2.2.cell hlt
      have q3 := hrw.2.2.frozen i
      have U8 : IntKind.u8.wrap ((i : Nat) : Int) = ((i : Nat) : Int) := u8s19 (by have := HH.out; omega)
      have HC : Hid (i < n ∧ Kp gn w3 (wr.setCell ⟨gn, i, none⟩ (.int .u8 (i : Nat))) ∧ Rw (wr.setCell ⟨gn, i, none⟩ (.int .u8 (i : Nat))) gn n (fun j => if j < i + 1 then j else 0)) := ⟨hlt, hkp.setCell _ _, (hrw.set i i (by have := HH.out; omega)).congr (fun j _ => upd_19 (V := fun j => j))⟩
      have ib : ((i : Nat) : Int) < (n : Int) := Int.ofNat_lt.2 hlt
      have W1 := wrap_lt8 (j := i) (b := n) hlt (by have := HH.out; omega)
      clear hrw hkp hlt hi
      go_wp2
      go_roundw
      case rel => first | exact ⟨i + 1, HC.out.1, by first | rfl | (rw [W1]; rfl), HC.out.2.1, HC.out.2.2⟩ | ((try rw [W1]); (repeat apply Exists.intro); exact ⟨⟨i + 1, HC.out.1, rfl, HC.out.2.1, HC.out.2.2⟩, rfl⟩)
      case measure => first | exact meas_lt8 HC.out.1 | (rw [W1]; exact meas_lt8 HC.out.1)
    · have hin : i = n := by omega
      have ib : ¬ ((i : Nat) : Int) < (n : Int) := by omega
      have hN : Rw wr gn n (fun j => j) := hrw.congr (fun j hj => if_pos (by omega))
      have bw : Below w.heap.size w wr := HH.out.2.2.2.2.trans (hkp.below (by have := hgn.out; omega) HH.out.2.2.2.2.size)
      have c1 := sc_a (HH.out.1.below bw) hN HH.out.2.1 HH.out.2.2.1 HH.out.2.2.2.1
      have hs := run_head8 gn n n k HH.out.2.2.1
      have HW : Hid (Below w.heap.size w wr ∧ Rw wr gn n (fun j => j)) := ⟨bw, hN⟩
      clear hrw hkp hlt hi hN bw hin
      go_upto_region 10 with (first
        | (go_at_call 68; (with_reducible refine c1.mono ?_); rintro e W2 ⟨gv, rfl, c2⟩; clear c1)
        | (go_at_call 84; (with_reducible refine c2.mono ?_); rintro e W3 ⟨x, ms, rfl, b3, pV, pS, hms⟩; clear c2))
      have r4 := made_rw n (by have := HH.out; omega) W3
      have b4 : Below W3.heap.size W3 (W3.alloc (.cells (madeCells #[.int .u8 0] n) 5)) := (Below.refl _ _).alloc (Nat.le_refl _) _
      obtain ⟨W4, hW4⟩ : ∃ W4, Hid (W3.alloc (.cells (madeCells #[.int .u8 0] n) 5) = W4) := ⟨_, rfl⟩
      rw [hW4.out] at r4 b4
      rw [hW4.out]
      obtain ⟨gs, hgs⟩ : ∃ gs, Hid (W3.heap.size = gs) := ⟨_, rfl⟩
      rw [hgs.out] at r4
      rw [hgs.out]
      have bw3 : Below w.heap.size w W3 := HW.out.1.trans (b3.mono HW.out.1.size)
      have hN3 : Rw W3 gn n (fun j => j) := HW.out.2.of_block (b3.block _ HW.out.2.lt)
      have HP : Hid (Below w.heap.size w W3 ∧ Rw W3 gn n (fun j => j) ∧ Pl8 W3 (.slice (some ⟨gv, 0, none⟩) (k + 1) (k + 1)) (k + 1) (pv 285 (fun i => i) k) ∧ Pl8 W3 x ms (pd (pv 285 (fun i => i) k)) ∧ ms ≤ k ∧ Below W3.heap.size W3 W4 ∧ W3.heap.size = gs) := ⟨bw3, hN3, pV, pS, hms, b4, hgs.out⟩
      clear b3 pV pS hms bw3 hN3 hW4 hgs b4 HW hs hmk Wn
      go_wp2
      go_loopw [49] (fun s wr => ∃ i : Nat, i ≤ n ∧ s = .int .i64 (i : Int) ∧ Below W3.heap.size W3 wr ∧ Rw wr gs n (fun j => if j < i then sc19 f k j else 0)) (fun s _ => n - (intOf s).toNat)
      case atStart => exact ⟨0, Nat.zero_le _, rfl, HP.out.2.2.2.2.2.1, r4.congr (fun j _ => (if_neg (Nat.not_lt_zero _)).symm)⟩
      case round =>
        obtain ⟨i, hi, rfl, hb, hrw⟩ := hrel
        clear r4
        by_cases hlt : i < n
        · have hNi := HP.out.2.1.of_block (hb.block _ HP.out.2.1.lt)
          have q1 := hNi.2.2.cell hlt
          have q2 := hrw.2.2.cell hlt
          have q3 := hrw.2.2.frozen i
          have HC : Hid (∀ q, i < n ∧ Below W3.heap.size W3 ((wr.drewN q).setCell ⟨gs, i, none⟩ (.int .u8 (sc19 f k i : Nat))) ∧ Rw ((wr.drewN q).setCell ⟨gs, i, none⟩ (.int .u8 (sc19 f k i : Nat))) gs n (fun j => if j < i + 1 then sc19 f k j else 0)) := fun q => ⟨hlt, (below_drewN hb q).setCell (by show W3.heap.size ≤ gs; have := HP.out; omega) _, ((hrw.drewN q).set i _ (sc19_lt f k i)).congr (fun j _ => upd_19 (V := fun j => sc19 f k j))⟩
          have ib : ((i : Nat) : Int) < (n : Int) := Int.ofNat_lt.2 hlt
          have W1 := wrap_lt8 (j := i) (b := n) hlt (by have := HH.out; omega)
          by_cases hf : f = 0
          · subst hf
            have e1 : sc19 0 k i = 1 := if_pos rfl
            rw [e1] at HC
            have HE : Hid _ := HC.out 0
            clear hrw hb hNi hlt hi HC
            go_wp2
            go_roundw
            case rel => first | exact ⟨i + 1, HE.out.1, by first | rfl | (rw [W1]; rfl), HE.out.2.1, HE.out.2.2⟩ | ((try rw [W1]); (repeat apply Exists.intro); exact ⟨⟨i + 1, HE.out.1, rfl, HE.out.2.1, HE.out.2.2⟩, rfl⟩)
            case measure => first | exact meas_lt8 HE.out.1 | (rw [W1]; exact meas_lt8 HE.out.1)
          · have f0 : ¬ ((f : Nat) : Int) = 0 := by omega
            by_cases hik : i < k
            · have hikI : ((i : Nat) : Int) < (k : Int) := by omega
              have e1 : pe 285 i ms (pd (pv 285 (fun i => i) k)) = sc19 f k i := by
                unfold sc19
                rw [if_neg hf, if_pos hik]
                exact fld8.pe_any i HP.out.2.2.2.1.dg ((HP.out.2.2.2.1.dg).mono HP.out.2.2.2.2.1)
              have c5 := eval8 r t i ms x _ wr ((HH.out.1.below HP.out.1).below hb) (HP.out.2.2.2.1.below hb).rb (by have := HP.out; have := HH.out; omega) (by have := HH.out; omega)
              rw [e1] at c5
              generalize sc19 f k i = y at c5 HC
              clear hrw hb hNi hlt hi e1
              go_wp2_with (go_at_call 57; (with_reducible refine c5.mono ?_); rintro e w9 ⟨rfl, q, rfl⟩; clear c5; have HD := HC.out q)
              have HE : Hid _ := HD
              clear HD
              go_roundw
              case rel => first | exact ⟨i + 1, HE.out.1, by first | rfl | (rw [W1]; rfl), HE.out.2.1, HE.out.2.2⟩ | ((try rw [W1]); (repeat apply Exists.intro); exact ⟨⟨i + 1, HE.out.1, rfl, HE.out.2.1, HE.out.2.2⟩, rfl⟩)
              case measure => first | exact meas_lt8 HE.out.1 | (rw [W1]; exact meas_lt8 HE.out.1)
            · have hikI : ¬ ((i : Nat) : Int) < (k : Int) := by omega
              have e1 : pe 285 i (k + 1) (pv 285 (fun i => i) k) = sc19 f k i := by
                unfold sc19
                rw [if_neg hf, if_neg hik]
              have c5 := eval8 r t i (k + 1) (.slice (some ⟨gv, 0, none⟩) (k + 1) (k + 1)) _ wr ((HH.out.1.below HP.out.1).below hb) (HP.out.2.2.1.below hb).rb (by have := HH.out; omega) (by have := HH.out; omega)
              rw [e1] at c5
              generalize sc19 f k i = y at c5 HC
              clear hrw hb hNi hlt hi e1
              go_wp2_with (go_at_call 57; (with_reducible refine c5.mono ?_); rintro e w9 ⟨rfl, q, rfl⟩; clear c5; have HD := HC.out q)
              have HE : Hid _ := HD
              clear HD
              go_roundw
              case rel => first | exact ⟨i + 1, HE.out.1, by first | rfl | (rw [W1]; rfl), HE.out.2.1, HE.out.2.2⟩ | ((try rw [W1]); (repeat apply Exists.intro); exact ⟨⟨i + 1, HE.out.1, rfl, HE.out.2.1, HE.out.2.2⟩, rfl⟩)
              case measure => first | exact meas_lt8 HE.out.1 | (rw [W1]; exact meas_lt8 HE.out.1)
        · have ib : ¬ ((i : Nat) : Int) < (n : Int) := by omega
          have HF : Hid (Rw wr gs n (sc19 f k) ∧ w.heap.size ≤ gs ∧ Below w.heap.size w wr) := ⟨hrw.congr (fun j hj => if_pos (by omega)), by have := HP.out.1.size; have := HP.out; omega, HP.out.1.trans (hb.mono HP.out.1.size)⟩
          clear hrw hb hlt hi
          go_wp2
          go_ret
          exact ⟨gs, rfl, HF.out⟩
end Go.Proofs.YtlblkckglelbdaaGreat
namespace Go.Proofs.YtlblkckglelbdaaGreat
open Go.RowKit Gf2
set_option linter.unusedVariables false

-- layer 19: a survey in memory, times
/-- the parts of a survey that stay: blocks S (the survey), g (the decoder), r, t (the ring), gsc, gbk (scales and their inverses), gt (the list of turns). -/
structure Sv19 (W : World) (S g r t gp gv gsc gbk gt f k n np nm L : Nat) (vP vM : Value) (p q : Nat → Nat) : Prop where
  blk : W.heap[S]? = some (.cells #[.pointer (some ⟨g, 0, none⟩), vP, vM, .slice (some ⟨gsc, 0, none⟩) n n, .slice (some ⟨gbk, 0, none⟩) n n, .int .i64 (L : Int), .slice (some ⟨gt, 0, none⟩) n n] 73 (0, 0))
  de : De19 W g k np p r t gp gv
  pres : Qi W vP np (fun i => ((p i : Nat) : Int))
  miss : Qi W vM nm (fun i => ((q i : Nat) : Int))
  sc : Rw W gsc n (sc19 f k)
  bk : Rw W gbk n (fun i => fi 285 (sc19 f k i))
theorem Sv19.below {W W' : World} {S g r t gp gv gsc gbk gt f k n np nm L : Nat} {vP vM : Value} {p q : Nat → Nat} (h : Sv19 W S g r t gp gv gsc gbk gt f k n np nm L vP vM p q) (hb : Below W.heap.size W W') : Sv19 W' S g r t gp gv gsc gbk gt f k n np nm L vP vM p q :=
  ⟨(hb.block S (Array.getElem?_eq_some_iff.1 h.blk).1).trans h.blk, h.de.below hb, h.pres.below hb, h.miss.below hb, h.sc.of_block (hb.block _ h.sc.lt), h.bk.of_block (hb.block _ h.bk.lt)⟩
theorem Sv19.c0 {W : World} {S g r t gp gv gsc gbk gt f k n np nm L : Nat} {vP vM : Value} {p q : Nat → Nat} (h : Sv19 W S g r t gp gv gsc gbk gt f k n np nm L vP vM p q) : W.cell? ⟨S, 0, none⟩ = some (.pointer (some ⟨g, 0, none⟩)) := by rw [cell_of_row _ _ 0 _ _ _ h.blk]; rfl
theorem Sv19.c1 {W : World} {S g r t gp gv gsc gbk gt f k n np nm L : Nat} {vP vM : Value} {p q : Nat → Nat} (h : Sv19 W S g r t gp gv gsc gbk gt f k n np nm L vP vM p q) : W.cell? ⟨S, 1, none⟩ = some vP := by rw [cell_of_row _ _ 1 _ _ _ h.blk]; rfl
theorem Sv19.c2 {W : World} {S g r t gp gv gsc gbk gt f k n np nm L : Nat} {vP vM : Value} {p q : Nat → Nat} (h : Sv19 W S g r t gp gv gsc gbk gt f k n np nm L vP vM p q) : W.cell? ⟨S, 2, none⟩ = some vM := by rw [cell_of_row _ _ 2 _ _ _ h.blk]; rfl
theorem Sv19.c3 {W : World} {S g r t gp gv gsc gbk gt f k n np nm L : Nat} {vP vM : Value} {p q : Nat → Nat} (h : Sv19 W S g r t gp gv gsc gbk gt f k n np nm L vP vM p q) : W.cell? ⟨S, 3, none⟩ = some (.slice (some ⟨gsc, 0, none⟩) n n) := by rw [cell_of_row _ _ 3 _ _ _ h.blk]; rfl
theorem Sv19.c4 {W : World} {S g r t gp gv gsc gbk gt f k n np nm L : Nat} {vP vM : Value} {p q : Nat → Nat} (h : Sv19 W S g r t gp gv gsc gbk gt f k n np nm L vP vM p q) : W.cell? ⟨S, 4, none⟩ = some (.slice (some ⟨gbk, 0, none⟩) n n) := by rw [cell_of_row _ _ 4 _ _ _ h.blk]; rfl
theorem Sv19.c5 {W : World} {S g r t gp gv gsc gbk gt f k n np nm L : Nat} {vP vM : Value} {p q : Nat → Nat} (h : Sv19 W S g r t gp gv gsc gbk gt f k n np nm L vP vM p q) : W.cell? ⟨S, 5, none⟩ = some (.int .i64 (L : Int)) := by rw [cell_of_row _ _ 5 _ _ _ h.blk]; rfl
theorem Sv19.c6 {W : World} {S g r t gp gv gsc gbk gt f k n np nm L : Nat} {vP vM : Value} {p q : Nat → Nat} (h : Sv19 W S g r t gp gv gsc gbk gt f k n np nm L vP vM p q) : W.cell? ⟨S, 6, none⟩ = some (.slice (some ⟨gt, 0, none⟩) n n) := by rw [cell_of_row _ _ 6 _ _ _ h.blk]; rfl
theorem ax_val19 {a b : Nat} (ha : a < 256) (hb : b < 256) : pe 285 b 2 (fun i => [0, a].getD i 0) = fm 285 a b := by
  show sx 2 _ = _
  have h1 : fp 285 b 1 = b := fld8.fp_one hb
  simp [sx, fld8.zero_fm, h1]
set_option maxHeartbeats 4000000 in
set_option maxRecDepth 100000 in
theorem times19 (S g r t a b : Nat) (w : World) (h0 : w.cell? ⟨S, 0, none⟩ = some (.pointer (some ⟨g, 0, none⟩))) (h1 : w.cell? ⟨g, 0, none⟩ = some (.pointer (some ⟨r, 0, none⟩))) (hr : Rg8 w r t) (ha : a < 256) (hb : b < 256) :
    Calls Tryz.prog 55 #[.pointer (some ⟨S, 0, none⟩), .int .u8 (a : Int), .int .u8 (b : Int)] w fun e w' => e = .returned (.int .u8 (fm 285 a b : Nat)) ∧ Below w.heap.size w w' := by
  have l1 := lit_rw [0, a] w (by intro x hx; simp at hx; omega) (by simp)
  have b1 : Below w.heap.size w (w.alloc (.cells #[.int .u8 0, .int .u8 (a : Int)] 5)) := (Below.refl _ _).alloc (Nat.le_refl _) _
  have c1 : Calls Tryz.prog 57 #[.pointer (some ⟨r, 0, none⟩), .slice (some ⟨w.heap.size, 0, none⟩) 2 2, .int .u8 (b : Int)] (w.alloc (.cells #[.int .u8 0, .int .u8 (a : Int)] 5)) fun e w' => e = .returned (.int .u8 (fm 285 a b : Nat)) ∧ ∃ q, w' = (w.alloc (.cells #[.int .u8 0, .int .u8 (a : Int)] 5)).drewN q := by
    have := eval8 r t b 2 (.slice (some ⟨w.heap.size, 0, none⟩) 2 2) (fun i => [0, a].getD i 0) (w.alloc (.cells #[.int .u8 0, .int .u8 (a : Int)] 5)) (hr.below b1) l1.rb0 (by decide) hb
    rw [ax_val19 ha hb] at this
    exact this
  have HB : Hid (∀ q, Below w.heap.size w ((w.alloc (.cells #[.int .u8 0, .int .u8 (a : Int)] 5)).drewN q)) := fun q => below_drewN b1 q
  clear l1 b1 hr ha hb
  go_enter Tryz.func55, Tryz.ntmps55
  go_wp2_with (go_at_call 57; (with_reducible refine c1.mono ?_); rintro e w9 ⟨rfl, q, rfl⟩; clear c1)
  go_ret
  exact ⟨rfl, HB.out _⟩
end Go.Proofs.YtlblkckglelbdaaGreat
namespace Go.Proofs.YtlblkckglelbdaaGreat
open Go.RowKit Gf2
set_option linter.unusedVariables false

-- layer 19: turn
/-- the turns that were noted so far: the list in block gt; a row for each shard that has one, at or above lo. -/
structure Tn19 (W : World) (gt n L lo : Nat) (tb : Nat → Bool) (B : Nat → Nat) (T : Nat → Nat → Nat) : Prop where
  row : W.rowIs gt 27 n (fun j => if tb j then .slice (some ⟨B j, 0, none⟩) L L else .slice none 0 0)
  rows : ∀ j, j < n → tb j = true → lo ≤ B j ∧ Rw W (B j) L (T j)
  inj : ∀ i j, i < n → j < n → tb i = true → tb j = true → i ≠ j → B i ≠ B j
  lt : gt < lo
  sz : lo ≤ W.heap.size
theorem Tn19.below {W W' : World} {gt n L lo : Nat} {tb : Nat → Bool} {B : Nat → Nat} {T : Nat → Nat → Nat} (h : Tn19 W gt n L lo tb B T) (hb : Below W.heap.size W W') : Tn19 W' gt n L lo tb B T :=
  ⟨h.row.of_block (hb.block _ h.row.lt), fun j hj e => ⟨(h.rows j hj e).1, (h.rows j hj e).2.of_block (hb.block _ (h.rows j hj e).2.lt)⟩, h.inj, h.lt, Nat.le_trans h.sz hb.size⟩
/-- a row of noughts for shard i. -/
theorem Tn19.make {W : World} {gt n L lo i : Nat} {tb : Nat → Bool} {B : Nat → Nat} {T : Nat → Nat → Nat} (h : Tn19 W gt n L lo tb B T) (hi : i < n) (h0 : tb i = false) (hL : L ≤ 140737488351232) :
    Tn19 ((W.alloc (.cells (madeCells #[.int .u8 0] L) 5)).setCell ⟨gt, i, none⟩ (.slice (some ⟨W.heap.size, 0, none⟩) L L)) gt n L lo (fun j => if j = i then true else tb j) (fun j => if j = i then W.heap.size else B j) (fun j => if j = i then (fun _ => 0) else T j) := by
  have r0 := made_rw L (by omega) W
  have b0 : Below W.heap.size W (W.alloc (.cells (madeCells #[.int .u8 0] L) 5)) := (Below.refl _ _).alloc (Nat.le_refl _) _
  obtain ⟨X, hX⟩ : ∃ X, X = W.alloc (.cells (madeCells #[.int .u8 0] L) 5) := ⟨_, rfl⟩
  rw [← hX] at r0 b0 ⊢
  have h1 := h.below b0
  have kp : Kp gt X (X.setCell ⟨gt, i, none⟩ (.slice (some ⟨W.heap.size, 0, none⟩) L L)) := (Kp.refl _ _).setCell _ _
  have hlt : gt < W.heap.size := h.row.lt
  refine ⟨(h1.row.set i _).congr (fun j hj => ?_), fun j hj e => ?_, fun a b ha hb ea eb hab => ?_, h.lt, Nat.le_trans h1.sz kp.size⟩
  · by_cases e : j = i
    · rw [if_pos e]
      simp [e]
    · rw [if_neg e]
      simp [e]
  · by_cases e2 : j = i
    · simp only [if_pos e2]
      exact ⟨h.sz, kp.rw_ r0 (by omega)⟩
    · simp only [if_neg e2] at e ⊢
      have := h1.rows j hj e
      exact ⟨this.1, kp.rw_ this.2 (by have := h.lt; omega)⟩
  · by_cases e1 : a = i
    · have e2 : b ≠ i := fun e => hab (by rw [e1, e])
      simp only [if_pos e1, if_neg e2] at eb ⊢
      have := (h.rows b hb eb).2.lt
      omega
    · by_cases e2 : b = i
      · simp only [if_neg e1, if_pos e2] at ea ⊢
        have := (h.rows a ha ea).2.lt
        omega
      · simp only [if_neg e1, if_neg e2] at ea eb ⊢
        exact h.inj a b ha hb ea eb hab
/-- one byte of a row is written. -/
theorem Tn19.put {W : World} {gt n L lo i y x : Nat} {tb : Nat → Bool} {B : Nat → Nat} {T : Nat → Nat → Nat} (h : Tn19 W gt n L lo tb B T) (hi : i < n) (h1 : tb i = true) (hx : x < 256) :
    Tn19 (W.setCell ⟨B i, y, none⟩ (.int .u8 (x : Nat))) gt n L lo tb B (fun j => if j = i then (fun z => if z = y then x else T i z) else T j) := by
  have kp : Kp (B i) W (W.setCell ⟨B i, y, none⟩ (.int .u8 (x : Nat))) := (Kp.refl _ _).setCell _ _
  have hB := h.rows i hi h1
  refine ⟨h.row.of_block (kp.2 _ h.row.lt (by have := h.lt; omega)), fun j hj e => ?_, h.inj, h.lt, Nat.le_trans h.sz kp.size⟩
  by_cases e2 : j = i
  · subst e2
    simp only [if_true]
    exact ⟨hB.1, hB.2.set y x hx⟩
  · simp only [if_neg e2]
    have := h.rows j hj e
    exact ⟨this.1, kp.rw_ this.2 (h.inj j i hj hi e h1 e2)⟩
end Go.Proofs.YtlblkckglelbdaaGreat
