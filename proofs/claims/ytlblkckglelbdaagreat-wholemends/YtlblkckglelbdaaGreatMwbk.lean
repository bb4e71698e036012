import Derived.Test.YtlblkckglelbdaaGreatMwbh
import Derived.Test.YtlblkckglelbdaaGreatMwbj
import Derived.Test.YtlblkckglelbdaaGreatMwbd
import Derived.Test.YtlblkckglelbdaaGreatMwal
import Derived.Test.YtlblkckglelbdaaGreatMwbi
import Derived.Test.YtlblkckglelbdaaGreatMwba
import Derived.Test.YtlblkckglelbdaaGreatMwbf
import Derived.Test.YtlblkckglelbdaaGreatMwak
namespace Go.Proofs.YtlblkckglelbdaaGreat
open Go.RowKit Gf2
set_option linter.unusedVariables false

-- layer 19: numbers that are named, and Partial's answer
theorem ems_cnb19 (P : Nat → Bool) : ∀ n, (ems P n).length = cnb P n
  | 0 => rfl
  | n + 1 => by
    have ih := ems_cnb19 P n
    cases h : P n with
    | true => rw [ems_len_yes h, cnb_yes h, ih]
    | false => rw [ems_no h, cnb_no h, ih]
theorem emz_fsel19 (P : Nat → Bool) : ∀ n i, i < cnb P n → emz P n i = fsel P (fun j => j) n i
  | 0, i, h => absurd h (Nat.not_lt_zero _)
  | n + 1, i, h => by
    have ih := emz_fsel19 P n i
    cases hp : P n with
    | true =>
      rw [← emz_step hp i (by rw [ems_cnb19]; exact h), fsel_yes hp, ems_cnb19]
      show (if i < cnb P n then emz P n i else (n : Int)) = (if i < cnb P n then fsel P (fun j => j) n i else ((n : Nat) : Int))
      by_cases e : i < cnb P n
      · rw [if_pos e, if_pos e, ih e]
      · rw [if_neg e, if_neg e]
    | false =>
      rw [fsel_no hp]
      rw [cnb_no hp] at h
      have e : emz P (n + 1) i = emz P n i := by unfold emz; rw [ems_no hp]
      rw [e, ih h]
theorem emz_pk19 {P : Nat → Bool} {n i : Nat} (h : i < cnb P n) : emz P n i = ((pk19 P n i : Nat) : Int) := by
  rw [emz_fsel19 P n i h, (pk19_get h).2.2.2]
theorem cnb_not19 (P : Nat → Bool) : ∀ n, cnb P n + cnb (fun x => !P x) n = n
  | 0 => rfl
  | n + 1 => by
    have ih := cnb_not19 P n
    cases h : P n with
    | true => rw [cnb_yes h, cnb_no (P := fun x => !P x) (by rw [h]; rfl)]; omega
    | false => rw [cnb_no h, cnb_yes (P := fun x => !P x) (by rw [h]; rfl)]; omega
theorem cnb_le19 (P : Nat → Bool) (n : Nat) : cnb P n ≤ n := by have := cnb_not19 P n; omega
theorem pk19_step {P : Nat → Bool} {n i : Nat} (h : i < cnb P n) : pk19 P (n + 1) i = pk19 P n i := by
  unfold pk19
  cases hp : P n with
  | true => rw [fsel_yes hp]; show (if i < cnb P n then _ else _ : Int).toNat = _; rw [if_pos h]
  | false => rw [fsel_no hp]
theorem pk19_last {P : Nat → Bool} {n : Nat} (hp : P n = true) : pk19 P (n + 1) (cnb P n) = n := by
  unfold pk19
  rw [fsel_yes hp]
  show (if cnb P n < cnb P n then _ else ((n : Nat) : Int)).toNat = n
  rw [if_neg (Nat.lt_irrefl _)]
  rfl
/-- to count among those that are named. -/
theorem cnb_pk19 (P Q : Nat → Bool) : ∀ n, cnb (fun i => Q (pk19 P n i)) (cnb P n) = cnb (fun x => P x && Q x) n
  | 0 => rfl
  | n + 1 => by
    have ih := cnb_pk19 P Q n
    cases hp : P n with
    | true =>
      rw [cnb_yes hp]
      show cnb (fun i => Q (pk19 P (n + 1) i)) (cnb P n) + (if Q (pk19 P (n + 1) (cnb P n)) then 1 else 0) = cnb (fun x => P x && Q x) n + (if P n && Q n then 1 else 0)
      rw [pk19_last hp, cnb_congr (n := cnb P n) (P' := fun i => Q (pk19 P n i)) (fun i hi => by show Q _ = Q _; rw [pk19_step hi]), ih, hp, Bool.true_and]
    | false =>
      rw [cnb_no hp, cnb_no (P := fun x => P x && Q x) (by rw [hp]; rfl), ← ih]
      exact cnb_congr (fun i hi => by show Q _ = Q _; rw [pk19_step hi])
/-- which shards are there. -/
def pre19 (n : Nat) (ln : Nat → Nat) (x : Nat) : Bool := decide (x < n) && decide (ln x ≠ 0)
theorem pre19_iff {n : Nat} {ln : Nat → Nat} {x : Nat} : pre19 n ln x = true ↔ x < n ∧ ln x ≠ 0 := by unfold pre19; simp
theorem pre_emp19 (n : Nat) (ln : Nat → Nat) : cnb (pre19 n ln) n + cnb (emp ln) n = n := by
  rw [← cnb_congr (P := fun x => !(emp ln x)) (P' := pre19 n ln) (n := n) (fun x hx => by
    cases h : pre19 n ln x with
    | true =>
      have := (pre19_iff.1 h).2
      show (!(ln x == 0)) = true
      simpa using this
    | false =>
      have h2 : ¬ (x < n ∧ ln x ≠ 0) := fun h9 => by rw [pre19_iff.2 h9] at h; cases h
      have h3 : ln x = 0 := by omega
      show (!(ln x == 0)) = false
      simp [h3])]
  have := cnb_not19 (emp ln) n
  omega
end Go.Proofs.YtlblkckglelbdaaGreat
namespace Go.Proofs.YtlblkckglelbdaaGreat
open Go.RowKit Gf2
set_option linter.unusedVariables false

-- layer 19: turnsOf and Shards over a list of shards in blocks of their own
/-- a byte of the codeword. -/
def cv19 (f k : Nat) (F : Nat → Nat) (x : Nat) : Nat := fm 285 (fi 285 (sc19 f k x)) (pe 285 x k F)
theorem dw_cv19 {f k np z x : Nat} {prb : Nat → Bool} {Sh : Nat → Nat → Nat} {F : Nat → Nat} (hk : k ≤ np) (dF : Dg F k) : dw19 f k np z prb Sh F x = cv19 f k F x ^^^ (if prb x then Sh x z else 0) := by
  unfold dw19 cv19
  rw [fld8.pe_cut x dF hk]
theorem nat_pk19 {P : Nat → Bool} {n : Nat} {w w1 : World} {u : Value} {l : Nat} (h : Gi w w1 u l (emz P n)) (hl : l = cnb P n) : ∃ a c, u = .slice a (cnb P n) c ∧ Qi w1 (.slice a (cnb P n) c) (cnb P n) (fun i => ((pk19 P n i : Nat) : Int)) := by
  subst hl
  obtain ⟨a, c, rfl⟩ := h.form
  exact ⟨a, c, rfl, (Gi.rb h).congr (fun i hi => emz_pk19 hi)⟩
end Go.Proofs.YtlblkckglelbdaaGreat
namespace Go.Proofs.YtlblkckglelbdaaGreat
open Go.RowKit Gf2
set_option linter.unusedVariables false

-- layer 19: Shards, in all cases
theorem cv_iff19 {f k np x g : Nat} {F : Nat → Nat} (hx : x < 256) (hk : k ≤ 256) (hkn : k ≤ np) (dF : Dg F k) (hg : g < 256) : pe 285 x np F = fm 285 (sc19 f k x) g ↔ cv19 f k F x = g := by
  have s0 := sc19_ne (f := f) hx hk
  have sl := sc19_lt f k x
  unfold cv19
  rw [fld8.pe_cut x dF hkn]
  constructor
  · intro e
    rw [e, ← fld8.fm_assoc, fm_comm 285 (fi 285 _), fld8.fi_mul sl s0, fld8.one_fm hg]
  · intro e
    rw [← e, ← fld8.fm_assoc, fld8.fi_mul sl s0, fld8.one_fm (fld8.pe_lt _ _ _)]
theorem nr_cnt19 {f k n L z : Nat} {ln C : Nat → Nat} {G : Nat → Nat → Nat} {F : Nat → Nat} (hk : k ≤ cnb (pre19 n ln) n) (hn : n ≤ 256) (dF : Dg F k) (hl : ∀ x, x < n → ln x = L ∨ ln x = 0) (hC : ∀ x, x < n → ln x ≤ C x) (hz : z < L) (hG : ∀ x, x < n → ∀ y, y < C x → G x y < 256) :
    cnb (fun i => decide (pe 285 (pk19 (pre19 n ln) n i) (cnb (pre19 n ln) n) F ≠ yv19 f k z (pk19 (pre19 n ln) n) (fun x z => if x < n ∧ z < C x then G x z else 0) i)) (cnb (pre19 n ln) n) = cnb (fun x => pre19 n ln x && decide (cv19 f k F x ≠ G x z)) n := by
  rw [← cnb_pk19 (pre19 n ln) (fun x => decide (cv19 f k F x ≠ G x z)) n]
  have hs := cnb_le19 (pre19 n ln) n
  refine cnb_congr (fun i hi => ?_)
  obtain ⟨a1, a2, -, -⟩ := pk19_get hi
  have hx := (pre19_iff.1 a2).2
  have hzc : z < C (pk19 (pre19 n ln) n i) := by have := hl _ a1; have := hC _ a1; omega
  unfold yv19
  show decide (_ ≠ fm 285 _ (if pk19 (pre19 n ln) n i < n ∧ z < C (pk19 (pre19 n ln) n i) then G (pk19 (pre19 n ln) n i) z else 0)) = _
  rw [if_pos ⟨a1, hzc⟩]
  have h9 := cv_iff19 (f := f) (k := k) (x := pk19 (pre19 n ln) n i) (g := G (pk19 (pre19 n ln) n i) z) (by omega) (by omega) hk dF (hG _ a1 z hzc)
  exact decide_eq_decide.2 (not_congr h9)
end Go.Proofs.YtlblkckglelbdaaGreat
namespace Go.Proofs.YtlblkckglelbdaaGreat
open Go.RowKit Gf2
set_option linter.unusedVariables false

-- layer 19: turnsOf and Shards over a list of shards whose empty entries may be any slices
/-- the shards' bytes, noughts where there are none. -/
def shx19 (n : Nat) (ln C : Nat → Nat) (G : Nat → Nat → Nat) (x z : Nat) : Nat := if x < n ∧ ln x ≠ 0 ∧ z < C x then G x z else 0
end Go.Proofs.YtlblkckglelbdaaGreat
namespace Go.Proofs.YtlblkckglelbdaaGreat
open Go.RowKit Gf2
set_option linter.unusedVariables false

-- layer 19: Shards over a list whose empty entries may be any slices
theorem nr_cntx19 {f k n L z : Nat} {ln C : Nat → Nat} {G : Nat → Nat → Nat} {F : Nat → Nat} (hk : k ≤ cnb (pre19 n ln) n) (hn : n ≤ 256) (dF : Dg F k) (hl : ∀ x, x < n → ln x = L ∨ ln x = 0) (hC : ∀ x, x < n → ln x ≠ 0 → ln x ≤ C x) (hz : z < L) (hG : ∀ x, x < n → ln x ≠ 0 → ∀ y, y < C x → G x y < 256) :
    cnb (fun i => decide (pe 285 (pk19 (pre19 n ln) n i) (cnb (pre19 n ln) n) F ≠ yv19 f k z (pk19 (pre19 n ln) n) (shx19 n ln C G) i)) (cnb (pre19 n ln) n) = cnb (fun x => pre19 n ln x && decide (cv19 f k F x ≠ G x z)) n := by
  rw [← cnb_pk19 (pre19 n ln) (fun x => decide (cv19 f k F x ≠ G x z)) n]
  have hs := cnb_le19 (pre19 n ln) n
  refine cnb_congr (fun i hi => ?_)
  obtain ⟨a1, a2, -, -⟩ := pk19_get hi
  have hx := (pre19_iff.1 a2).2
  have hzc : z < C (pk19 (pre19 n ln) n i) := by have := hl _ a1; have := hC _ a1 hx; omega
  unfold yv19
  unfold shx19
  rw [if_pos ⟨a1, hx, hzc⟩]
  have h9 := cv_iff19 (f := f) (k := k) (x := pk19 (pre19 n ln) n i) (g := G (pk19 (pre19 n ln) n i) z) (by omega) (by omega) hk dF (hG _ a1 hx z hzc)
  exact decide_eq_decide.2 (not_congr h9)
end Go.Proofs.YtlblkckglelbdaaGreat
namespace Go.Proofs.YtlblkckglelbdaaGreat
open Go.RowKit Gf2
set_option linter.unusedVariables false

-- layer 19: the laws' isColumn
theorem qq_step19 {l t i : Nat} (h : t ≠ l) : qq l (t + 1) i = fm 285 (qq l t i) (i ^^^ t) := by
  unfold qq
  show fm 285 (pr t _) (if t = l then 1 else i ^^^ t) = _
  rw [if_neg h]
theorem qq_skip19 (l i : Nat) : qq l (l + 1) i = qq l l i := by
  unfold qq
  show fm 285 (pr l _) (if l = l then 1 else i ^^^ l) = _
  rw [if_pos rfl, fld8.fm_one (pr_lt _ _)]
theorem wg_ne19 {k l : Nat} (hl : l < 256) (hk : k ≤ 256) : wg k l ≠ 0 := pr_ne k _ (fun t ht => by
    by_cases e : t = l
    · rw [if_pos e]; decide
    · rw [if_neg e]; exact ⟨xor_lt8 (by omega) (by omega), xor_ne (fun x => e x.symm)⟩)
/-- the sum so far. -/
def sm19f (f k i : Nat) (c : Nat → Nat) (l : Nat) : Nat := sx l (fun j => fm 285 (gen11 (f : Int) k i j) (c j))
theorem sm19f_lt (f k i : Nat) (c : Nat → Nat) (l : Nat) : sm19f f k i c l < 256 := sx_lt (d := 8) (fun _ _ => fld8.fm_lt _ _)
end Go.Proofs.YtlblkckglelbdaaGreat
namespace Go.Proofs.YtlblkckglelbdaaGreat
open Go.RowKit Gf2
set_option linter.unusedVariables false

-- layer 19: MendTells: what stands fast behind Shards
theorem lb_open19 {w : World} {aS : Option Addr} {n cS : Nat} {ln : Nat → Nat} {S : Nat → Nat → Nat} (h : Lb w (.slice aS n cS) n ln S) : ∃ (xa : Nat → Option Addr) (xc : Nat → Nat), (∀ x, x < n → ∃ b o, aS = some ⟨b, o, none⟩ ∧ w.cell? ⟨b, o + x, none⟩ = some (.slice (xa x) (ln x) (xc x))) ∧ ∀ x, x < n → Rb w (.slice (xa x) (ln x) (xc x)) (ln x) (S x) := by
  obtain ⟨V, ⟨hn, a, cap, e, -, -, h4⟩, hV⟩ := h
  cases e
  have hx : ∀ x, ∃ p : Option Addr × Nat, x < n → V x = .slice p.1 (ln x) p.2 := fun x => by
    by_cases hx : x < n
    · obtain ⟨_, _, y, z, e, _⟩ := hV x hx
      exact ⟨(y, z), fun _ => e⟩
    · exact ⟨(none, 0), fun h => absurd h hx⟩
  refine ⟨fun x => (Classical.choose (hx x)).1, fun x => (Classical.choose (hx x)).2, fun x hxn => ?_, fun x hxn => ?_⟩
  · obtain ⟨b, o, e, -, hc⟩ := h4 (by omega)
    refine ⟨b, o, e, ?_⟩
    rw [hc x hxn, Classical.choose_spec (hx x) hxn]
  · have := (hV x hxn).rb
    rw [Classical.choose_spec (hx x) hxn] at this
    exact this
end Go.Proofs.YtlblkckglelbdaaGreat
namespace Go.Proofs.YtlblkckglelbdaaGreat
open Go.RowKit Gf2
set_option linter.unusedVariables false

-- layer 19: the laws' column
/-- a codeword's column made out of k bytes. -/
def col19 (f k : Nat) (sd : Nat → Nat) (x : Nat) : Nat := if f = 0 then pe 285 x k sd else if x < k then sd x else sm19f 1 k x sd k
theorem col_cw19 {f k n : Nat} {sd : Nat → Nat} (hf : f ≤ 1) (hk : k ≤ n) (hn : n ≤ 256) (hs : ∀ i, i < k → sd i < 256) : Cw19 f k n (col19 f k sd) := by
  rcases (show f = 0 ∨ f = 1 by omega) with rfl | rfl
  · refine poly_cw19 (F := fun i => if i < k then sd i else 0) hf hk hn (fun i => ?_) (fun i hi => if_neg (by omega)) (fun x => ?_)
    · show (if i < k then sd i else 0) < 2 ^ 8
      split
      · exact hs i (by assumption)
      · decide
    · have e : sc19 0 k x = 1 := rfl
      have e1 : fi 285 1 = 1 := (fld8.fi_unique (a := 1) (b := 1) (by decide) (by decide) (by decide) (fld8.one_fm (by decide))).symm
      have e2 : pe 285 x k (fun i => if i < k then sd i else 0) = pe 285 x k sd := sx_congr (fun i hi => by dsimp only; rw [if_pos hi])
      rw [e, e1, e2, fld8.one_fm (fld8.pe_lt _ _ _)]
      exact if_pos rfl
  · intro x hx
    have h1 : ∀ l, l < k → col19 1 k sd l = sd l := fun l hl => by unfold col19; rw [if_neg (by decide), if_pos hl]
    have h2 : sx k (fun i => fm 285 (gen11 ((1 : Nat) : Int) k x i) (col19 1 k sd i)) = sx k (fun i => fm 285 (gen11 ((1 : Nat) : Int) k x i) (sd i)) := sx_congr (fun i hi => by rw [h1 i hi])
    rw [h2]
    by_cases e : x < k
    · rw [h1 x e, gen_top19 e (hs x e)]
    · unfold col19
      rw [if_neg (by decide), if_neg e]
      rfl
end Go.Proofs.YtlblkckglelbdaaGreat
namespace Go.Proofs.YtlblkckglelbdaaGreat
open Go.RowKit Gf2
set_option linter.unusedVariables false

-- layer 19: a codeword that is near is the one that is found
theorem cv_of19 {f k n : Nat} {F c : Nat → Nat} (hn : n ≤ 256) (hk : k ≤ n) (hc : ∀ x, x < n → c x < 256) (h : ∀ x, x < n → pe 285 x k F = fm 285 (sc19 f k x) (c x)) : ∀ x, x < n → cv19 f k F x = c x := fun x hx => by
  unfold cv19
  rw [h x hx, ← fld8.fm_assoc, fm_comm 285 (fi 285 _), fld8.fi_mul (sc19_lt _ _ _) (sc19_ne (by omega) (by omega)), fld8.one_fm (hc x hx)]
/-- what Shards finds in a column is the codeword's own, where no more than half of what is spare is wrong. -/
theorem found19 {f k m n L z : Nat} {ln C : Nat → Nat} {G : Nat → Nat → Nat} {F c : Nat → Nat} (hf : f ≤ 1) (h1 : 1 ≤ k) (hn : n = k + m) (hn2 : n ≤ 256) (hfew : cnb (emp ln) n ≤ m) (hl : ∀ x, x < n → ln x = L ∨ ln x = 0) (hC : ∀ x, x < n → ln x ≤ C x) (hz : z < L) (hG : ∀ x, x < n → ∀ y, y < C x → G x y < 256) (eF : Gf2.El 8 F) (dF : Dg F k)
    (h2 : 2 * cnb (fun x => pre19 n ln x && decide (cv19 f k F x ≠ G x z)) n ≤ m - cnb (emp ln) n) (hc : Cw19 f k n c) (hcl : ∀ x, x < n → c x < 256) (h3 : 2 * cnb (fun x => pre19 n ln x && decide (c x ≠ G x z)) n ≤ m - cnb (emp ln) n) : ∀ x, x < n → cv19 f k F x = c x := by
  obtain ⟨K, eK, dK, hK⟩ := cw_poly19 hf (by omega) hn2 hc
  have hv := cv_of19 hn2 (by omega) hcl hK
  have hs := pre_emp19 n ln
  have hkp : k ≤ cnb (pre19 n ln) n := by omega
  have n1 := nr_cnt19 (f := f) (F := F) hkp hn2 dF hl hC hz hG
  have n2 := nr_cnt19 (f := f) (F := K) hkp hn2 dK hl hC hz hG
  have e3 : cnb (fun x => pre19 n ln x && decide (cv19 f k K x ≠ G x z)) n = cnb (fun x => pre19 n ln x && decide (c x ≠ G x z)) n := cnb_congr (fun x hx => by rw [hv x hx])
  have hFK : F = K := near_uniq19 (p := pk19 (pre19 n ln) n) (y := yv19 f k z (pk19 (pre19 n ln) n) (fun x z => if x < n ∧ z < C x then G x z else 0)) (n := cnb (pre19 n ln) n) (k := k) (fun i hi => by have := (pk19_get hi).1; omega) (pk19_up _ _) h1 hkp eF dF eK dK (by unfold Nr19; rw [n1]; omega) (by unfold Nr19; rw [n2, e3]; omega)
  intro x hx
  rw [hFK, hv x hx]
/-- and where a codeword is that near, Shards does not refuse. -/
theorem beyond19 {f k m n z : Nat} {ln : Nat → Nat} {G : Nat → Nat → Nat} {c : Nat → Nat} (hf : f ≤ 1) (hn : n = k + m) (hn2 : n ≤ 256) (hno : ∀ F, Gf2.El 8 F → Dg F k → m - cnb (emp ln) n < 2 * cnb (fun x => pre19 n ln x && decide (cv19 f k F x ≠ G x z)) n) (hc : Cw19 f k n c) (hcl : ∀ x, x < n → c x < 256) (h3 : 2 * cnb (fun x => pre19 n ln x && decide (c x ≠ G x z)) n ≤ m - cnb (emp ln) n) : False := by
  obtain ⟨K, eK, dK, hK⟩ := cw_poly19 hf (by omega) hn2 hc
  have hv := cv_of19 hn2 (by omega) hcl hK
  have h9 := hno K eK dK
  have e3 : cnb (fun x => pre19 n ln x && decide (cv19 f k K x ≠ G x z)) n = cnb (fun x => pre19 n ln x && decide (c x ≠ G x z)) n := cnb_congr (fun x hx => by rw [hv x hx])
  rw [e3] at h9
  omega
end Go.Proofs.YtlblkckglelbdaaGreat
namespace Go.Proofs.YtlblkckglelbdaaGreat
open Go.RowKit Gf2
set_option linter.unusedVariables false

-- layer 19: valid refused; a codeword's list on its way to be spoilt
theorem cnb_set {P Q : Nat → Bool} {a : Nat} (h1 : P a = false) (h2 : Q a = true) (h3 : ∀ x, x ≠ a → P x = Q x) : ∀ n, a < n → cnb Q n = cnb P n + 1
  | 0, h => absurd h (Nat.not_lt_zero _)
  | n + 1, h => by
    by_cases e : n = a
    · subst e
      rw [cnb_yes h2, cnb_no h1, cnb_congr (fun i hi => h3 i (by omega))]
    · have hr := cnb_set h1 h2 h3 n (by omega)
      cases hq : Q n with
      | true => rw [cnb_yes hq, cnb_yes ((h3 n e).trans hq), hr]
      | false => rw [cnb_no hq, cnb_no ((h3 n e).trans hq), hr]
section
variable {w2 W W' : World} {n T : Nat} {B ln C : Nat → Nat} {va : Nat → Option Addr} {vc : Nat → Nat} {G : Nat → Nat → Nat}
end
end Go.Proofs.YtlblkckglelbdaaGreat
namespace Go.Proofs.YtlblkckglelbdaaGreat
open Go.RowKit Gf2
set_option linter.unusedVariables false

-- layer 19: what Partial tells of a codeword that lost few shards; Find and Shards over it
theorem scf_two19 {n : Nat → Nat} {k l : Nat} (h : ∀ i, i < k → n i = l ∨ n i = 0) : scf (some 0) n k = some 0 ∧ (∀ i, i < k → n i = 0) ∨ scf (some 0) n k = some l := by
  induction k with
  | zero => exact .inl ⟨rfl, fun i hi => absurd hi (Nat.not_lt_zero _)⟩
  | succ k ih =>
    by_cases h0 : n k = 0
    · rcases ih (fun i hi => h i (by omega)) with ⟨e, ha⟩ | e
      · refine .inl ⟨scf_zero e h0, fun i hi => ?_⟩
        by_cases e2 : i = k
        · rw [e2]; exact h0
        · exact ha i (by omega)
      · exact .inr (scf_zero e h0)
    · have hl : n k = l := (h k (Nat.lt_succ_self _)).resolve_right h0
      right
      rcases ih (fun i hi => h i (by omega)) with ⟨e, ha⟩ | e
      · rw [scf_good e h0 (.inl rfl), hl]
      · rw [scf_good e h0 (.inr hl), hl]
theorem part_yes19 {f k m n L : Nat} {ln : Nat → Nat} (hf : f ≤ 1) (h1 : 1 ≤ k) (h2 : 1 ≤ m) (hn : n = k + m) (hn2 : n ≤ 256) (hL : 1 ≤ L) (hl : ∀ x, x < n → ln x = L ∨ ln x = 0) (hm : cnb (emp ln) n ≤ m) : ple f k m n ln = 0 ∧ plv16 f k m n ln = L ∧ pll f k m n ln = cnb (emp ln) n := by
  have hp : prm (f : Int) (k : Int) (m : Int) = 0 := prm_ok.2 ⟨by omega, by omega, by omega, by omega, fun _ => by omega, fun e => by omega⟩
  have hnn : (n : Int) = (k : Int) + (m : Int) := by omega
  have hs := pre_emp19 n ln
  have hfull : ¬ (ems (emp ln) n).length = n := by rw [ems_cnb19]; omega
  have hodd : ¬ ((f : Int) = 2 ∧ L % 2 = 1) := fun e => by omega
  have hsc : scf (some 0) ln n = some L := by
    rcases scf_two19 hl with ⟨-, h9⟩ | h9
    · exact absurd (ems_full.2 (fun i hi => by
        have := h9 i hi
        show (ln i == 0) = true
        simp [this])) hfull
    · exact h9
  have h0 : ple f k m n ln = 0 := by
    unfold ple
    rw [if_pos hp, if_pos hnn, if_neg hfull, hsc, ole_even hodd, if_pos rfl, if_neg (by rw [ems_cnb19]; omega)]
  refine ⟨h0, ?_, ?_⟩
  · unfold plv16
    rw [h0, if_pos rfl, hsc, olv_even hodd]
  · unfold pll
    rw [h0, if_pos rfl, ems_cnb19]
section
variable {w2 W : World} {f k m n T : Nat} {B ln C : Nat → Nat} {va : Nat → Option Addr} {vc : Nat → Nat} {G V : Nat → Nat → Nat} {P : Nat → Bool}
end
end Go.Proofs.YtlblkckglelbdaaGreat
namespace Go.Proofs.YtlblkckglelbdaaGreat
open Go.RowKit Gf2
set_option linter.unusedVariables false

-- the top's own lists: general growing lists (as in Kva)
/-- an element's type of one cell, the list's type, the zero value, the bytes. -/
structure ElyT (te ts : TypeId) (z : Value) (bb : Nat) : Prop where
  und : Tryz.prog.underlying ts = some (.slice te)
  info : ∃ i, Tryz.prog.info? te = some i ∧ i.zero = some z ∧ i.size = 1 ∧ i.bytes = bb
  cz : z.cells.size = 1
theorem elyT_l8 : ElyT 27 22 (.slice none 0 0) 24 := ⟨Tryz.underlying22, info_l9, rfl⟩
/-- a list that grows by append, in a block of its own not below base. -/
def GxT (te : TypeId) (w : World) (base : Nat) (av : Value) (m : Nat) (V : Nat → Value) : Prop := w.ownsRow base te 1 av m (lv9 V m)
section
variable {te ts : TypeId} {z : Value} {bb : Nat}
theorem GxT.zero (te : TypeId) (w : World) (base : Nat) (V : Nat → Value) : GxT te w base (.slice none 0 0) 0 V := World.ownsRow_nil _ _ _ _
theorem GxT.below {w w' : World} {base m : Nat} {av : Value} {V : Nat → Value} (h : GxT te w base av m V) (hb : Below w.heap.size w w') : GxT te w' base av m V := by
  refine World.ownsRow.kept (row := Option.none) h ⟨hb.os, hb.tape, hb.output, hb.size, fun k hk _ => hb.block k hk⟩ ?_
  cases e : av.ownBlock with
  | none => exact .inl rfl
  | some k => exact .inr (by simp)
theorem GxT.congr {w : World} {base m : Nat} {av : Value} {V V' : Nat → Value} (h : GxT te w base av m V) (e : ∀ r, r < m → V r = V' r) : GxT te w base av m V' := by
  unfold GxT at h ⊢
  rw [← lv9_congr e]
  exact h
theorem GxT.form {w : World} {base m : Nat} {av : Value} {V : Nat → Value} (h : GxT te w base av m V) : ∃ a c, av = .slice a m c ∧ m ≤ c ∧ c ≤ maxLen ∧ (0 < m → ∃ g, a = some ⟨g, 0, none⟩ ∧ base ≤ g ∧ g < w.heap.size ∧ av.ownBlock = some g ∧ ∀ i, i < m → w.cell? ⟨g, i, none⟩ = some (V i)) := by
  rcases h.2 with ⟨h1, h2⟩ | ⟨g, cap, cur, rfl, hb, hg, r1, r2, r3, r4⟩
  · subst h1 h2
    exact ⟨Option.none, 0, rfl, Nat.le_refl _, Nat.zero_le _, fun h0 => absurd h0 (Nat.lt_irrefl _)⟩
  · refine ⟨_, cap, rfl, r1, r2, fun h0 => ⟨g, rfl, hb, (Array.getElem?_eq_some_iff.1 hg).1, rfl, fun i hi => ?_⟩⟩
    have := World.ownsRow.cellAt (j := i) h (by omega)
    rw [this, lv9_get _ hi]
/-- one element more. -/
theorem gxT_one (E : ElyT te ts z bb) {w : World} {base m : Nat} {av : Value} {V : Nat → Value} (h : GxT te w base av m V) (hbase : base ≤ w.heap.size) (hv : (V m).oneCell' = true) (hm : (m + 1) * bb ≤ 140737488355328) (hm2 : m + 1 ≤ 140737488355328) :
    ∃ g cp w5, (Builtin.append_ #[ts, ts] ts #[av, .slice (some ⟨w.heap.size, 0, none⟩) 1 1]).run Tryz.prog (w.alloc (.cells #[V m] te)) = .ok (.slice (some ⟨g, 0, none⟩) (m + 1) cp) w5 ∧
      GxT te w5 base (.slice (some ⟨g, 0, none⟩) (m + 1) cp) (m + 1) V ∧ (av.ownBlock = some g ∨ g = w.heap.size + 1) ∧ w.grownBy w5 av.ownBlock ∧ Below base w w5 ∧ w.heap.size ≤ w5.heap.size := by
  obtain ⟨iL, k1, k2, k3, k4⟩ := E.info
  obtain ⟨g, cp, w5, hrun, own, gr, lies, lt⟩ := run_append_lies (P := Tryz.prog) (w.alloc (.cells #[V m] te)) ts ts base te iL z 1 bb E.und k1 k2 k3 k4 E.cz (by decide)
    av m (lv9 V m) (World.ownsRow.alloc h _) ⟨w.heap.size, 0, Option.none⟩ 1 1 (lv9 (fun _ => V m) 1) (by rw [lv9_len]) (fun j u hu => World.news_of_block (heap_alloc_new w _) j u (by simpa [lv9] using hu))
    (fun u hu => by
      simp [lv9] at hu
      subst hu
      exact hv) (by decide) (by unfold maxLen; omega) (by omega) (by simp; omega) (w.heap.size + 1) (by simp)
  have hsz : (w.alloc (.cells #[V m] te)).heap.size = w.heap.size + 1 := by simp
  have hgs := gr.size
  have gr2 : w.grownBy w5 av.ownBlock := ⟨gr.os, gr.tape, gr.output, by omega, fun x hx hne => (gr.block x (by omega) hne).trans (Below.heap_alloc w _ x hx)⟩
  refine ⟨g, cp, w5, hrun, ?_, lies, gr2, ⟨gr.os, gr.tape, gr.output, by omega, fun x hx => gr2.block x (by omega) (fun e => ?_)⟩, by omega⟩
  · unfold GxT
    rw [lv9_snoc] at own
    refine (lv9_congr (fun r hr => ?_)) ▸ own
    by_cases e : r < m
    · rw [if_pos e]
    · rw [if_neg e, show r = m by omega]
  · have := (World.ownsRow.lt h x e.symm).1
    omega
end
/-- N rows, each in a block of its own at or above lo; the list of them grows by append. -/
structure Gl8 (lo : Nat) (W : World) (v : Value) (N : Nat) (n C B : Nat → Nat) (S : Nat → Nat → Nat) : Prop where
  list : GxT 27 W lo v N (fun r => .slice (some ⟨B r, 0, none⟩) (n r) (C r))
  rows : ∀ r, r < N → lo ≤ B r ∧ n r ≤ C r ∧ Rw W (B r) (C r) (S r)
  inj : ∀ r s, r < N → s < N → r ≠ s → B r ≠ B s
  ne : ∀ r, r < N → v.ownBlock ≠ some (B r)
section
variable {lo N : Nat} {W W' : World} {v : Value} {n C B : Nat → Nat} {S : Nat → Nat → Nat}
theorem Gl8.start (lo : Nat) (W : World) (n C B : Nat → Nat) (S : Nat → Nat → Nat) : Gl8 lo W (.slice none 0 0) 0 n C B S :=
  ⟨GxT.zero _ _ _ _, fun r hr => absurd hr (Nat.not_lt_zero _), fun r s hr => absurd hr (Nat.not_lt_zero _), fun r hr => absurd hr (Nat.not_lt_zero _)⟩
theorem Gl8.below (h : Gl8 lo W v N n C B S) (hb : Below W.heap.size W W') : Gl8 lo W' v N n C B S :=
  ⟨h.list.below hb, fun r hr => ⟨(h.rows r hr).1, (h.rows r hr).2.1, rw_below (h.rows r hr).2.2 hb⟩, h.inj, h.ne⟩
theorem Gl8.lb (h : Gl8 lo W v N n C B S) : Lb W v N n S := by
  obtain ⟨a, c, rfl, h1, h2, h3⟩ := h.list.form
  refine ⟨fun r => .slice (some ⟨B r, 0, none⟩) (n r) (C r), ⟨by unfold big; unfold maxLen at h2; omega, a, c, rfl, h1, by unfold big; unfold maxLen at h2; exact h2, fun h0 => ?_⟩, fun i hi => ((h.rows i hi).2.2.rb0.cut8 (h.rows i hi).2.1).re (fun _ _ e => e)⟩
  obtain ⟨g, rfl, -, hl, -, hc⟩ := h3 h0
  exact ⟨g, 0, rfl, ⟨hl, fun e => e⟩, fun i hi => by rw [Nat.zero_add]; exact hc i hi⟩
/-- a row more. -/
theorem Gl8.app (h : Gl8 lo W v N n C B S) (hlo : lo ≤ W.heap.size) {b c l : Nat} {T : Nat → Nat} (hb : lo ≤ b) (hr : Rw W b c T) (hl : l ≤ c) (hB : ∀ r, r < N → B r ≠ b) (hv : v.ownBlock ≠ some b) (hN : (N + 1) * 24 ≤ 140737488355328) :
    ∃ v' w', (Builtin.append_ #[22, 22] 22 #[v, .slice (some ⟨W.heap.size, 0, none⟩) 1 1]).run Tryz.prog (W.alloc (.cells #[.slice (some ⟨b, 0, none⟩) l c] 27)) = .ok v' w' ∧ Gl8 lo w' v' (N + 1) (upn n N l) (upn C N c) (upn B N b) (upn S N T) ∧ Below lo W w' := by
  have hlist : GxT 27 W lo v N (fun r => .slice (some ⟨upn B N b r, 0, none⟩) (upn n N l r) (upn C N c r)) := h.list.congr (fun r hr => by
    have e : r ≠ N := by omega
    rw [upn_other _ _ e, upn_other _ _ e, upn_other _ _ e])
  obtain ⟨g, cp, w5, hrun, hG, hlies, hgr, hb5, hs⟩ := gxT_one elyT_l8 hlist hlo rfl hN (by omega)
  rw [upn_same, upn_same, upn_same] at hrun
  have hg : ∀ x, x < W.heap.size → v.ownBlock ≠ some x → w5.heap[x]? = W.heap[x]? := fun x hx hne => hgr.block x hx (fun e => hne e.symm)
  have hgb : ∀ x, x < W.heap.size → v.ownBlock ≠ some x → g ≠ x := fun x hx hne e => by
    rcases hlies with e2 | e2
    · exact hne (by rw [e2, e])
    · omega
  refine ⟨_, w5, hrun, ⟨hG, fun r hr2 => ?_, fun r s hr2 hs2 hne => ?_, fun r hr2 e => ?_⟩, hb5⟩
  · by_cases e : r = N
    · subst e
      rw [upn_same, upn_same, upn_same, upn_same]
      exact ⟨hb, hl, hr.of_block (hg _ hr.lt hv)⟩
    · rw [upn_other _ _ e, upn_other _ _ e, upn_other _ _ e, upn_other _ _ e]
      have h2 := h.rows r (by omega)
      exact ⟨h2.1, h2.2.1, h2.2.2.of_block (hg _ h2.2.2.lt (h.ne r (by omega)))⟩
  · by_cases e : r = N
    · have e2 : s ≠ N := by omega
      rw [e, upn_same, upn_other _ _ e2]
      exact fun e3 => hB s (by omega) e3.symm
    · by_cases e2 : s = N
      · rw [e2, upn_same, upn_other _ _ e]
        exact hB r (by omega)
      · rw [upn_other _ _ e, upn_other _ _ e2]
        exact h.inj r s (by omega) (by omega) hne
  · have e9 : g = upn B N b r := by
      have : (Value.slice (some ⟨g, 0, none⟩) (N + 1) cp).ownBlock = some g := rfl
      rw [this] at e
      exact Option.some.inj e
    by_cases e2 : r = N
    · rw [e2, upn_same] at e9
      exact hgb b hr.lt hv e9
    · rw [upn_other _ _ e2] at e9
      exact hgb (B r) (h.rows r (by omega)).2.2.lt (h.ne r (by omega)) e9
end
end Go.Proofs.YtlblkckglelbdaaGreat
namespace Go.Proofs.YtlblkckglelbdaaGreat
open Go.RowKit Gf2
set_option linter.unusedVariables false

-- the top's own twin
theorem Gl8.empty (lo : Nat) (W : World) (hlo : lo ≤ W.heap.size) (n C B : Nat → Nat) (S : Nat → Nat → Nat) : Gl8 lo (W.alloc (.cells #[] 27)) (.slice (some ⟨W.heap.size, 0, none⟩) 0 0) 0 n C B S :=
  ⟨⟨by simp [lv9], .inr ⟨W.heap.size, 0, #[], rfl, hlo, heap_alloc_new _ _, Nat.le_refl _, by unfold maxLen; omega, rfl, by simp [lv9]⟩⟩, fun r hr => absurd hr (Nat.not_lt_zero _), fun r s hr => absurd hr (Nat.not_lt_zero _), fun r hr => absurd hr (Nat.not_lt_zero _)⟩
theorem Gl8.own {lo N : Nat} {W : World} {v : Value} {n C B : Nat → Nat} {S : Nat → Nat → Nat} (h : Gl8 lo W v N n C B S) {x : Nat} (e : v.ownBlock = some x) : lo ≤ x ∧ x < W.heap.size := World.ownsRow.lt h.list x e
theorem Gl8.lens {lo N : Nat} {W : World} {v : Value} {n n' C B : Nat → Nat} {S : Nat → Nat → Nat} (h : Gl8 lo W v N n C B S) (e : ∀ r, r < N → n r = n' r) : Gl8 lo W v N n' C B S :=
  ⟨h.list.congr (fun r hr => by rw [e r hr]), fun r hr => by rw [← e r hr]; exact h.rows r hr, h.inj, h.ne⟩
set_option maxHeartbeats 4000000 in
set_option maxRecDepth 100000 in
theorem ttwin (u : Value) (m : Nat) (n : Nat → Nat) (S : Nat → Nat → Nat) (w : World) (h : Lb w u m n S) (hm : 24 * (m + 1) ≤ 140737488355328) (hnb : ∀ i, i < m → n i ≤ 140737488355328) :
    Calls Tryz.prog 11 #[u] w fun e w' => ∃ v C B T, e = .returned v ∧ Gl8 w.heap.size w' v m n C B T ∧ (∀ i, i < m → ∀ j, j < n i → T i j = S i j) ∧ Below w.heap.size w w' := by
  obtain ⟨V, ⟨hn, a, cap, rfl, -, -, h4⟩, hV⟩ := h
  have HV : Hid ((∀ i, i < m → ∃ b o x cx, a = some ⟨b, o, none⟩ ∧ ∀ y, Below w.heap.size w y → y.cell? ⟨b, o + i, none⟩ = some (.slice x (n i) cx) ∧ Rb y (.slice x (n i) cx) (n i) (S i)) ∧ 24 * (m + 1) ≤ 140737488355328 ∧ ∀ i, i < m → n i ≤ 140737488355328) := ⟨fun i hi => by
    obtain ⟨b, o, rfl, hbl, hc⟩ := h4 (by omega)
    obtain ⟨x, cx, e⟩ : ∃ x cx, V i = .slice x (n i) cx := by obtain ⟨_, _, x, y, e, _⟩ := hV i hi; exact ⟨x, y, e⟩
    refine ⟨b, o, x, cx, rfl, fun y hy => ?_⟩
    have hr := (hV i hi).rb.below hy
    rw [e] at hr
    exact ⟨by rw [← e, ← hc i hi]; exact hy.cell (p := ⟨b, o + i, none⟩) hbl.1, hr⟩, hm, hnb⟩
  clear h4 hV hn hnb hm
  have G0 := Gl8.empty w.heap.size w (Nat.le_refl _) n (fun _ => 0) (fun _ => 0) (fun _ _ => 0)
  have b0 : Below w.heap.size w (w.alloc (.cells #[] 27)) := (Below.refl _ _).alloc (Nat.le_refl _) _
  obtain ⟨w1, hw1⟩ : ∃ w1, Hid (w.alloc (.cells #[] 27) = w1) := ⟨_, rfl⟩
  rw [hw1.out] at G0 b0
  have H0 : Hid (Gl8 w.heap.size w1 (.slice (some ⟨w.heap.size, 0, none⟩) 0 0) 0 n (fun _ => 0) (fun _ => 0) (fun _ _ => 0) ∧ Below w.heap.size w w1) := ⟨G0, b0⟩
  clear G0 b0
  go_enter Tryz.func11, Tryz.ntmps11
  go_wp2
  rw [hw1.out]
  clear hw1
  go_loopw [3, 9] (fun v s wr => ∃ (k : Nat) (C B : Nat → Nat) (T : Nat → Nat → Nat), k ≤ m ∧ s = .int .i64 (k : Int) ∧ Gl8 w.heap.size wr v k n C B T ∧ Below w.heap.size w wr ∧ ∀ i, i < k → ∀ j, j < n i → T i j = S i j) (fun _ s _ => m - (intOf s).toNat)
  case atStart => exact ⟨0, _, _, _, Nat.zero_le _, rfl, H0.out.1, H0.out.2, fun i hi => absurd hi (Nat.not_lt_zero _)⟩
  case round =>
    obtain ⟨k, C, B, T, hk, rfl, hG, hb, hT⟩ := hrel
    clear H0
    by_cases hlt : k < m
    · obtain ⟨b, o, x, cx, rfl, hy⟩ := HV.out.1 k hlt
      have hrb := (hy wr hb).2
      have q1 := (hy wr hb).1
      obtain ⟨w1, g, Cg, F, hrun1, hC, hg, hg1, hR, hFF, hb1⟩ := copy_app wr hrb (HV.out.2.2 k hlt)
      have hG1 := hG.below hb1
      have b1 : Below w.heap.size w w1 := hb.trans (hb1.mono hb.size)
      obtain ⟨v', w', hrun2, hG2, hb2⟩ := hG1.app (b := g) (c := Cg) (l := n k) (T := F) b1.size (Nat.le_trans hb.size hg) hR hC (fun r hr => by have := (hG.rows r hr).2.2.lt; omega) (fun e => by have := (hG.own e).2; omega) (by have := HV.out.2.1; omega)
      have HD : Hid (k < m ∧ Gl8 w.heap.size w' v' (k + 1) n (upn C k Cg) (upn B k g) (upn T k F) ∧ Below w.heap.size w w' ∧ ∀ i, i < k + 1 → ∀ j, j < n i → upn T k F i j = S i j) := by
        refine ⟨hlt, hG2.lens (fun r _ => ?_), b1.trans hb2, fun i hi j hj => ?_⟩
        · by_cases e : r = k
          · rw [e, upn_same]
          · rw [upn_other _ _ e]
        · by_cases e : i = k
          · subst e; rw [upn_same]; exact hFF j hj
          · rw [upn_other _ _ e]; exact hT i (by omega) j hj
      have ib : ((k : Nat) : Int) < (m : Int) := by omega
      have W1 := wrap_succ8 (j := k) (by have := HV.out.2.1; unfold big; omega)
      have HR2 : Hid _ := hrun2
      generalize n k = nk at *
      clear hG hT hy hrb hC hg hg1 hR hFF hb1 hG1 b1 hG2 hb2 hb hk hlt hrun2
      go_wp2_with (first
        | (at_builtin; refine Lib.wpList_append_run _ rfl _ _ _ _ rfl _ _ rfl rfl _ _ hrun1 ?_; clear hrun1; have hrun2 := HR2.out)
        | (at_builtin; refine Lib.wpList_append_run _ rfl _ _ _ _ rfl _ _ rfl rfl _ _ hrun2 ?_; clear hrun2))
      go_roundw
      case rel => exact ⟨k + 1, _, _, _, HD.out.1, by first | rfl | (rw [W1]; rfl), HD.out.2.1, HD.out.2.2.1, HD.out.2.2.2⟩
      case measure => first | exact meas_lt8 HD.out.1 | (rw [W1]; exact meas_lt8 HD.out.1)
    · have htl : ¬ ((k : Nat) : Int) < (m : Int) := fun e => hlt (Int.ofNat_lt.1 e)
      obtain rfl : k = m := by omega
      have HD : Hid (Gl8 w.heap.size wr u3 k n C B T ∧ Below w.heap.size w wr ∧ ∀ i, i < k → ∀ j, j < n i → T i j = S i j) := ⟨hG, hb, hT⟩
      clear hG hT hb HV
      go_wp2
      go_ret
      exact ⟨_, rfl, C, B, T, HD.out.1, HD.out.2.2, HD.out.2.1⟩
end Go.Proofs.YtlblkckglelbdaaGreat
