import Derived.Test.YtddpdmggccpclaaMtbk
import Derived.Test.YtddpdmggccpclaaMtbl
import Derived.Test.YtddpdmggccpclaaMtal
import Derived.Test.YtddpdmggccpclaaMtam
namespace Go.Proofs.Ytddpdmggccpclaa
open Go.RowKit Gf2
set_option linter.unusedVariables false

-- layer 19: numbers that are named, and Partial's answer
theorem ems_cnb19 (P : Nat → Bool) : ∀ n, (ems P n).length = cnb P n
  | 0 => rfl
  | n + 1 => by
    have ih := ems_cnb19 P n
    cases h : P n with
    | true => rw [ems_len_yes h, cnb_yes h, ih]
    | false => rw [ems_no h, cnb_no h, ih]
theorem emz_fsel19 (P : Nat → Bool) : ∀ n i, i < cnb P n → emz P n i = fsel P (fun j => j) n i
  | 0, i, h => absurd h (Nat.not_lt_zero _)
  | n + 1, i, h => by
    have ih := emz_fsel19 P n i
    cases hp : P n with
    | true =>
      rw [← emz_step hp i (by rw [ems_cnb19]; exact h), fsel_yes hp, ems_cnb19]
      show (if i < cnb P n then emz P n i else (n : Int)) = (if i < cnb P n then fsel P (fun j => j) n i else ((n : Nat) : Int))
      by_cases e : i < cnb P n
      · rw [if_pos e, if_pos e, ih e]
      · rw [if_neg e, if_neg e]
    | false =>
      rw [fsel_no hp]
      rw [cnb_no hp] at h
      have e : emz P (n + 1) i = emz P n i := by unfold emz; rw [ems_no hp]
      rw [e, ih h]
theorem emz_pk19 {P : Nat → Bool} {n i : Nat} (h : i < cnb P n) : emz P n i = ((pk19 P n i : Nat) : Int) := by
  rw [emz_fsel19 P n i h, (pk19_get h).2.2.2]
theorem cnb_not19 (P : Nat → Bool) : ∀ n, cnb P n + cnb (fun x => !P x) n = n
  | 0 => rfl
  | n + 1 => by
    have ih := cnb_not19 P n
    cases h : P n with
    | true => rw [cnb_yes h, cnb_no (P := fun x => !P x) (by rw [h]; rfl)]; omega
    | false => rw [cnb_no h, cnb_yes (P := fun x => !P x) (by rw [h]; rfl)]; omega
theorem cnb_le19 (P : Nat → Bool) (n : Nat) : cnb P n ≤ n := by have := cnb_not19 P n; omega
theorem pk19_step {P : Nat → Bool} {n i : Nat} (h : i < cnb P n) : pk19 P (n + 1) i = pk19 P n i := by
  unfold pk19
  cases hp : P n with
  | true => rw [fsel_yes hp]; show (if i < cnb P n then _ else _ : Int).toNat = _; rw [if_pos h]
  | false => rw [fsel_no hp]
theorem pk19_last {P : Nat → Bool} {n : Nat} (hp : P n = true) : pk19 P (n + 1) (cnb P n) = n := by
  unfold pk19
  rw [fsel_yes hp]
  show (if cnb P n < cnb P n then _ else ((n : Nat) : Int)).toNat = n
  rw [if_neg (Nat.lt_irrefl _)]
  rfl
/-- to count among those that are named. -/
theorem cnb_pk19 (P Q : Nat → Bool) : ∀ n, cnb (fun i => Q (pk19 P n i)) (cnb P n) = cnb (fun x => P x && Q x) n
  | 0 => rfl
  | n + 1 => by
    have ih := cnb_pk19 P Q n
    cases hp : P n with
    | true =>
      rw [cnb_yes hp]
      show cnb (fun i => Q (pk19 P (n + 1) i)) (cnb P n) + (if Q (pk19 P (n + 1) (cnb P n)) then 1 else 0) = cnb (fun x => P x && Q x) n + (if P n && Q n then 1 else 0)
      rw [pk19_last hp, cnb_congr (n := cnb P n) (P' := fun i => Q (pk19 P n i)) (fun i hi => by show Q _ = Q _; rw [pk19_step hi]), ih, hp, Bool.true_and]
    | false =>
      rw [cnb_no hp, cnb_no (P := fun x => P x && Q x) (by rw [hp]; rfl), ← ih]
      exact cnb_congr (fun i hi => by show Q _ = Q _; rw [pk19_step hi])
/-- which shards are there. -/
def pre19 (n : Nat) (ln : Nat → Nat) (x : Nat) : Bool := decide (x < n) && decide (ln x ≠ 0)
theorem pre19_iff {n : Nat} {ln : Nat → Nat} {x : Nat} : pre19 n ln x = true ↔ x < n ∧ ln x ≠ 0 := by unfold pre19; simp
theorem pre_emp19 (n : Nat) (ln : Nat → Nat) : cnb (pre19 n ln) n + cnb (emp ln) n = n := by
  rw [← cnb_congr (P := fun x => !(emp ln x)) (P' := pre19 n ln) (n := n) (fun x hx => by
    cases h : pre19 n ln x with
    | true =>
      have := (pre19_iff.1 h).2
      show (!(ln x == 0)) = true
      simpa using this
    | false =>
      have h2 : ¬ (x < n ∧ ln x ≠ 0) := fun h9 => by rw [pre19_iff.2 h9] at h; cases h
      have h3 : ln x = 0 := by omega
      show (!(ln x == 0)) = false
      simp [h3])]
  have := cnb_not19 (emp ln) n
  omega
/-- Partial lets the shards be: what that means. -/
theorem part_ok19 {f : Nat} {k m : Int} {n : Nat} {ln : Nat → Nat} (hf : f ≤ 1) (h : ple f k m n ln = 0) : ∃ kk mm L : Nat, k = kk ∧ m = mm ∧ 1 ≤ kk ∧ 1 ≤ mm ∧ n = kk + mm ∧ n ≤ 256 ∧ 1 ≤ L ∧ plv16 f k m n ln = L ∧ (∀ x, x < n → ln x = L ∨ ln x = 0) ∧ cnb (emp ln) n ≤ mm ∧ pll f k m n ln = cnb (emp ln) n := by
  have h0 := h
  unfold ple at h
  by_cases hp : prm f k m = 0
  case neg => rw [if_neg hp] at h; exact absurd h hp
  rw [if_pos hp] at h
  have hv := prm_ok.1 hp
  obtain ⟨kk, mm', rfl, rfl⟩ := prm_nat hp
  by_cases hn : (n : Int) = (kk : Int) + (mm' : Int)
  case neg => rw [if_neg hn] at h; cases h
  rw [if_pos hn] at h
  by_cases hfull : (ems (emp ln) n).length = n
  · rw [if_pos hfull] at h; cases h
  rw [if_neg hfull] at h
  cases hs : scf (some 0) ln n with
  | none => rw [hs] at h; have h : (if (162 : Int) = 0 then _ else (162 : Int)) = 0 := h; rw [if_neg (by decide)] at h; cases h
  | some L =>
    have hodd : ¬ ((f : Int) = 2 ∧ L % 2 = 1) := fun e => by omega
    rw [hs, ole_even hodd, if_pos rfl] at h
    have hle : ¬ (mm' : Int) < ((ems (emp ln) n).length : Int) := fun e => by rw [if_pos e] at h; cases h
    obtain ⟨s1, s2⟩ := scf_all hs
    have hL : L ≠ 0 := fun e => hfull (ems_full.2 (fun i hi => by
      have := s2 e i hi
      show (ln i == 0) = true
      simp [this]))
    obtain ⟨v1, v2, v3, v4, v5, v6⟩ := hv
    have v5 := v5 (by omega)
    refine ⟨kk, mm', L, rfl, rfl, by omega, by omega, by omega, by omega, by omega, ?_, fun x hx => (s1 x hx).symm, by rw [← ems_cnb19]; omega, ?_⟩
    · unfold plv16
      rw [h0, if_pos rfl, hs, olv_even hodd]
    · unfold pll
      rw [h0, if_pos rfl, ems_cnb19]
end Go.Proofs.Ytddpdmggccpclaa
namespace Go.Proofs.Ytddpdmggccpclaa
open Go.RowKit Gf2
set_option linter.unusedVariables false

-- layer 19: turnsOf and Shards over a list of shards in blocks of their own
/-- a list of n shards in block sb, each in a block of its own. -/
structure Lw19 (W : World) (sb n : Nat) (R ln C : Nat → Nat) (G : Nat → Nat → Nat) : Prop where
  row : W.rowIs sb 35 n (fun x => .slice (some ⟨R x, 0, none⟩) (ln x) (C x))
  rows : ∀ x, x < n → Rw W (R x) (C x) (G x)
  le : ∀ x, x < n → ln x ≤ C x
  inj : ∀ x y, x < n → y < n → x ≠ y → R x ≠ R y
  ne : ∀ x, x < n → R x ≠ sb
theorem Lw19.below {W W' : World} {sb n : Nat} {R ln C : Nat → Nat} {G : Nat → Nat → Nat} (h : Lw19 W sb n R ln C G) (hb : Below W.heap.size W W') : Lw19 W' sb n R ln C G :=
  ⟨h.row.of_block (hb.block _ h.row.lt), fun x hx => rw_below (h.rows x hx) hb, h.le, h.inj, h.ne⟩
theorem Lw19.ln {W : World} {sb n : Nat} {R ln C : Nat → Nat} {G : Nat → Nat → Nat} (h : Lw19 W sb n R ln C G) {cs : Nat} (hn : n ≤ cs) (hn2 : n ≤ 281474976710656) (hc : cs ≤ big) : Ln W (.slice (some ⟨sb, 0, none⟩) n cs) n ln :=
  ⟨hn2, fun x hx => Nat.le_trans (h.le x hx) (h.rows x hx).1, _, _, rfl, hn, hc, fun _ => ⟨sb, 0, rfl, h.row.lt, fun i hi => ⟨_, _, by rw [Nat.zero_add]; exact h.row.cell hi⟩⟩⟩
/-- a byte of the codeword. -/
def cv19 (f k : Nat) (F : Nat → Nat) (x : Nat) : Nat := fm 285 (fi 285 (sc19 f k x)) (pe 285 x k F)
theorem dw_cv19 {f k np z x : Nat} {prb : Nat → Bool} {Sh : Nat → Nat → Nat} {F : Nat → Nat} (hk : k ≤ np) (dF : Dg F k) : dw19 f k np z prb Sh F x = cv19 f k F x ^^^ (if prb x then Sh x z else 0) := by
  unfold dw19 cv19
  rw [fld8.pe_cut x dF hk]
theorem ci_of19 {w w1 : World} {sb n k m f L : Nat} {R ln C : Nat → Nat} {G : Nat → Nat → Nat} (h : Lw19 w sb n R ln C G) (hb : Below w.heap.size w w1) (hk : 1 ≤ k) (hn : n = k + m) (hn2 : n ≤ 256) (hL : L ≤ 140737488351232) (hl : ∀ x, x < n → ln x = L ∨ ln x = 0) (hm : cnb (emp ln) n ≤ m) :
    Ci19 w1 sb 0 n (cnb (pre19 n ln) n) (cnb (emp ln) n) k f L (pk19 (pre19 n ln) n) (pk19 (emp ln) n) (pre19 n ln) (fun x z => if x < n ∧ z < C x then G x z else 0) := by
  have hs := pre_emp19 n ln
  have pl : ∀ i, i < cnb (pre19 n ln) n → pk19 (pre19 n ln) n i < n ∧ ln (pk19 (pre19 n ln) n i) = L := fun i hi => by
    obtain ⟨a1, a2, -, -⟩ := pk19_get hi
    exact ⟨a1, (hl _ a1).resolve_right (pre19_iff.1 a2).2⟩
  refine ⟨fun i hi => (pl i hi).1, pk19_up _ _, fun j hj => (pk19_get hj).1, pk19_up _ _, fun x => ⟨fun e => pk19_all (pre19_iff.1 e).1 e, fun ⟨i, hi, e⟩ => e ▸ (pk19_get hi).2.1⟩, fun x hx => ?_, fun i j hi hj e => ?_, hn2, hk, by omega, by omega, by omega, hL, fun x hx => sc19_ne (by omega) (by omega), fun i hi z => ?_, fun i hi => ?_⟩
  · by_cases e : ln x = 0
    · refine .inr (pk19_all hx ?_)
      show (ln x == 0) = true
      simp [e]
    · exact .inl (pk19_all hx (pre19_iff.2 ⟨hx, e⟩))
  · have h1 := (pk19_get hi).2.1
    have h2 := (pk19_get hj).2.1
    rw [e] at h1
    have h3 : ln (pk19 (emp ln) n j) = 0 := by
      have h2 : (ln (pk19 (emp ln) n j) == 0) = true := h2
      simpa using h2
    exact (pre19_iff.1 h1).2 h3
  · show (if _ ∧ _ then _ else _) < 256
    split
    · rename_i h9
      exact (h.rows _ h9.1).2.1 z h9.2
    · decide
  · obtain ⟨a1, a2⟩ := pl i hi
    refine ⟨R (pk19 (pre19 n ln) n i), 0, C (pk19 (pre19 n ln) n i), fun W hW => ?_⟩
    have hx := (h.below hb).below hW
    refine ⟨by rw [Nat.zero_add, hx.row.cell a1, a2], fun z hz => ?_⟩
    have hzc : z < C (pk19 (pre19 n ln) n i) := by have := h.le _ a1; omega
    rw [Nat.zero_add, (hx.rows _ a1).2.2.cell hzc]
    show _ = some (Value.int .u8 (((if _ ∧ _ then _ else _ : Nat) : Nat) : Int))
    rw [if_pos ⟨a1, hzc⟩]
theorem nat_pk19 {P : Nat → Bool} {n : Nat} {w w1 : World} {u : Value} {l : Nat} (h : Gi w w1 u l (emz P n)) (hl : l = cnb P n) : ∃ a c, u = .slice a (cnb P n) c ∧ Qi w1 (.slice a (cnb P n) c) (cnb P n) (fun i => ((pk19 P n i : Nat) : Int)) := by
  subst hl
  obtain ⟨a, c, rfl⟩ := h.form
  exact ⟨a, c, rfl, (Gi.rb h).congr (fun i hi => emz_pk19 hi)⟩
theorem turnsOf_ok19 (f k m n L sb cs : Nat) (R ln C : Nat → Nat) (G : Nat → Nat → Nat) (w : World) (hf : f ≤ 1) (hLw : Lw19 w sb n R ln C G) (hcs : n ≤ cs) (hcb : cs ≤ big) (hple : ple f k m n ln = 0) (hplv : plv16 f k m n ln = L) (hpll : pll f k m n ln = cnb (emp ln) n) (h1 : 1 ≤ k) (hn : n = k + m) (hn2 : n ≤ 256) (hL : L ≤ 140737488351232) (hl : ∀ x, x < n → ln x = L ∨ ln x = 0) (hm : cnb (emp ln) n ≤ m) :
    Calls Try.prog 16 #[.int .i64 (f : Int), .int .i64 (k : Int), .int .i64 (m : Int), .slice (some ⟨sb, 0, none⟩) n cs] w fun e w' => ∃ w1, Below w.heap.size w w1 ∧ To19 w1 w' e f k n (cnb (pre19 n ln) n) L (pk19 (pre19 n ln) n) (pre19 n ln) (fun x z => if x < n ∧ z < C x then G x z else 0) := by
  have hs := pre_emp19 n ln
  have c1 := partial16 f k m (.slice (some ⟨sb, 0, none⟩) n cs) n ln w (by unfold I64; omega) (hLw.ln hcs (by omega) hcb)
  refine turnsOf19 f k m n (cnb (emp ln) n) L sb 0 cs (pk19 (emp ln) n) (pre19 n ln) _ w hf hn (by omega) (fun x hx => ?_) (c1.mono ?_)
  · constructor
    · rintro e ⟨a, ha, rfl⟩
      have h2 := (pk19_get ha).2.1
      have h2 : (ln (pk19 (emp ln) n a) == 0) = true := h2
      exact (pre19_iff.1 e).2 (by simpa using h2)
    · intro e
      refine pre19_iff.2 ⟨hx, fun h0 => e (pk19_all hx ?_)⟩
      show (ln x == 0) = true
      simp [h0]
  · rintro e w1 ⟨u, rfl, hP⟩
    rw [hplv, hple]
    obtain ⟨a, c, rfl, hq⟩ := nat_pk19 hP.gi hpll
    exact ⟨a, c, rfl, hq, ci_of19 hLw hP.bel h1 hn hn2 hL hl hm, hP.bel⟩
end Go.Proofs.Ytddpdmggccpclaa
namespace Go.Proofs.Ytddpdmggccpclaa
open Go.RowKit Gf2
set_option linter.unusedVariables false

-- layer 19: Shards, in all cases
/-- what Shards leaves and answers where all is well. -/
structure Ok19 (w w' : World) (v : Value) (f k m n L sb : Nat) (R ln C : Nat → Nat) (G F : Nat → Nat → Nat) : Prop where
  val : f ≤ 1 ∧ 1 ≤ k ∧ 1 ≤ m ∧ n = k + m ∧ n ≤ 256 ∧ 1 ≤ L
  lens : ∀ x, x < n → ln x = L ∨ ln x = 0
  few : cnb (emp ln) n ≤ m
  pol : ∀ z, z < L → Gf2.El 8 (F z) ∧ Dg (F z) k ∧ 2 * cnb (fun x => pre19 n ln x && decide (cv19 f k (F z) x ≠ G x z)) n ≤ m - cnb (emp ln) n
  told : ∃ P, Gj w.heap.size w' v (cnb P n) (fsel P (fun j => j) n) ∧ ∀ x, x < n → (P x = true ↔ ln x ≠ 0 ∧ ∃ z, z < L ∧ cv19 f k (F z) x ≠ G x z)
  list : ∃ R' C' G', Lw19 w' sb n R' (fun _ => L) C' G' ∧ ∀ x, x < n → (∀ z, z < L → G' x z = cv19 f k (F z) x) ∧ (ln x ≠ 0 → R' x = R x ∧ C' x = C x ∧ ∀ z, L ≤ z → G' x z = G x z) ∧ (ln x = 0 → w.heap.size ≤ R' x ∧ C' x = L ∧ Rw w' (R x) (C x) (G x))
  ke : Ke (fun x => x = sb ∨ ∃ y, y < n ∧ x = R y) w w'
theorem cv_iff19 {f k np x g : Nat} {F : Nat → Nat} (hx : x < 256) (hk : k ≤ 256) (hkn : k ≤ np) (dF : Dg F k) (hg : g < 256) : pe 285 x np F = fm 285 (sc19 f k x) g ↔ cv19 f k F x = g := by
  have s0 := sc19_ne (f := f) hx hk
  have sl := sc19_lt f k x
  unfold cv19
  rw [fld8.pe_cut x dF hkn]
  constructor
  · intro e
    rw [e, ← fld8.fm_assoc, fm_comm 285 (fi 285 _), fld8.fi_mul sl s0, fld8.one_fm hg]
  · intro e
    rw [← e, ← fld8.fm_assoc, fld8.fi_mul sl s0, fld8.one_fm (fld8.pe_lt _ _ _)]
theorem nr_cnt19 {f k n L z : Nat} {ln C : Nat → Nat} {G : Nat → Nat → Nat} {F : Nat → Nat} (hk : k ≤ cnb (pre19 n ln) n) (hn : n ≤ 256) (dF : Dg F k) (hl : ∀ x, x < n → ln x = L ∨ ln x = 0) (hC : ∀ x, x < n → ln x ≤ C x) (hz : z < L) (hG : ∀ x, x < n → ∀ y, y < C x → G x y < 256) :
    cnb (fun i => decide (pe 285 (pk19 (pre19 n ln) n i) (cnb (pre19 n ln) n) F ≠ yv19 f k z (pk19 (pre19 n ln) n) (fun x z => if x < n ∧ z < C x then G x z else 0) i)) (cnb (pre19 n ln) n) = cnb (fun x => pre19 n ln x && decide (cv19 f k F x ≠ G x z)) n := by
  rw [← cnb_pk19 (pre19 n ln) (fun x => decide (cv19 f k F x ≠ G x z)) n]
  have hs := cnb_le19 (pre19 n ln) n
  refine cnb_congr (fun i hi => ?_)
  obtain ⟨a1, a2, -, -⟩ := pk19_get hi
  have hx := (pre19_iff.1 a2).2
  have hzc : z < C (pk19 (pre19 n ln) n i) := by have := hl _ a1; have := hC _ a1; omega
  unfold yv19
  show decide (_ ≠ fm 285 _ (if pk19 (pre19 n ln) n i < n ∧ z < C (pk19 (pre19 n ln) n i) then G (pk19 (pre19 n ln) n i) z else 0)) = _
  rw [if_pos ⟨a1, hzc⟩]
  have h9 := cv_iff19 (f := f) (k := k) (x := pk19 (pre19 n ln) n i) (g := G (pk19 (pre19 n ln) n i) z) (by omega) (by omega) hk dF (hG _ a1 z hzc)
  exact decide_eq_decide.2 (not_congr h9)
/-- the near polynomials, and those that are not. -/
theorem shards_ok19 (f k m n L sb cs : Nat) (R ln C : Nat → Nat) (G : Nat → Nat → Nat) (w : World) (hf : f ≤ 1) (hLw : Lw19 w sb n R ln C G) (hcs : n ≤ cs) (hcb : cs ≤ big) (hple : ple f k m n ln = 0) (hplv : plv16 f k m n ln = L) (hpll : pll f k m n ln = cnb (emp ln) n) (h1 : 1 ≤ k) (h1m : 1 ≤ m) (hn : n = k + m) (hn2 : n ≤ 256) (hL1 : 1 ≤ L) (hL : L ≤ 140737488351232) (hl : ∀ x, x < n → ln x = L ∨ ln x = 0) (hm : cnb (emp ln) n ≤ m) :
    Calls Try.prog 8 #[.int .i64 (f : Int), .int .i64 (k : Int), .int .i64 (m : Int), .slice (some ⟨sb, 0, none⟩) n cs] w fun e w' => (∃ v F, e = .returned (.tuple #[v, .int .i64 0]) ∧ Ok19 w w' v f k m n L sb R ln C G F) ∨ (e = .returned (.tuple #[.slice none 0 0, .int .i64 190]) ∧ Below w.heap.size w w' ∧ ∃ z, z < L ∧ ∀ F, Gf2.El 8 F → Dg F k → m - cnb (emp ln) n < 2 * cnb (fun x => pre19 n ln x && decide (cv19 f k F x ≠ G x z)) n) := by
  have hs := pre_emp19 n ln
  have hkp : k ≤ cnb (pre19 n ln) n := by omega
  have hGb : ∀ x, x < n → ∀ y, y < C x → G x y < 256 := fun x hx y hy => (hLw.rows x hx).2.1 y hy
  obtain ⟨Sh, hSh⟩ : ∃ Sh : Nat → Nat → Nat, Sh = fun x z => if x < n ∧ z < C x then G x z else 0 := ⟨_, rfl⟩
  have hnr : ∀ z, z < L → ∀ F, Dg F k → cnb (fun i => decide (pe 285 (pk19 (pre19 n ln) n i) (cnb (pre19 n ln) n) F ≠ yv19 f k z (pk19 (pre19 n ln) n) Sh i)) (cnb (pre19 n ln) n) = cnb (fun x => pre19 n ln x && decide (cv19 f k F x ≠ G x z)) n := fun z hz F dF => by rw [hSh]; exact nr_cnt19 hkp hn2 dF hl hLw.le hz hGb
  have hc := turnsOf_ok19 f k m n L sb cs R ln C G w hf hLw hcs hcb hple hplv hpll h1 hn hn2 hL hl hm
  rw [← hSh] at hc
  refine (shards19 f k m n L sb cs R ln C G w (fun w3 v gt tb B T => ∃ F lo, Below w.heap.size w w3 ∧ Gj w.heap.size w3 v (cnb (tp19 tb ln) n) (fsel (tp19 tb ln) (fun j => j) n) ∧ Tq19 f k n (cnb (pre19 n ln) n) L (pk19 (pre19 n ln) n) (pre19 n ln) Sh F tb ∧ (∀ x, x < n → tb x = true → w.heap.size ≤ B x ∧ B x ≠ gt ∧ ∀ z, z < L → T x z = dw19 f k (cnb (pre19 n ln) n) z (pre19 n ln) Sh (F z) x) ∧ (∀ x y, x < n → y < n → tb x = true → tb y = true → x ≠ y → B x ≠ B y) ∧ gt < lo) (fun w3 z => z = 190 ∧ Below w.heap.size w w3 ∧ ∃ y, y < L ∧ ∀ F, Gf2.El 8 F → Dg F k → ¬ Nr19 (pk19 (pre19 n ln) n) (yv19 f k y (pk19 (pre19 n ln) n) Sh) (cnb (pre19 n ln) n) ((cnb (pre19 n ln) n - k) / 2) F) (by omega) (hc.mono ?_)).mono ?_
  · rintro e w2 ⟨w1, hb1, ⟨gt, lo, rfl, F, hF, hgt, hb2, hY⟩ | ⟨rfl, hno, hb2⟩⟩
    · obtain ⟨tb, B, T, hT, -, hX⟩ := hY.ex
      have b02 : Below w.heap.size w w2 := hb1.trans (hb2.mono hb1.size)
      have l2 := hLw.below b02
      refine ⟨_, _, _, rfl, (turned19 gt n L sb 0 cs tb B ln C (fun x => some ⟨R x, 0, none⟩) w2 hT.row l2.row.lt (fun x hx => by rw [Nat.zero_add]; exact l2.row.cell hx) hn2).mono ?_⟩
      rintro e w3 ⟨v, rfl, hG, hb3⟩
      have l3 := l2.below hb3
      have t3 := hT.below hb3
      have hgw : w.heap.size ≤ gt := Nat.le_trans hb1.size hgt
      have hBw : ∀ x, x < n → tb x = true → w.heap.size ≤ B x := fun x hx e => by have := (hT.rows x hx e).1; have := hT.lt; omega
      have hRw : ∀ x, x < n → R x < w.heap.size := fun x hx => (hLw.rows x hx).lt
      refine ⟨v, rfl, .inl ⟨gt, tb, B, T, rfl, rfl, rfl, ⟨t3.row, fun j hj e => (t3.rows j hj e).2, l3.row.congr (fun x hx => by rw [if_neg (fun h9 => absurd h9.1 (Nat.not_lt_zero _))]), fun x hx => (l3.rows x hx).congr (fun z hz => by rw [if_neg (fun h9 => absurd h9.1.1 (Nat.not_lt_zero _))]), fun x hx => ⟨hLw.le x hx, hl x hx⟩, hLw.inj, fun x hx => ⟨hLw.ne x hx, by have := hRw x hx; omega, fun j hj e => by have := hRw x hx; have := hBw j hj e; omega⟩, fun j hj e => by have := hLw.row.lt; have := hBw j hj e; omega, by have := hLw.row.lt; omega⟩, F, lo, b02.trans (hb3.mono b02.size), ?_, ⟨hF, fun x hx => ?_⟩, fun x hx e => ⟨hBw x hx e, by have := (hT.rows x hx e).1; have := hT.lt; omega, fun z hz => ?_⟩, fun x y hx hy ex ey hne => hT.inj x y hx hy ex ey hne, hT.lt⟩⟩
      · rcases hG with h | ⟨g, c, H, a1, a2, a3, a4, a5⟩
        · exact .inl h
        · exact .inr ⟨g, c, H, a1, a2, Nat.le_trans b02.size a3, a4, a5⟩
      · have h9 := hX x hx
        simp only [Bool.false_eq_true, if_false] at h9
        exact h9.iff_
      · have h9 := hX x hx
        simp only [Bool.false_eq_true, if_false] at h9
        rw [h9.val e z hz, if_pos hz]
    · have b02 : Below w.heap.size w w2 := hb1.trans (hb2.mono hb1.size)
      refine ⟨none, 0, 190, rfl, (turned_nil19 _ w2).mono ?_⟩
      rintro e w3 ⟨rfl, rfl⟩
      exact ⟨_, rfl, .inr ⟨rfl, rfl, rfl, b02, hno⟩⟩
  · rintro e w' (⟨gt, tb, B, T, w3, v, rfl, ⟨F, lo, hb3, hG, ⟨hF, htb⟩, hT, hinj, hlo⟩, hS, hk⟩ | ⟨z, rfl, rfl, hb, y, hy, hno⟩)
    · have hRw : ∀ x, x < n → R x < w.heap.size := fun x hx => (hLw.rows x hx).lt
      have hsw : sb < w.heap.size := hLw.row.lt
      have hdm : ∀ x, x < n → ln x = 0 → ∀ z, z < L → dw19 f k (cnb (pre19 n ln) n) z (pre19 n ln) Sh (F z) x = cv19 f k (F z) x := fun x hx h0 z hz => by
        have hp : ¬ pre19 n ln x = true := fun h9 => (pre19_iff.1 h9).2 h0
        rw [dw_cv19 hkp (hF z hz).2.1, if_neg hp, Nat.xor_zero]
      have hdp : ∀ x, x < n → ln x ≠ 0 → ∀ z, z < L → dw19 f k (cnb (pre19 n ln) n) z (pre19 n ln) Sh (F z) x = cv19 f k (F z) x ^^^ G x z := fun x hx h0 z hz => by
        have hzc : z < C x := by have := hl x hx; have := hLw.le x hx; omega
        rw [dw_cv19 hkp (hF z hz).2.1, if_pos (pre19_iff.2 ⟨hx, h0⟩), hSh]
        show _ ^^^ (if x < n ∧ z < C x then G x z else 0) = _
        rw [if_pos ⟨hx, hzc⟩]
      have hne0 : ∀ x, x < n → ln x ≠ 0 → (tb x = true ↔ ∃ z, z < L ∧ cv19 f k (F z) x ≠ G x z) := fun x hx h0 => by
        rw [htb x hx]
        constructor
        · rintro (⟨h9, -⟩ | ⟨z, hz, h9⟩)
          · exact absurd (pre19_iff.2 ⟨hx, h0⟩) h9
          · exact ⟨z, hz, fun e => h9 (by rw [hdp x hx h0 z hz, e, Nat.xor_self])⟩
        · rintro ⟨z, hz, h9⟩
          exact .inr ⟨z, hz, fun e => h9 (by rw [hdp x hx h0 z hz] at e; exact xor_zero19 e)⟩
      have htm : ∀ x, x < n → ln x = 0 → tb x = true := fun x hx h0 => (htb x hx).2 (.inl ⟨fun h9 => (pre19_iff.1 h9).2 h0, by omega⟩)
      have hGe : ∀ x, x < n → ln x ≠ 0 → ∀ z, z < L → (if tb x = true ∧ z < L then G x z ^^^ T x z else G x z) = cv19 f k (F z) x := fun x hx h0 z hz => by
        by_cases e : tb x = true
        · rw [if_pos ⟨e, hz⟩, (hT x hx e).2.2 z hz, hdp x hx h0 z hz, Nat.xor_comm (cv19 f k (F z) x), ← Nat.xor_assoc, Nat.xor_self, Nat.zero_xor]
        · rw [if_neg (fun h9 => e h9.1)]
          exact (Classical.byContradiction fun h9 => e ((hne0 x hx h0).2 ⟨z, hz, fun e9 => h9 e9.symm⟩))
      refine .inl ⟨v, F, rfl, ⟨hf, h1, h1m, hn, hn2, hL1⟩, hl, hm, fun z hz => ⟨(hF z hz).1, (hF z hz).2.1, ?_⟩, ⟨tp19 tb ln, hG.keep hk (fun x hx e => ?_), fun x hx => ?_⟩, ⟨fun x => if ln x = 0 then B x else R x, fun x => if ln x = 0 then L else C x, fun x z => if ln x = 0 then T x z else if tb x = true ∧ z < L then G x z ^^^ T x z else G x z, ⟨hS.row.congr (fun x hx => ?_), fun x hx => ?_, fun x hx => ?_, fun x y hx hy hxy => ?_, fun x hx => ?_⟩, fun x hx => ⟨fun z hz => ?_, fun h0 => ⟨if_neg h0, if_neg h0, fun z hz => ?_⟩, fun h0 => ⟨?_, if_pos h0, ?_⟩⟩⟩, (ke_below hb3 _).trans hk⟩
      · have h9 := (hF z hz).2.2
        unfold Nr19 at h9
        rw [hnr z hz (F z) (hF z hz).2.1] at h9
        omega
      · rcases e with e | ⟨y, hy, e⟩
        · omega
        · have := hRw y hy; omega
      · unfold tp19
        rw [Bool.and_eq_true, decide_eq_true_iff]
        by_cases h0 : ln x = 0
        · exact ⟨fun h9 => absurd h9.2 (by omega), fun h9 => absurd h0 h9.1⟩
        · rw [hne0 x hx h0]
          exact ⟨fun h9 => ⟨h0, h9.1⟩, fun h9 => ⟨h9.2, by omega⟩⟩
      · by_cases h0 : ln x = 0
        · rw [if_pos ⟨hx, h0⟩, if_pos (htm x hx h0), if_pos h0, if_pos h0]
        · rw [if_neg (fun h9 => h0 h9.2), if_neg h0, if_neg h0, (hl x hx).resolve_right h0]
      · (try dsimp only)
        by_cases h0 : ln x = 0
        · simp only [if_pos h0]
          exact hS.trows x hx (htm x hx h0)
        · simp only [if_neg h0]
          refine (hS.rows x hx).congr (fun z hz => ?_)
          by_cases e : tb x = true ∧ z < L
          · rw [if_pos ⟨⟨hx, e.1, h0⟩, e.2⟩, if_pos e]
          · rw [if_neg (fun h9 => e ⟨h9.1.2.1, h9.2⟩), if_neg e]
      · (try dsimp only)
        by_cases h0 : ln x = 0
        · rw [if_pos h0]; exact Nat.le_refl _
        · rw [if_neg h0]; have := hl x hx; have := hLw.le x hx; omega
      · (try dsimp only)
        by_cases hx0 : ln x = 0
        · by_cases hy0 : ln y = 0
          · rw [if_pos hx0, if_pos hy0]; exact hinj x y hx hy (htm x hx hx0) (htm y hy hy0) hxy
          · rw [if_pos hx0, if_neg hy0]; have := (hT x hx (htm x hx hx0)).1; have := hRw y hy; omega
        · by_cases hy0 : ln y = 0
          · rw [if_neg hx0, if_pos hy0]; have := (hT y hy (htm y hy hy0)).1; have := hRw x hx; omega
          · rw [if_neg hx0, if_neg hy0]; exact hLw.inj x y hx hy hxy
      · (try dsimp only)
        by_cases h0 : ln x = 0
        · rw [if_pos h0]; exact hS.nb x hx (htm x hx h0)
        · rw [if_neg h0]; exact hLw.ne x hx
      · (try dsimp only)
        by_cases h0 : ln x = 0
        · rw [if_pos h0, (hT x hx (htm x hx h0)).2.2 z hz, hdm x hx h0 z hz]
        · rw [if_neg h0, hGe x hx h0 z hz]
      · (try dsimp only)
        rw [if_neg h0, if_neg (fun h9 => by omega)]
      · (try dsimp only)
        rw [if_pos h0]; exact (hT x hx (htm x hx h0)).1
      · exact (hS.rows x hx).congr (fun z hz => if_neg (fun h9 => h9.1.2.2 h0))
    · refine .inr ⟨rfl, hb, y, hy, fun F eF dF => ?_⟩
      have h9 := hno F eF dF
      unfold Nr19 at h9
      rw [hnr y hy F dF] at h9
      omega
end Go.Proofs.Ytddpdmggccpclaa
namespace Go.Proofs.Ytddpdmggccpclaa
open Go.RowKit Gf2
set_option linter.unusedVariables false

-- layer 19: Shards, whatever it is asked
theorem shards_any19 (f k m : Int) (n sb cs : Nat) (R ln C : Nat → Nat) (G : Nat → Nat → Nat) (w : World) (hk : I64 k) (hLw : Lw19 w sb n R ln C G) (hcs : n ≤ cs) (hcb : cs ≤ big) (hn : n ≤ 1048576) (hL : ∀ x, x < n → ln x ≤ 140737488351232) :
    Calls Try.prog 8 #[.int .i64 f, .int .i64 k, .int .i64 m, .slice (some ⟨sb, 0, none⟩) n cs] w fun e w' => (∃ (f' k' m' L : Nat) (v : Value) (F : Nat → Nat → Nat), f = f' ∧ k = k' ∧ m = m' ∧ e = .returned (.tuple #[v, .int .i64 0]) ∧ Ok19 w w' v f' k' m' n L sb R ln C G F) ∨ (∃ z, z ≠ 0 ∧ e = .returned (.tuple #[.slice none 0 0, .int .i64 z]) ∧ Below w.heap.size w w') := by
  have bad : ∀ z : Int, z ≠ 0 → Calls Try.prog 16 #[.int .i64 f, .int .i64 k, .int .i64 m, .slice (some ⟨sb, 0, none⟩) n cs] w (fun e w' => e = .returned (.tuple #[.slice none 0 0, .int .i64 z]) ∧ Below w.heap.size w w') → Calls Try.prog 8 #[.int .i64 f, .int .i64 k, .int .i64 m, .slice (some ⟨sb, 0, none⟩) n cs] w fun e w' => (∃ (f' k' m' L : Nat) (v : Value) (F : Nat → Nat → Nat), f = f' ∧ k = k' ∧ m = m' ∧ e = .returned (.tuple #[v, .int .i64 0]) ∧ Ok19 w w' v f' k' m' n L sb R ln C G F) ∨ (∃ z, z ≠ 0 ∧ e = .returned (.tuple #[.slice none 0 0, .int .i64 z]) ∧ Below w.heap.size w w') := fun z hz c => by
    refine (shards19 f k m n 0 sb cs R ln C G w (fun _ _ _ _ _ _ => False) (fun w3 y => y = z ∧ Below w.heap.size w w3) hn (c.mono ?_)).mono ?_
    · rintro e w2 ⟨rfl, hb⟩
      refine ⟨none, 0, z, rfl, (turned_nil19 _ w2).mono ?_⟩
      rintro e w3 ⟨rfl, rfl⟩
      exact ⟨_, rfl, .inr ⟨rfl, rfl, rfl, hb⟩⟩
    · rintro e w' (⟨_, _, _, _, _, _, _, h, _⟩ | ⟨y, rfl, rfl, hb⟩)
      · exact h.elim
      · exact .inr ⟨y, hz, rfl, hb⟩
  by_cases hf : f = 0 ∨ f = 1
  case neg =>
    refine bad 2 (by decide) ((turnsOf_family19 f k m _ w (fun e => hf (.inl e)) (fun e => hf (.inr e))).mono ?_)
    rintro e w' ⟨rfl, rfl⟩
    exact ⟨rfl, Below.refl _ _⟩
  obtain ⟨g, rfl, hg⟩ : ∃ g : Nat, f = g ∧ g ≤ 1 := by
    rcases hf with rfl | rfl
    · exact ⟨0, rfl, by decide⟩
    · exact ⟨1, rfl, by decide⟩
  have c1 := partial16 g k m (.slice (some ⟨sb, 0, none⟩) n cs) n ln w hk (hLw.ln hcs (by omega) hcb)
  by_cases hp : ple g k m n ln = 0
  case neg =>
    refine bad (ple g k m n ln) hp (turnsOf_no19 g k m _ _ w _ hg hp (c1.mono ?_))
    rintro e w' ⟨u, rfl, hP⟩
    exact ⟨_, u, rfl, hP.bel⟩
  obtain ⟨kk, mm', L, rfl, rfl, p1, p2, p3, p4, p5, p6, p7, p8, p9⟩ := part_ok19 hg hp
  have hL2 : L ≤ 140737488351232 := by
    have hs := pre_emp19 n ln
    have h0 : 0 < cnb (pre19 n ln) n := by omega
    obtain ⟨a1, a2, -, -⟩ := pk19_get h0
    have h3 := hL _ a1
    rw [(p7 _ a1).resolve_right (pre19_iff.1 a2).2] at h3
    exact h3
  refine (shards_ok19 g kk mm' n L sb cs R ln C G w hg hLw hcs hcb hp p6 p9 p1 p2 p3 p4 p5 hL2 p7 p8).mono ?_
  rintro e w' (⟨v, F, rfl, h⟩ | ⟨rfl, hb, -⟩)
  · exact .inl ⟨g, kk, mm', L, v, F, rfl, rfl, rfl, rfl, h⟩
  · exact .inr ⟨190, by decide, rfl, hb⟩
end Go.Proofs.Ytddpdmggccpclaa
namespace Go.Proofs.Ytddpdmggccpclaa
open Go.RowKit Gf2
set_option linter.unusedVariables false

-- layer 19: the laws' isColumn
theorem qq_step19 {l t i : Nat} (h : t ≠ l) : qq l (t + 1) i = fm 285 (qq l t i) (i ^^^ t) := by
  unfold qq
  show fm 285 (pr t _) (if t = l then 1 else i ^^^ t) = _
  rw [if_neg h]
theorem qq_skip19 (l i : Nat) : qq l (l + 1) i = qq l l i := by
  unfold qq
  show fm 285 (pr l _) (if l = l then 1 else i ^^^ l) = _
  rw [if_pos rfl, fld8.fm_one (pr_lt _ _)]
theorem wg_ne19 {k l : Nat} (hl : l < 256) (hk : k ≤ 256) : wg k l ≠ 0 := pr_ne k _ (fun t ht => by
    by_cases e : t = l
    · rw [if_pos e]; decide
    · rw [if_neg e]; exact ⟨xor_lt8 (by omega) (by omega), xor_ne (fun x => e x.symm)⟩)
/-- Lagrange's factor behind t rounds. -/
structure Jl19 (i l t c q : Nat) : Prop where
  lt : q < 256
  eq : fm 285 q (wg t l) = fm 285 (td c (i ^^^ l)) (qq l t i)
theorem Jl19.start (i l c : Nat) : Jl19 i l 0 c (td c (i ^^^ l)) := ⟨td_lt _ _, rfl⟩
theorem Jl19.skip {i l c q : Nat} (h : Jl19 i l l c q) : Jl19 i l (l + 1) c q := ⟨h.lt, by rw [wg_skip, qq_skip19]; exact h.eq⟩
theorem Jl19.step {i l t c q : Nat} (h : Jl19 i l t c q) (hne : t ≠ l) (hl : l < 256) (ht : t < 256) : Jl19 i l (t + 1) c (td (fm 285 q (i ^^^ t)) (l ^^^ t)) := by
  have x0 : l ^^^ t ≠ 0 := xor_ne (fun e => hne e.symm)
  have xl : l ^^^ t < 256 := xor_lt8 hl ht
  refine ⟨td_lt _ _, ?_⟩
  rw [wg_step hne, qq_step19 hne, ← fld8.fm_assoc (td c (i ^^^ l)), ← h.eq]
  unfold td
  rw [if_neg x0]
  -- q a x' w x = q w a
  rw [fm_comm 285 (wg t l) (l ^^^ t), ← fld8.fm_assoc (fm 285 (fm 285 q (i ^^^ t)) (fi 285 (l ^^^ t))), fld8.fm_assoc (fm 285 q (i ^^^ t)), fm_comm 285 (fi 285 (l ^^^ t)), fld8.fi_mul xl x0, fld8.fm_one (fld8.fm_lt _ _), fld8.fm_assoc, fld8.fm_assoc, fm_comm 285 (i ^^^ t)]
theorem Jl19.end_ {i l k c q : Nat} (h : Jl19 i l k c q) (hi : i < 256) (hl : l < k) (hk : k ≤ i) (hc : c < 256) : fm 285 q (i ^^^ l) = fm 285 (gen11 ((0 : Nat) : Int) k i l) c := by
  have x0 : i ^^^ l ≠ 0 := xor_ne (by omega)
  have xl : i ^^^ l < 256 := xor_lt8 hi (by omega)
  have w0 := wg_ne19 (k := k) (l := l) (by omega) (by omega)
  have wl := wg_lt k l
  have e1 : fm 285 (fm 285 q (i ^^^ l)) (wg k l) = fm 285 (qq l k i) c := by
    rw [fld8.fm_assoc, fm_comm 285 (i ^^^ l), ← fld8.fm_assoc, h.eq]
    unfold td
    rw [if_neg x0, fm_comm 285 (fm 285 c _), fld8.fm_assoc, fld8.fm_assoc, fm_comm 285 (fi 285 _), fld8.fi_mul xl x0, fld8.fm_one hc]
  have e2 : fm 285 (fm 285 (gen11 ((0 : Nat) : Int) k i l) c) (wg k l) = fm 285 (qq l k i) c := by
    show fm 285 (fm 285 (gen11 0 k i l) c) (wg k l) = _
    rw [gen0_eq hi hl (by omega), fld8.fm_assoc, fm_comm 285 c, fld8.fm_assoc, ← fld8.fm_assoc (fv (wg k l)), fv_mul wl w0, fld8.one_fm hc]
  have e3 : ∀ a b, a < 256 → b < 256 → fm 285 a (wg k l) = fm 285 b (wg k l) → a = b := fun a b ha hb e => by
    have : fm 285 (fm 285 a (wg k l)) (fi 285 (wg k l)) = fm 285 (fm 285 b (wg k l)) (fi 285 (wg k l)) := by rw [e]
    rwa [fld8.fm_assoc, fld8.fm_assoc, fld8.fi_mul wl w0, fld8.fm_one ha, fld8.fm_one hb] at this
  exact e3 _ _ (fld8.fm_lt _ _) (fld8.fm_lt _ _) (e1.trans e2.symm)
theorem cau19 {i l k c : Nat} (hk : k ≤ i) (hl : l < k) : td c (i ^^^ l) = fm 285 (gen11 ((1 : Nat) : Int) k i l) c := by
  have x0 : i ^^^ l ≠ 0 := xor_ne (by omega)
  show _ = fm 285 (gen11 1 k i l) c
  unfold gen11 par11
  rw [if_neg (by omega), if_pos (by decide)]
  unfold td
  rw [if_neg x0, fm_comm]
  congr 1
  show fi 285 (i ^^^ l) = cau k (i - k) l
  unfold cau ti
  rw [show k + (i - k) = i by omega, if_neg x0]
/-- the sum so far. -/
def sm19f (f k i : Nat) (c : Nat → Nat) (l : Nat) : Nat := sx l (fun j => fm 285 (gen11 (f : Int) k i j) (c j))
theorem sm19f_lt (f k i : Nat) (c : Nat → Nat) (l : Nat) : sm19f f k i c l < 256 := sx_lt (d := 8) (fun _ _ => fld8.fm_lt _ _)
theorem xb19 {i l : Nat} (hi : i < 256) (hl : l < 256) : bits .xor .i64 (i : Int) (l : Int) = ((i ^^^ l : Nat) : Int) ∧ IntKind.u8.wrap ((i ^^^ l : Nat) : Int) = ((i ^^^ l : Nat) : Int) := ⟨i64_xor_nat i l (by omega) (by omega), u8s19 (xor_lt8 hi hl)⟩
end Go.Proofs.Ytddpdmggccpclaa
namespace Go.Proofs.Ytddpdmggccpclaa
open Go.RowKit Gf2
set_option linter.unusedVariables false

-- layer 19: isColumn of a codeword's column (laid by wip/genmfo.py)
set_option maxHeartbeats 8000000 in
set_option maxRecDepth 100000 in
theorem isColumn19_1 (k m n : Nat) (u : Value) (c : Nat → Nat) (w : World) (h : Rb w u n c) (h1 : 1 ≤ k) (hn : n = k + m) (hn2 : n ≤ 256) (hc : Cw19 1 k n c) :
    Calls Try.prog 13 #[.int .i64 1, .int .i64 (k : Int), .int .i64 (m : Int), u] w fun e w' => e = .returned (.bool true) ∧ w' = w := by
  have HWn : Hid (wrap64 ((k : Int) + (m : Int)) = (n : Int)) := by show _ = _; unfold wrap64; omega
  obtain ⟨-, hlt, a, cap, rfl, -, -, h4⟩ := h
  have HH : Hid (1 ≤ k ∧ k ≤ n ∧ n ≤ 256 ∧ Cw19 1 k n c ∧ (∀ i, i < n → c i < 256) ∧ ∀ i, i < n → ∃ b o, a = some ⟨b, o, none⟩ ∧ w.cell? ⟨b, o + i, none⟩ = some (.int .u8 (c i : Nat))) := ⟨h1, by omega, hn2, hc, hlt, fun i hi => by
    obtain ⟨b, o, e, -, h5⟩ := h4 (by omega)
    exact ⟨b, o, e, h5 i hi⟩⟩
  clear h4 hlt hc hn2 hn h1
  go_enter Try.func13, Try.ntmps13
  go_wp2
  go_loopw [9] (fun s wr => ∃ i : Nat, k ≤ i ∧ i ≤ n ∧ s = .int .i64 (i : Int) ∧ wr = w) (fun s _ => n - (intOf s).toNat)
  case atStart => exact ⟨k, Nat.le_refl _, HH.out.2.1, rfl, rfl⟩
  case round =>
    obtain ⟨i, hki, hin, rfl, hw⟩ := hrel
    have hw := hw.symm
    subst hw
    by_cases hlt : i < n
    · have ib : ((i : Nat) : Int) < (n : Int) := Int.ofNat_lt.2 hlt
      have HI : Hid (k ≤ i ∧ i < n ∧ i < 256 ∧ k ≤ 256) := ⟨hki, hlt, by have := HH.out; omega, by have := HH.out; omega⟩
      clear hki hin hlt
      have Wn := HWn.out
      go_wp2
      clear Wn
      go_loopw [10, 11] (fun s l wr => ∃ j : Nat, j ≤ k ∧ s = .int .u8 (sm19f 1 k i c j : Nat) ∧ l = .int .i64 (j : Int) ∧ wr = w) (fun _ l _ => k - (intOf l).toNat)
      case atStart => exact ⟨0, Nat.zero_le _, rfl, rfl, rfl⟩
      case round =>
        obtain ⟨l, hlk, rfl, rfl, hw⟩ := hrel
        have hw := hw.symm
        subst hw
        by_cases hll : l < k
        · have ibl : ((l : Nat) : Int) < (k : Int) := Int.ofNat_lt.2 hll
          have ibn : ((l : Nat) : Int) < (n : Int) := by have := HH.out; omega
          obtain ⟨b, o, ea, q1⟩ := HH.out.2.2.2.2.2 l (by have := HH.out; omega)
          subst ea
          have hcl := HH.out.2.2.2.2.1 l (by have := HH.out; omega)
          have hx8 : i ^^^ l < 256 := xor_lt8 HI.out.2.2.1 (by have := HI.out; omega)
          have c1 := gdiv_all (c l) (i ^^^ l) w hcl hx8
          have hl8 : l < 256 := by have := HI.out; omega
          have HW1 : Hid (wrap64 ((l : Int) + 1) = (l : Int) + 1) := wrap_succ8 (j := l) (by have := HI.out; unfold big; omega)
          obtain ⟨XB, U8⟩ := xb19 (i := i) (l := l) HI.out.2.2.1 hl8
          have hE : td (c l) (i ^^^ l) = fm 285 (gen11 ((1 : Nat) : Int) k i l) (c l) := cau19 HI.out.1 hll
          rw [hE] at c1
          have XX := u8_xor_nat (sm19f 1 k i c l) (fm 285 (gen11 ((1 : Nat) : Int) k i l) (c l)) (sm19f_lt _ _ _ _ _) (fm8_lt _ _)
          have HE : Hid (l < k ∧ sm19f 1 k i c (l + 1) = sm19f 1 k i c l ^^^ fm 285 (gen11 ((1 : Nat) : Int) k i l) (c l)) := ⟨hll, rfl⟩
          generalize fm 285 (gen11 ((1 : Nat) : Int) k i l) (c l) = M at *
          generalize sm19f 1 k i c l = s0 at *
          generalize i ^^^ l = x at *
          clear hlk hll hE
          have W1 := HW1.out
          go_wp2_with (go_at_call 19; (with_reducible refine c1.mono ?_); rintro e w9 ⟨rfl, hw9⟩; have hw9 := hw9.symm; subst hw9; clear c1)
          go_roundw
          case rel => exact ⟨l + 1, HE.out.1, by rw [HE.out.2], by first | rfl | (rw [W1]; rfl), by trivial⟩
          case measure => first | exact meas_lt8 HE.out.1 | (rw [W1]; exact meas_lt8 HE.out.1)
        · have ibl : ¬ ((l : Nat) : Int) < (k : Int) := by omega
          have hlk2 : l = k := by omega
          have hs : sm19f 1 k i c l = c i := by rw [hlk2]; exact (HH.out.2.2.2.1 i HI.out.2.1).symm
          obtain ⟨b, o, ea, q1⟩ := HH.out.2.2.2.2.2 i HI.out.2.1
          subst ea
          rw [hs]
          have W1 := wrap_succ8 (j := i) (by have h9 := HI.out; clear ibl; unfold big; omega)
          generalize c i = ci at *
          clear hlk hll hlk2 hs
          go_wp2
          go_roundw
          case rel => exact ⟨i + 1, Nat.le_trans HI.out.1 (Nat.le_succ _), HI.out.2.1, by first | rfl | (rw [W1]; rfl), by trivial⟩
          case measure => first | exact meas_lt8 HI.out.2.1 | (rw [W1]; exact meas_lt8 HI.out.2.1)
    · have ib : ¬ ((i : Nat) : Int) < (n : Int) := by omega
      clear hki hin hlt
      have Wn := HWn.out
      go_wp2
      go_ret
      exact ⟨rfl, rfl⟩
set_option maxHeartbeats 8000000 in
set_option maxRecDepth 100000 in
theorem isColumn19_0 (k m n : Nat) (u : Value) (c : Nat → Nat) (w : World) (h : Rb w u n c) (h1 : 1 ≤ k) (hn : n = k + m) (hn2 : n ≤ 256) (hc : Cw19 0 k n c) :
    Calls Try.prog 13 #[.int .i64 0, .int .i64 (k : Int), .int .i64 (m : Int), u] w fun e w' => e = .returned (.bool true) ∧ w' = w := by
  have HWn : Hid (wrap64 ((k : Int) + (m : Int)) = (n : Int)) := by show _ = _; unfold wrap64; omega
  obtain ⟨-, hlt, a, cap, rfl, -, -, h4⟩ := h
  have HH : Hid (1 ≤ k ∧ k ≤ n ∧ n ≤ 256 ∧ Cw19 0 k n c ∧ (∀ i, i < n → c i < 256) ∧ ∀ i, i < n → ∃ b o, a = some ⟨b, o, none⟩ ∧ w.cell? ⟨b, o + i, none⟩ = some (.int .u8 (c i : Nat))) := ⟨h1, by omega, hn2, hc, hlt, fun i hi => by
    obtain ⟨b, o, e, -, h5⟩ := h4 (by omega)
    exact ⟨b, o, e, h5 i hi⟩⟩
  clear h4 hlt hc hn2 hn h1
  go_enter Try.func13, Try.ntmps13
  go_wp2
  go_loopw [9] (fun s wr => ∃ i : Nat, k ≤ i ∧ i ≤ n ∧ s = .int .i64 (i : Int) ∧ wr = w) (fun s _ => n - (intOf s).toNat)
  case atStart => exact ⟨k, Nat.le_refl _, HH.out.2.1, rfl, rfl⟩
  case round =>
    obtain ⟨i, hki, hin, rfl, hw⟩ := hrel
    have hw := hw.symm
    subst hw
    by_cases hlt : i < n
    · have ib : ((i : Nat) : Int) < (n : Int) := Int.ofNat_lt.2 hlt
      have HI : Hid (k ≤ i ∧ i < n ∧ i < 256 ∧ k ≤ 256) := ⟨hki, hlt, by have := HH.out; omega, by have := HH.out; omega⟩
      clear hki hin hlt
      have Wn := HWn.out
      go_wp2
      clear Wn
      go_loopw [10, 11] (fun s l wr => ∃ j : Nat, j ≤ k ∧ s = .int .u8 (sm19f 0 k i c j : Nat) ∧ l = .int .i64 (j : Int) ∧ wr = w) (fun _ l _ => k - (intOf l).toNat)
      case atStart => exact ⟨0, Nat.zero_le _, rfl, rfl, rfl⟩
      case round =>
        obtain ⟨l, hlk, rfl, rfl, hw⟩ := hrel
        have hw := hw.symm
        subst hw
        by_cases hll : l < k
        · have ibl : ((l : Nat) : Int) < (k : Int) := Int.ofNat_lt.2 hll
          have ibn : ((l : Nat) : Int) < (n : Int) := by have := HH.out; omega
          obtain ⟨b, o, ea, q1⟩ := HH.out.2.2.2.2.2 l (by have := HH.out; omega)
          subst ea
          have hcl := HH.out.2.2.2.2.1 l (by have := HH.out; omega)
          have hx8 : i ^^^ l < 256 := xor_lt8 HI.out.2.2.1 (by have := HI.out; omega)
          have c1 := gdiv_all (c l) (i ^^^ l) w hcl hx8
          have hl8 : l < 256 := by have := HI.out; omega
          have HW1 : Hid (wrap64 ((l : Int) + 1) = (l : Int) + 1) := wrap_succ8 (j := l) (by have := HI.out; unfold big; omega)
          obtain ⟨XB, U8⟩ := xb19 (i := i) (l := l) HI.out.2.2.1 hl8
          have HJ : Hid (Jl19 i l 0 (c l) (td (c l) (i ^^^ l)) ∧ l < k ∧ c l < 256) := ⟨Jl19.start _ _ _, hll, hcl⟩
          have HQ : Hid ((∀ t, l ^^^ t = l ^^^ t) ∧ i ^^^ l < 256) := ⟨fun _ => rfl, hx8⟩
          obtain ⟨q0, hq0⟩ : ∃ q0, q0 = td (c l) (i ^^^ l) := ⟨_, rfl⟩
          rw [← hq0] at c1 HJ
          obtain ⟨x, hx⟩ : ∃ x, Hid (x = i ^^^ l) := ⟨_, rfl⟩
          rw [← hx.out] at c1 XB U8
          have HXU : Hid (bits .xor .i64 (i : Int) (l : Int) = (x : Int) ∧ IntKind.u8.wrap (x : Int) = (x : Int)) := ⟨XB, U8⟩
          clear hlk hll hq0 HQ hcl hx8
          go_wp2_with (go_at_call 19; (with_reducible refine c1.mono ?_); rintro e w9 ⟨rfl, hw9⟩; have hw9 := hw9.symm; subst hw9; clear c1)
          clear XB U8
          go_loopw [12, 14] (fun s z wr => ∃ t q : Nat, t ≤ k ∧ s = .int .u8 (q : Nat) ∧ z = .int .i64 (t : Int) ∧ Jl19 i l t (c l) q ∧ wr = w) (fun _ z _ => k - (intOf z).toNat)
          case atStart => exact ⟨0, q0, Nat.zero_le _, rfl, rfl, HJ.out.1, rfl⟩
          case round =>
            obtain ⟨t, q, htk, rfl, rfl, hJ, hw⟩ := hrel
            have hw := hw.symm
            subst hw
            by_cases htl : t < k
            · have ibt : ((t : Nat) : Int) < (k : Int) := Int.ofNat_lt.2 htl
              have ht8 : t < 256 := by have := HI.out; omega
              have HW2 : Hid (wrap64 ((t : Int) + 1) = (t : Int) + 1) := wrap_succ8 (j := t) (by unfold big; omega)
              by_cases he : t = l
              · have D1 : (((t : Nat) : Int) != (l : Int)) = false := by simp [he]
                have HK : Hid (t < k ∧ Jl19 i l (t + 1) (c l) q) := ⟨htl, by subst he; exact hJ.skip⟩
                clear htk htl hJ he
                have W2 := HW2.out
                go_wp2
                go_roundw
                case rel => exact ⟨t + 1, q, HK.out.1, rfl, by first | rfl | (rw [W2]; rfl), HK.out.2, by trivial⟩
                case measure => first | exact meas_lt8 HK.out.1 | (rw [W2]; exact meas_lt8 HK.out.1)
              · have D1 : (((t : Nat) : Int) != (l : Int)) = true := by simp; omega
                have y1 : i ^^^ t < 256 := xor_lt8 HI.out.2.2.1 ht8
                have y2 : l ^^^ t < 256 := xor_lt8 hl8 ht8
                have d1 := gmul_nat q (i ^^^ t) w hJ.lt y1
                have d2 := gdiv_all (fm 285 q (i ^^^ t)) (l ^^^ t) w (fm8_lt _ _) y2
                have HK : Hid (t < k ∧ Jl19 i l (t + 1) (c l) (td (fm 285 q (i ^^^ t)) (l ^^^ t))) := ⟨htl, hJ.step he hl8 ht8⟩
                obtain ⟨X1, U1⟩ := xb19 (i := i) (l := t) HI.out.2.2.1 ht8
                have HX2 : Hid _ := xb19 (i := l) (l := t) hl8 ht8
                generalize td (fm 285 q (i ^^^ t)) (l ^^^ t) = q2 at *
                generalize fm 285 q (i ^^^ t) = q1 at *
                generalize i ^^^ t = x1 at *
                generalize l ^^^ t = x2 at *
                clear htk htl hJ he y1 y2 ht8
                go_wp2_with (first
                  | (go_at_call 20; (with_reducible refine d1.mono ?_); rintro e w9 ⟨rfl, hw9⟩; have hw9 := hw9.symm; subst hw9; clear d1 X1 U1; obtain ⟨X2, U2⟩ := HX2.out)
                  | (go_at_call 19; (with_reducible refine d2.mono ?_); rintro e w9 ⟨rfl, hw9⟩; have hw9 := hw9.symm; subst hw9; clear d2 X2 U2; have W2 := HW2.out))
                go_roundw
                case rel => exact ⟨t + 1, q2, HK.out.1, rfl, by first | rfl | (rw [W2]; rfl), HK.out.2, by trivial⟩
                case measure => first | exact meas_lt8 HK.out.1 | (rw [W2]; exact meas_lt8 HK.out.1)
            · have ibt : ¬ ((t : Nat) : Int) < (k : Int) := by omega
              have htk2 : t = k := by omega
              have d1 := gmul_nat q (i ^^^ l) w hJ.lt (xor_lt8 HI.out.2.2.1 hl8)
              have eM : fm 285 q (i ^^^ l) = fm 285 (gen11 ((0 : Nat) : Int) k i l) (c l) := (htk2 ▸ hJ).end_ HI.out.2.2.1 HJ.out.2.1 HI.out.1 HJ.out.2.2
              rw [eM, ← hx.out] at d1
              have XX := u8_xor_nat (sm19f 0 k i c l) (fm 285 (gen11 ((0 : Nat) : Int) k i l) (c l)) (sm19f_lt _ _ _ _ _) (fm8_lt _ _)
              have HE : Hid (l < k ∧ sm19f 0 k i c (l + 1) = sm19f 0 k i c l ^^^ fm 285 (gen11 ((0 : Nat) : Int) k i l) (c l)) := ⟨HJ.out.2.1, rfl⟩
              generalize fm 285 (gen11 ((0 : Nat) : Int) k i l) (c l) = M at *
              generalize sm19f 0 k i c l = s0 at *
              clear htk hJ htl htk2 eM
              obtain ⟨XB, U8⟩ := HXU.out
              have W1 := HW1.out
              go_wp2_with (go_at_call 20; (with_reducible refine d1.mono ?_); rintro e w9 ⟨rfl, hw9⟩; have hw9 := hw9.symm; subst hw9; clear d1)
              go_roundw
              case rel => exact ⟨l + 1, HE.out.1, by rw [HE.out.2], by first | rfl | (rw [W1]; rfl), by trivial⟩
              case measure => first | exact meas_lt8 HE.out.1 | (rw [W1]; exact meas_lt8 HE.out.1)
        · have ibl : ¬ ((l : Nat) : Int) < (k : Int) := by omega
          have hlk2 : l = k := by omega
          have hs : sm19f 0 k i c l = c i := by rw [hlk2]; exact (HH.out.2.2.2.1 i HI.out.2.1).symm
          obtain ⟨b, o, ea, q1⟩ := HH.out.2.2.2.2.2 i HI.out.2.1
          subst ea
          rw [hs]
          have W1 := wrap_succ8 (j := i) (by have h9 := HI.out; clear ibl; unfold big; omega)
          generalize c i = ci at *
          clear hlk hll hlk2 hs
          go_wp2
          go_roundw
          case rel => exact ⟨i + 1, Nat.le_trans HI.out.1 (Nat.le_succ _), HI.out.2.1, by first | rfl | (rw [W1]; rfl), by trivial⟩
          case measure => first | exact meas_lt8 HI.out.2.1 | (rw [W1]; exact meas_lt8 HI.out.2.1)
    · have ib : ¬ ((i : Nat) : Int) < (n : Int) := by omega
      clear hki hin hlt
      have Wn := HWn.out
      go_wp2
      go_ret
      exact ⟨rfl, rfl⟩
theorem isColumn19 (f k m n : Nat) (u : Value) (c : Nat → Nat) (w : World) (h : Rb w u n c) (hf : f ≤ 1) (h1 : 1 ≤ k) (hn : n = k + m) (hn2 : n ≤ 256) (hc : Cw19 f k n c) :
    Calls Try.prog 13 #[.int .i64 (f : Int), .int .i64 (k : Int), .int .i64 (m : Int), u] w fun e w' => e = .returned (.bool true) ∧ w' = w := by
  rcases (show f = 0 ∨ f = 1 by omega) with rfl | rfl
  · exact isColumn19_0 k m n u c w h h1 hn hn2 hc
  · exact isColumn19_1 k m n u c w h h1 hn hn2 hc
end Go.Proofs.Ytddpdmggccpclaa
namespace Go.Proofs.Ytddpdmggccpclaa
open Go.RowKit Gf2
set_option linter.unusedVariables false

-- layer 19: the laws' twin
theorem Fl.lw19 {w wr : World} {g m : Nat} {n C B : Nat → Nat} {S : Nat → Nat → Nat} (h : Fl w wr g m m n C B S) : Lw19 wr g m B n C S :=
  ⟨h.list.congr (fun i hi => if_pos hi), fun x hx => (h.rows x hx).2.2.2, fun x hx => (h.rows x hx).2.2.1, fun x y hx hy hne e => hne (h.inj x y hx hy e), fun x hx => (h.rows x hx).2.1⟩
theorem Lw19.lb {w : World} {g m cs : Nat} {n C B : Nat → Nat} {S : Nat → Nat → Nat} (h : Lw19 w g m B n C S) (hc : m ≤ cs) (hcb : cs ≤ big) : Lb w (.slice (some ⟨g, 0, none⟩) m cs) m n S :=
  ⟨fun x => .slice (some ⟨B x, 0, none⟩) (n x) (C x), ⟨Nat.le_trans hc hcb, _, _, rfl, hc, hcb, fun _ => ⟨g, 0, rfl, ⟨h.row.lt, fun e => e⟩, fun i hi => by rw [Nat.zero_add]; exact h.row.cell hi⟩⟩, fun i hi => ((h.rows i hi).rb0.cut8 (h.le i hi)).re (fun _ _ e => e)⟩
set_option maxHeartbeats 4000000 in
set_option maxRecDepth 100000 in
theorem twin19 (u : Value) (m : Nat) (n : Nat → Nat) (S : Nat → Nat → Nat) (w : World) (h : Lb w u m n S) (hm : 24 * m ≤ 140737488355328) (hnb : ∀ i, i < m → n i ≤ 140737488355328) :
    Calls Try.prog 7 #[u] w fun e w' => ∃ C B T, e = .returned (.slice (some ⟨w.heap.size, 0, none⟩) m m) ∧ Fl w w' w.heap.size m m n C B T ∧ ∀ i, i < m → ∀ j, j < n i → T i j = S i j := by
  have hmk := make_rows m hm
  obtain ⟨V, ⟨hn, a, cap, rfl, -, -, h4⟩, hV⟩ := h
  have HV : Hid ((∀ i, i < m → ∃ b o x cx, a = some ⟨b, o, none⟩ ∧ ∀ y, Below w.heap.size w y → y.cell? ⟨b, o + i, none⟩ = some (.slice x (n i) cx) ∧ Rb y (.slice x (n i) cx) (n i) (S i)) ∧ 24 * m ≤ 140737488355328 ∧ ∀ i, i < m → n i ≤ 140737488355328) := ⟨fun i hi => by
    obtain ⟨b, o, rfl, hbl, hc⟩ := h4 (by omega)
    obtain ⟨x, cx, e⟩ : ∃ x cx, V i = .slice x (n i) cx := by obtain ⟨_, _, x, y, e, _⟩ := hV i hi; exact ⟨x, y, e⟩
    refine ⟨b, o, x, cx, rfl, fun y hy => ?_⟩
    have hr := (hV i hi).rb.below hy
    rw [e] at hr
    exact ⟨by rw [← e, ← hc i hi]; exact hy.cell (p := ⟨b, o + i, none⟩) hbl.1, hr⟩, hm, hnb⟩
  clear h4 hV hn hnb hm
  go_enter Try.func7, Try.ntmps7
  go_wp2
  clear hmk
  go_loopw [4] (fun i wr => ∃ (k : Nat) (C B : Nat → Nat) (T : Nat → Nat → Nat), k ≤ m ∧ i = .int .i64 k ∧ Fl w wr w.heap.size m k n C B T ∧ ∀ i, i < k → ∀ j, j < n i → T i j = S i j) (fun i _ => m - (intOf i).toNat)
  case atStart => exact ⟨0, fun _ => 0, fun _ => 0, fun _ _ => 0, Nat.zero_le _, rfl, Fl.start _ _ _ _ _ _, fun i hi => absurd hi (Nat.not_lt_zero _)⟩
  case round =>
    obtain ⟨k, C, B, T, hk, rfl, hF, hT⟩ := hrel
    by_cases hlt : k < m
    · obtain ⟨b, o, x, cx, rfl, hy⟩ := HV.out.1 k hlt
      have hrb := (hy wr hF.bel).2
      obtain ⟨w1, g, Cg, F, hrun, hC, hg, hg1, hR, hFF, hb1⟩ := copy_app wr hrb (HV.out.2.2 k hlt)
      have bA := balloc16 wr (.cells #[] 5)
      have q1 := (hy _ (bthen16 hF.bel bA)).1
      have hFx := hF.below hb1
      have q2 := hFx.bare hlt
      have q3 := hFx.froz k
      have hN := hF.next (l := n k) hlt hb1 hg hR hC
      have HD : Hid (Fl w (w1.setCell ⟨w.heap.size, k, none⟩ (.slice (some ⟨g, 0, none⟩) (n k) Cg)) w.heap.size m (k + 1) n (upn C k Cg) (upn B k g) (upn T k F) ∧ ∀ i, i < k + 1 → ∀ j, j < n i → upn T k F i j = S i j) := by
        refine ⟨hN.congr (fun i _ => ?_) (fun _ _ => rfl) (fun _ _ => rfl) (fun _ _ _ _ => rfl), fun i hi j hj => ?_⟩
        · by_cases e : i = k
          · rw [e, upn_same]
          · rw [upn_other _ _ e]
        · by_cases e : i = k
          · subst e; rw [upn_same]; exact hFF j hj
          · rw [upn_other _ _ e]; exact hT i (by omega) j hj
      have ib : ((k : Nat) : Int) < (m : Int) := by omega
      have W1 := wrap_succ8 (j := k) (by have := HV.out.2.1; unfold big; omega)
      have HX : Hid (k < m) := hlt
      generalize n k = nk at *
      clear hF hT hy hrb hC hg hg1 hR hFF hb1 bA hFx hN hk hlt HV
      go_wp2_with (at_builtin; refine Lib.wpList_append_run _ rfl _ _ _ _ rfl _ _ rfl rfl _ _ hrun ?_)
      go_roundw
      case rel => exact ⟨k + 1, _, _, _, HX.out, by first | rfl | (rw [W1]; rfl), HD.out.1, HD.out.2⟩
      case measure => first | exact meas_lt8 HX.out | (rw [W1]; exact meas_lt8 HX.out)
    · have htl : ¬ ((k : Nat) : Int) < (m : Int) := fun e => hlt (Int.ofNat_lt.1 e)
      obtain rfl : k = m := by omega
      have HD : Hid (Fl w wr w.heap.size k k n C B T ∧ ∀ i, i < k → ∀ j, j < n i → T i j = S i j) := ⟨hF, hT⟩
      clear hF hT HV
      go_wp2
      go_ret
      exact ⟨rfl, C, B, T, HD.out.1, HD.out.2⟩
end Go.Proofs.Ytddpdmggccpclaa
