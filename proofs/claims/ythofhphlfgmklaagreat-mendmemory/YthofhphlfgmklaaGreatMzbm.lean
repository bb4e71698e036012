import Derived.Test.YthofhphlfgmklaaGreatMzbi
import Derived.Test.YthofhphlfgmklaaGreatMzbl
import Derived.Test.YthofhphlfgmklaaGreatMzal
import Derived.Test.YthofhphlfgmklaaGreatMzam
import Derived.Test.YthofhphlfgmklaaGreatMzay
namespace Go.Proofs.YthofhphlfgmklaaGreat
open Go.RowKit Gf2
set_option linter.unusedVariables false

-- layer 19: numbers that are named, and Partial's answer
theorem ems_cnb19 (P : Nat → Bool) : ∀ n, (ems P n).length = cnb P n
  | 0 => rfl
  | n + 1 => by
    have ih := ems_cnb19 P n
    cases h : P n with
    | true => rw [ems_len_yes h, cnb_yes h, ih]
    | false => rw [ems_no h, cnb_no h, ih]
theorem emz_fsel19 (P : Nat → Bool) : ∀ n i, i < cnb P n → emz P n i = fsel P (fun j => j) n i
  | 0, i, h => absurd h (Nat.not_lt_zero _)
  | n + 1, i, h => by
    have ih := emz_fsel19 P n i
    cases hp : P n with
    | true =>
      rw [← emz_step hp i (by rw [ems_cnb19]; exact h), fsel_yes hp, ems_cnb19]
      show (if i < cnb P n then emz P n i else (n : Int)) = (if i < cnb P n then fsel P (fun j => j) n i else ((n : Nat) : Int))
      by_cases e : i < cnb P n
      · rw [if_pos e, if_pos e, ih e]
      · rw [if_neg e, if_neg e]
    | false =>
      rw [fsel_no hp]
      rw [cnb_no hp] at h
      have e : emz P (n + 1) i = emz P n i := by unfold emz; rw [ems_no hp]
      rw [e, ih h]
theorem emz_pk19 {P : Nat → Bool} {n i : Nat} (h : i < cnb P n) : emz P n i = ((pk19 P n i : Nat) : Int) := by
  rw [emz_fsel19 P n i h, (pk19_get h).2.2.2]
theorem cnb_not19 (P : Nat → Bool) : ∀ n, cnb P n + cnb (fun x => !P x) n = n
  | 0 => rfl
  | n + 1 => by
    have ih := cnb_not19 P n
    cases h : P n with
    | true => rw [cnb_yes h, cnb_no (P := fun x => !P x) (by rw [h]; rfl)]; omega
    | false => rw [cnb_no h, cnb_yes (P := fun x => !P x) (by rw [h]; rfl)]; omega
theorem cnb_le19 (P : Nat → Bool) (n : Nat) : cnb P n ≤ n := by have := cnb_not19 P n; omega
theorem pk19_step {P : Nat → Bool} {n i : Nat} (h : i < cnb P n) : pk19 P (n + 1) i = pk19 P n i := by
  unfold pk19
  cases hp : P n with
  | true => rw [fsel_yes hp]; show (if i < cnb P n then _ else _ : Int).toNat = _; rw [if_pos h]
  | false => rw [fsel_no hp]
theorem pk19_last {P : Nat → Bool} {n : Nat} (hp : P n = true) : pk19 P (n + 1) (cnb P n) = n := by
  unfold pk19
  rw [fsel_yes hp]
  show (if cnb P n < cnb P n then _ else ((n : Nat) : Int)).toNat = n
  rw [if_neg (Nat.lt_irrefl _)]
  rfl
/-- to count among those that are named. -/
theorem cnb_pk19 (P Q : Nat → Bool) : ∀ n, cnb (fun i => Q (pk19 P n i)) (cnb P n) = cnb (fun x => P x && Q x) n
  | 0 => rfl
  | n + 1 => by
    have ih := cnb_pk19 P Q n
    cases hp : P n with
    | true =>
      rw [cnb_yes hp]
      show cnb (fun i => Q (pk19 P (n + 1) i)) (cnb P n) + (if Q (pk19 P (n + 1) (cnb P n)) then 1 else 0) = cnb (fun x => P x && Q x) n + (if P n && Q n then 1 else 0)
      rw [pk19_last hp, cnb_congr (n := cnb P n) (P' := fun i => Q (pk19 P n i)) (fun i hi => by show Q _ = Q _; rw [pk19_step hi]), ih, hp, Bool.true_and]
    | false =>
      rw [cnb_no hp, cnb_no (P := fun x => P x && Q x) (by rw [hp]; rfl), ← ih]
      exact cnb_congr (fun i hi => by show Q _ = Q _; rw [pk19_step hi])
/-- which shards are there. -/
def pre19 (n : Nat) (ln : Nat → Nat) (x : Nat) : Bool := decide (x < n) && decide (ln x ≠ 0)
theorem pre19_iff {n : Nat} {ln : Nat → Nat} {x : Nat} : pre19 n ln x = true ↔ x < n ∧ ln x ≠ 0 := by unfold pre19; simp
theorem pre_emp19 (n : Nat) (ln : Nat → Nat) : cnb (pre19 n ln) n + cnb (emp ln) n = n := by
  rw [← cnb_congr (P := fun x => !(emp ln x)) (P' := pre19 n ln) (n := n) (fun x hx => by
    cases h : pre19 n ln x with
    | true =>
      have := (pre19_iff.1 h).2
      show (!(ln x == 0)) = true
      simpa using this
    | false =>
      have h2 : ¬ (x < n ∧ ln x ≠ 0) := fun h9 => by rw [pre19_iff.2 h9] at h; cases h
      have h3 : ln x = 0 := by omega
      show (!(ln x == 0)) = false
      simp [h3])]
  have := cnb_not19 (emp ln) n
  omega
end Go.Proofs.YthofhphlfgmklaaGreat
namespace Go.Proofs.YthofhphlfgmklaaGreat
open Go.RowKit Gf2
set_option linter.unusedVariables false

-- layer 19: turnsOf and Shards over a list of shards in blocks of their own
/-- a list of n shards in block sb, each in a block of its own. -/
structure Lw19 (W : World) (sb n : Nat) (R ln C : Nat → Nat) (G : Nat → Nat → Nat) : Prop where
  row : W.rowIs sb 31 n (fun x => .slice (some ⟨R x, 0, none⟩) (ln x) (C x))
  rows : ∀ x, x < n → Rw W (R x) (C x) (G x)
  le : ∀ x, x < n → ln x ≤ C x
  inj : ∀ x y, x < n → y < n → x ≠ y → R x ≠ R y
  ne : ∀ x, x < n → R x ≠ sb
theorem Lw19.below {W W' : World} {sb n : Nat} {R ln C : Nat → Nat} {G : Nat → Nat → Nat} (h : Lw19 W sb n R ln C G) (hb : Below W.heap.size W W') : Lw19 W' sb n R ln C G :=
  ⟨h.row.of_block (hb.block _ h.row.lt), fun x hx => rw_below (h.rows x hx) hb, h.le, h.inj, h.ne⟩
theorem Lw19.ln {W : World} {sb n : Nat} {R ln C : Nat → Nat} {G : Nat → Nat → Nat} (h : Lw19 W sb n R ln C G) {cs : Nat} (hn : n ≤ cs) (hn2 : n ≤ 281474976710656) (hc : cs ≤ big) : Ln W (.slice (some ⟨sb, 0, none⟩) n cs) n ln :=
  ⟨hn2, fun x hx => Nat.le_trans (h.le x hx) (h.rows x hx).1, _, _, rfl, hn, hc, fun _ => ⟨sb, 0, rfl, h.row.lt, fun i hi => ⟨_, _, by rw [Nat.zero_add]; exact h.row.cell hi⟩⟩⟩
/-- a byte of the codeword. -/
def cv19 (f k : Nat) (F : Nat → Nat) (x : Nat) : Nat := fm 285 (fi 285 (sc19 f k x)) (pe 285 x k F)
theorem dw_cv19 {f k np z x : Nat} {prb : Nat → Bool} {Sh : Nat → Nat → Nat} {F : Nat → Nat} (hk : k ≤ np) (dF : Dg F k) : dw19 f k np z prb Sh F x = cv19 f k F x ^^^ (if prb x then Sh x z else 0) := by
  unfold dw19 cv19
  rw [fld8.pe_cut x dF hk]
theorem nat_pk19 {P : Nat → Bool} {n : Nat} {w w1 : World} {u : Value} {l : Nat} (h : Gi w w1 u l (emz P n)) (hl : l = cnb P n) : ∃ a c, u = .slice a (cnb P n) c ∧ Qi w1 (.slice a (cnb P n) c) (cnb P n) (fun i => ((pk19 P n i : Nat) : Int)) := by
  subst hl
  obtain ⟨a, c, rfl⟩ := h.form
  exact ⟨a, c, rfl, (Gi.rb h).congr (fun i hi => emz_pk19 hi)⟩
end Go.Proofs.YthofhphlfgmklaaGreat
namespace Go.Proofs.YthofhphlfgmklaaGreat
open Go.RowKit Gf2
set_option linter.unusedVariables false

-- layer 19: Shards, in all cases
theorem cv_iff19 {f k np x g : Nat} {F : Nat → Nat} (hx : x < 256) (hk : k ≤ 256) (hkn : k ≤ np) (dF : Dg F k) (hg : g < 256) : pe 285 x np F = fm 285 (sc19 f k x) g ↔ cv19 f k F x = g := by
  have s0 := sc19_ne (f := f) hx hk
  have sl := sc19_lt f k x
  unfold cv19
  rw [fld8.pe_cut x dF hkn]
  constructor
  · intro e
    rw [e, ← fld8.fm_assoc, fm_comm 285 (fi 285 _), fld8.fi_mul sl s0, fld8.one_fm hg]
  · intro e
    rw [← e, ← fld8.fm_assoc, fld8.fi_mul sl s0, fld8.one_fm (fld8.pe_lt _ _ _)]
theorem nr_cnt19 {f k n L z : Nat} {ln C : Nat → Nat} {G : Nat → Nat → Nat} {F : Nat → Nat} (hk : k ≤ cnb (pre19 n ln) n) (hn : n ≤ 256) (dF : Dg F k) (hl : ∀ x, x < n → ln x = L ∨ ln x = 0) (hC : ∀ x, x < n → ln x ≤ C x) (hz : z < L) (hG : ∀ x, x < n → ∀ y, y < C x → G x y < 256) :
    cnb (fun i => decide (pe 285 (pk19 (pre19 n ln) n i) (cnb (pre19 n ln) n) F ≠ yv19 f k z (pk19 (pre19 n ln) n) (fun x z => if x < n ∧ z < C x then G x z else 0) i)) (cnb (pre19 n ln) n) = cnb (fun x => pre19 n ln x && decide (cv19 f k F x ≠ G x z)) n := by
  rw [← cnb_pk19 (pre19 n ln) (fun x => decide (cv19 f k F x ≠ G x z)) n]
  have hs := cnb_le19 (pre19 n ln) n
  refine cnb_congr (fun i hi => ?_)
  obtain ⟨a1, a2, -, -⟩ := pk19_get hi
  have hx := (pre19_iff.1 a2).2
  have hzc : z < C (pk19 (pre19 n ln) n i) := by have := hl _ a1; have := hC _ a1; omega
  unfold yv19
  show decide (_ ≠ fm 285 _ (if pk19 (pre19 n ln) n i < n ∧ z < C (pk19 (pre19 n ln) n i) then G (pk19 (pre19 n ln) n i) z else 0)) = _
  rw [if_pos ⟨a1, hzc⟩]
  have h9 := cv_iff19 (f := f) (k := k) (x := pk19 (pre19 n ln) n i) (g := G (pk19 (pre19 n ln) n i) z) (by omega) (by omega) hk dF (hG _ a1 z hzc)
  exact decide_eq_decide.2 (not_congr h9)
end Go.Proofs.YthofhphlfgmklaaGreat
namespace Go.Proofs.YthofhphlfgmklaaGreat
open Go.RowKit Gf2
set_option linter.unusedVariables false

-- layer 19: the laws' isColumn
theorem cau19 {i l k c : Nat} (hk : k ≤ i) (hl : l < k) : td c (i ^^^ l) = fm 285 (gen11 ((1 : Nat) : Int) k i l) c := by
  have x0 : i ^^^ l ≠ 0 := xor_ne (by omega)
  show _ = fm 285 (gen11 1 k i l) c
  unfold gen11 par11
  rw [if_neg (by omega), if_pos (by decide)]
  unfold td
  rw [if_neg x0, fm_comm]
  congr 1
  show fi 285 (i ^^^ l) = cau k (i - k) l
  unfold cau ti
  rw [show k + (i - k) = i by omega, if_neg x0]
/-- the sum so far. -/
def sm19f (f k i : Nat) (c : Nat → Nat) (l : Nat) : Nat := sx l (fun j => fm 285 (gen11 (f : Int) k i j) (c j))
theorem sm19f_lt (f k i : Nat) (c : Nat → Nat) (l : Nat) : sm19f f k i c l < 256 := sx_lt (d := 8) (fun _ _ => fld8.fm_lt _ _)
theorem xb19 {i l : Nat} (hi : i < 256) (hl : l < 256) : bits .xor .i64 (i : Int) (l : Int) = ((i ^^^ l : Nat) : Int) ∧ IntKind.u8.wrap ((i ^^^ l : Nat) : Int) = ((i ^^^ l : Nat) : Int) := ⟨i64_xor_nat i l (by omega) (by omega), u8s19 (xor_lt8 hi hl)⟩
end Go.Proofs.YthofhphlfgmklaaGreat
namespace Go.Proofs.YthofhphlfgmklaaGreat
open Go.RowKit Gf2
set_option linter.unusedVariables false

-- layer 19: the laws' twin
theorem Fl.lw19 {w wr : World} {g m : Nat} {n C B : Nat → Nat} {S : Nat → Nat → Nat} (h : Fl w wr g m m n C B S) : Lw19 wr g m B n C S :=
  ⟨h.list.congr (fun i hi => if_pos hi), fun x hx => (h.rows x hx).2.2.2, fun x hx => (h.rows x hx).2.2.1, fun x y hx hy hne e => hne (h.inj x y hx hy e), fun x hx => (h.rows x hx).2.1⟩
theorem Lw19.lb {w : World} {g m cs : Nat} {n C B : Nat → Nat} {S : Nat → Nat → Nat} (h : Lw19 w g m B n C S) (hc : m ≤ cs) (hcb : cs ≤ big) : Lb w (.slice (some ⟨g, 0, none⟩) m cs) m n S :=
  ⟨fun x => .slice (some ⟨B x, 0, none⟩) (n x) (C x), ⟨Nat.le_trans hc hcb, _, _, rfl, hc, hcb, fun _ => ⟨g, 0, rfl, ⟨h.row.lt, fun e => e⟩, fun i hi => by rw [Nat.zero_add]; exact h.row.cell hi⟩⟩, fun i hi => ((h.rows i hi).rb0.cut8 (h.le i hi)).re (fun _ _ e => e)⟩
set_option maxHeartbeats 4000000 in
set_option maxRecDepth 100000 in
theorem twin19 (u : Value) (m : Nat) (n : Nat → Nat) (S : Nat → Nat → Nat) (w : World) (h : Lb w u m n S) (hm : 24 * m ≤ 140737488355328) (hnb : ∀ i, i < m → n i ≤ 140737488355328) :
    Calls Tryz.prog 9 #[u] w fun e w' => ∃ C B T, e = .returned (.slice (some ⟨w.heap.size, 0, none⟩) m m) ∧ Fl w w' w.heap.size m m n C B T ∧ ∀ i, i < m → ∀ j, j < n i → T i j = S i j := by
  have hmk := make_rows m hm
  obtain ⟨V, ⟨hn, a, cap, rfl, -, -, h4⟩, hV⟩ := h
  have HV : Hid ((∀ i, i < m → ∃ b o x cx, a = some ⟨b, o, none⟩ ∧ ∀ y, Below w.heap.size w y → y.cell? ⟨b, o + i, none⟩ = some (.slice x (n i) cx) ∧ Rb y (.slice x (n i) cx) (n i) (S i)) ∧ 24 * m ≤ 140737488355328 ∧ ∀ i, i < m → n i ≤ 140737488355328) := ⟨fun i hi => by
    obtain ⟨b, o, rfl, hbl, hc⟩ := h4 (by omega)
    obtain ⟨x, cx, e⟩ : ∃ x cx, V i = .slice x (n i) cx := by obtain ⟨_, _, x, y, e, _⟩ := hV i hi; exact ⟨x, y, e⟩
    refine ⟨b, o, x, cx, rfl, fun y hy => ?_⟩
    have hr := (hV i hi).rb.below hy
    rw [e] at hr
    exact ⟨by rw [← e, ← hc i hi]; exact hy.cell (p := ⟨b, o + i, none⟩) hbl.1, hr⟩, hm, hnb⟩
  clear h4 hV hn hnb hm
  go_enter Tryz.func9, Tryz.ntmps9
  go_wp2
  clear hmk
  go_loopw [4] (fun i wr => ∃ (k : Nat) (C B : Nat → Nat) (T : Nat → Nat → Nat), k ≤ m ∧ i = .int .i64 k ∧ Fl w wr w.heap.size m k n C B T ∧ ∀ i, i < k → ∀ j, j < n i → T i j = S i j) (fun i _ => m - (intOf i).toNat)
  case atStart => exact ⟨0, fun _ => 0, fun _ => 0, fun _ _ => 0, Nat.zero_le _, rfl, Fl.start _ _ _ _ _ _, fun i hi => absurd hi (Nat.not_lt_zero _)⟩
  case round =>
    obtain ⟨k, C, B, T, hk, rfl, hF, hT⟩ := hrel
    by_cases hlt : k < m
    · obtain ⟨b, o, x, cx, rfl, hy⟩ := HV.out.1 k hlt
      have hrb := (hy wr hF.bel).2
      obtain ⟨w1, g, Cg, F, hrun, hC, hg, hg1, hR, hFF, hb1⟩ := copy_app wr hrb (HV.out.2.2 k hlt)
      have bA := balloc16 wr (.cells #[] 5)
      have q1 := (hy _ (bthen16 hF.bel bA)).1
      have hFx := hF.below hb1
      have q2 := hFx.bare hlt
      have q3 := hFx.froz k
      have hN := hF.next (l := n k) hlt hb1 hg hR hC
      have HD : Hid (Fl w (w1.setCell ⟨w.heap.size, k, none⟩ (.slice (some ⟨g, 0, none⟩) (n k) Cg)) w.heap.size m (k + 1) n (upn C k Cg) (upn B k g) (upn T k F) ∧ ∀ i, i < k + 1 → ∀ j, j < n i → upn T k F i j = S i j) := by
        refine ⟨hN.congr (fun i _ => ?_) (fun _ _ => rfl) (fun _ _ => rfl) (fun _ _ _ _ => rfl), fun i hi j hj => ?_⟩
        · by_cases e : i = k
          · rw [e, upn_same]
          · rw [upn_other _ _ e]
        · by_cases e : i = k
          · subst e; rw [upn_same]; exact hFF j hj
          · rw [upn_other _ _ e]; exact hT i (by omega) j hj
      have ib : ((k : Nat) : Int) < (m : Int) := by omega
      have W1 := wrap_succ8 (j := k) (by have := HV.out.2.1; unfold big; omega)
      have HX : Hid (k < m) := hlt
      generalize n k = nk at *
      clear hF hT hy hrb hC hg hg1 hR hFF hb1 bA hFx hN hk hlt HV
      go_wp2_with (at_builtin; refine Lib.wpList_append_run _ rfl _ _ _ _ rfl _ _ rfl rfl _ _ hrun ?_)
      go_roundw
      case rel => exact ⟨k + 1, _, _, _, HX.out, by first | rfl | (rw [W1]; rfl), HD.out.1, HD.out.2⟩
      case measure => first | exact meas_lt8 HX.out | (rw [W1]; exact meas_lt8 HX.out)
    · have htl : ¬ ((k : Nat) : Int) < (m : Int) := fun e => hlt (Int.ofNat_lt.1 e)
      obtain rfl : k = m := by omega
      have HD : Hid (Fl w wr w.heap.size k k n C B T ∧ ∀ i, i < k → ∀ j, j < n i → T i j = S i j) := ⟨hF, hT⟩
      clear hF hT HV
      go_wp2
      go_ret
      exact ⟨rfl, C, B, T, HD.out.1, HD.out.2⟩
end Go.Proofs.YthofhphlfgmklaaGreat
namespace Go.Proofs.YthofhphlfgmklaaGreat
open Go.RowKit Gf2
set_option linter.unusedVariables false

-- layer 19: MendTells: what stands fast behind Shards
set_option maxHeartbeats 2000000 in
set_option maxRecDepth 100000 in
theorem valid19 (f k m : Nat) (w : World) (hf : f ≤ 1) (h1 : 1 ≤ k) (h2 : 1 ≤ m) (h3 : k + m ≤ 256) :
    Calls Tryz.prog 7 #[.int .i64 (f : Int), .int .i64 (k : Int), .int .i64 (m : Int)] w fun e w' => e = .returned (.bool true) ∧ w' = w := by
  have i1 : (1 : Int) ≤ (k : Int) := by omega
  have i2 : (1 : Int) ≤ (m : Int) := by omega
  have i3 : (k : Int) ≤ 256 := by omega
  have i4 : (m : Int) ≤ 256 := by omega
  have i5 : (k : Int) + (m : Int) ≤ 256 := by omega
  have W0 : wrap64 ((k : Int) + (m : Int)) = (k : Int) + (m : Int) := by unfold wrap64; omega
  rcases (show f = 0 ∨ f = 1 by omega) with rfl | rfl
  · clear hf h1 h2 h3
    go_enter Tryz.func7, Tryz.ntmps7
    go_wp2
    go_ret
    exact ⟨rfl, rfl⟩
  · clear hf h1 h2 h3
    go_enter Tryz.func7, Tryz.ntmps7
    go_wp2
    go_ret
    exact ⟨rfl, rfl⟩
theorem lb_open19 {w : World} {aS : Option Addr} {n cS : Nat} {ln : Nat → Nat} {S : Nat → Nat → Nat} (h : Lb w (.slice aS n cS) n ln S) : ∃ (xa : Nat → Option Addr) (xc : Nat → Nat), (∀ x, x < n → ∃ b o, aS = some ⟨b, o, none⟩ ∧ w.cell? ⟨b, o + x, none⟩ = some (.slice (xa x) (ln x) (xc x))) ∧ ∀ x, x < n → Rb w (.slice (xa x) (ln x) (xc x)) (ln x) (S x) := by
  obtain ⟨V, ⟨hn, a, cap, e, -, -, h4⟩, hV⟩ := h
  cases e
  have hx : ∀ x, ∃ p : Option Addr × Nat, x < n → V x = .slice p.1 (ln x) p.2 := fun x => by
    by_cases hx : x < n
    · obtain ⟨_, _, y, z, e, _⟩ := hV x hx
      exact ⟨(y, z), fun _ => e⟩
    · exact ⟨(none, 0), fun h => absurd h hx⟩
  refine ⟨fun x => (Classical.choose (hx x)).1, fun x => (Classical.choose (hx x)).2, fun x hxn => ?_, fun x hxn => ?_⟩
  · obtain ⟨b, o, e, -, hc⟩ := h4 (by omega)
    refine ⟨b, o, e, ?_⟩
    rw [hc x hxn, Classical.choose_spec (hx x) hxn]
  · have := (hV x hxn).rb
    rw [Classical.choose_spec (hx x) hxn] at this
    exact this
end Go.Proofs.YthofhphlfgmklaaGreat
namespace Go.Proofs.YthofhphlfgmklaaGreat
open Go.RowKit Gf2
set_option linter.unusedVariables false

-- layer 19: the laws' column
/-- a codeword's column made out of k bytes. -/
def col19 (f k : Nat) (sd : Nat → Nat) (x : Nat) : Nat := if f = 0 then pe 285 x k sd else if x < k then sd x else sm19f 1 k x sd k
theorem col19_lt {f k : Nat} {sd : Nat → Nat} (hs : ∀ i, i < k → sd i < 256) (x : Nat) : col19 f k sd x < 256 := by
  unfold col19
  split
  · exact fld8.pe_lt _ _ _
  · split
    · exact hs x (by assumption)
    · exact sm19f_lt _ _ _ _ _
theorem col_cw19 {f k n : Nat} {sd : Nat → Nat} (hf : f ≤ 1) (hk : k ≤ n) (hn : n ≤ 256) (hs : ∀ i, i < k → sd i < 256) : Cw19 f k n (col19 f k sd) := by
  rcases (show f = 0 ∨ f = 1 by omega) with rfl | rfl
  · refine poly_cw19 (F := fun i => if i < k then sd i else 0) hf hk hn (fun i => ?_) (fun i hi => if_neg (by omega)) (fun x => ?_)
    · show (if i < k then sd i else 0) < 2 ^ 8
      split
      · exact hs i (by assumption)
      · decide
    · have e : sc19 0 k x = 1 := rfl
      have e1 : fi 285 1 = 1 := (fld8.fi_unique (a := 1) (b := 1) (by decide) (by decide) (by decide) (fld8.one_fm (by decide))).symm
      have e2 : pe 285 x k (fun i => if i < k then sd i else 0) = pe 285 x k sd := sx_congr (fun i hi => by dsimp only; rw [if_pos hi])
      rw [e, e1, e2, fld8.one_fm (fld8.pe_lt _ _ _)]
      exact if_pos rfl
  · intro x hx
    have h1 : ∀ l, l < k → col19 1 k sd l = sd l := fun l hl => by unfold col19; rw [if_neg (by decide), if_pos hl]
    have h2 : sx k (fun i => fm 285 (gen11 ((1 : Nat) : Int) k x i) (col19 1 k sd i)) = sx k (fun i => fm 285 (gen11 ((1 : Nat) : Int) k x i) (sd i)) := sx_congr (fun i hi => by rw [h1 i hi])
    rw [h2]
    by_cases e : x < k
    · rw [h1 x e, gen_top19 e (hs x e)]
    · unfold col19
      rw [if_neg (by decide), if_neg e]
      rfl
set_option maxHeartbeats 8000000 in
set_option maxRecDepth 100000 in
theorem column19_0 (k m n : Nat) (u : Value) (sd : Nat → Nat) (w : World) (h : Rb w u k sd) (h1 : 1 ≤ k) (hn : n = k + m) (hn2 : n ≤ 256) :
    Calls Tryz.prog 25 #[.int .i64 0, .int .i64 (k : Int), .int .i64 (m : Int), u] w fun e w' => e = .returned (.slice (some ⟨w.heap.size, 0, none⟩) n n) ∧ Rw w' w.heap.size n (col19 0 k sd) ∧ Below w.heap.size w w' := by
  have HWn : Hid (wrap64 ((k : Int) + (m : Int)) = (n : Int)) := by show _ = _; unfold wrap64; omega
  have hmk := make_u8 n (by omega)
  have r0 := made_rw n (by omega) w
  have b0 : Below w.heap.size w (w.alloc (.cells (madeCells #[.int .u8 0] n) 5)) := (Below.refl _ _).alloc (Nat.le_refl _) _
  obtain ⟨w3, hw3⟩ : ∃ w3, Hid (w.alloc (.cells (madeCells #[.int .u8 0] n) 5) = w3) := ⟨_, rfl⟩
  rw [hw3.out] at r0 b0
  have HH : Hid (1 ≤ k ∧ k ≤ n ∧ n ≤ 256 ∧ Rb w u k sd ∧ Below w.heap.size w w3 ∧ Rw w3 w.heap.size n (fun _ => 0)) := ⟨h1, by omega, hn2, h, b0, r0⟩
  obtain ⟨gc, hgc⟩ : ∃ gc, Hid (w.heap.size = gc) := ⟨_, rfl⟩
  clear h h1 hn hn2 r0 b0
  go_enter Tryz.func25, Tryz.ntmps25
  have Wn := HWn.out
  go_wp2
  rw [hw3.out, hgc.out]
  clear Wn hmk hw3
  go_loopw [10] (fun s wr => ∃ i : Nat, i ≤ n ∧ s = .int .i64 (i : Int) ∧ Rw wr gc n (fun x => if x < i then col19 0 k sd x else 0) ∧ Below w.heap.size w wr) (fun s _ => n - (intOf s).toNat)
  case atStart => exact ⟨0, Nat.zero_le _, rfl, by rw [← hgc.out]; exact HH.out.2.2.2.2.2.congr (fun x _ => (if_neg (Nat.not_lt_zero _)).symm), HH.out.2.2.2.2.1⟩
  case round =>
    obtain ⟨i, hi, rfl, hr, hb⟩ := hrel
    by_cases hlt : i < n
    · have ib : ((i : Nat) : Int) < (n : Int) := Int.ofNat_lt.2 hlt
      have i8 : i < 256 := by have := HH.out; omega
      have c1 := horner19 i k u sd wr (HH.out.2.2.2.1.below hb) (by have := HH.out; omega) i8
      have hE : col19 0 k sd i = pe 285 i k sd := if_pos rfl
      have HE : Hid (∀ q, i < n ∧ (∃ z : Nat, (wr.drewN q).cell? ⟨gc, i, none⟩ = some (.int .u8 (z : Nat))) ∧ (wr.drewN q).frozen? ⟨gc, i, none⟩ = false ∧ Rw ((wr.drewN q).setCell ⟨gc, i, none⟩ (.int .u8 (pe 285 i k sd : Nat))) gc n (fun x => if x < i + 1 then col19 0 k sd x else 0) ∧ Below w.heap.size w ((wr.drewN q).setCell ⟨gc, i, none⟩ (.int .u8 (pe 285 i k sd : Nat)))) := fun q => by
        have r1 := hr.drewN q
        refine ⟨hlt, ⟨_, r1.2.2.cell hlt⟩, r1.2.2.frozen i, ?_, (below_drewN hb q).setCell (by show _ ≤ gc; rw [hgc.out]; exact Nat.le_refl _) _⟩
        rw [← hE]
        exact (r1.set i (col19 0 k sd i) (by rw [hE]; exact fld8.pe_lt _ _ _)).congr (fun x _ => upd_19 (V := fun x => col19 0 k sd x))
      have U8 : IntKind.u8.wrap ((i : Nat) : Int) = ((i : Nat) : Int) := u8s19 i8
      have HW1 : Hid (wrap64 ((i : Int) + 1) = (i : Int) + 1) := wrap_lt8 (j := i) (b := n) hlt (by have := HH.out; omega)
      generalize pe 285 i k sd = M at *
      clear hr hb hi hlt hE i8
      have Wn := HWn.out
      go_wp2_with (go_at_call 36; (with_reducible refine c1.mono ?_); rintro e w9 ⟨rfl, q, hw9⟩; subst hw9; clear c1 Wn U8; obtain ⟨-, ⟨z5, q5⟩, q6, k1, k2⟩ := HE.out q; have HK : Hid (_ ∧ _) := ⟨k1, k2⟩; clear k1 k2; have W1 := HW1.out)
      go_roundw
      case rel => exact ⟨i + 1, (HE.out 0).1, by first | rfl | (rw [W1]; rfl), HK.out.1, HK.out.2⟩
      case measure => first | exact meas_lt8 (HE.out 0).1 | (rw [W1]; exact meas_lt8 (HE.out 0).1)
    · have hin : i = n := by omega
      have ib : ¬ ((i : Nat) : Int) < (n : Int) := by omega
      have HK : Hid (Rw wr gc n (col19 0 k sd) ∧ Below w.heap.size w wr) := ⟨hr.congr (fun x hx => if_pos (by omega)), hb⟩
      clear hr hb hi hlt hin
      have Wn := HWn.out
      go_wp2
      go_ret
      have hg := hgc.out
      subst hg
      exact ⟨rfl, HK.out.1, HK.out.2⟩
set_option maxHeartbeats 8000000 in
set_option maxRecDepth 100000 in
theorem column19_1 (k m n : Nat) (u : Value) (sd : Nat → Nat) (w : World) (h : Rb w u k sd) (h1 : 1 ≤ k) (hn : n = k + m) (hn2 : n ≤ 256) :
    Calls Tryz.prog 25 #[.int .i64 1, .int .i64 (k : Int), .int .i64 (m : Int), u] w fun e w' => e = .returned (.slice (some ⟨w.heap.size, 0, none⟩) n n) ∧ Rw w' w.heap.size n (col19 1 k sd) ∧ Below w.heap.size w w' := by
  have HWn : Hid (wrap64 ((k : Int) + (m : Int)) = (n : Int)) := by show _ = _; unfold wrap64; omega
  have hmk := make_u8 n (by omega)
  have r0 := made_rw n (by omega) w
  have b0 : Below w.heap.size w (w.alloc (.cells (madeCells #[.int .u8 0] n) 5)) := (Below.refl _ _).alloc (Nat.le_refl _) _
  obtain ⟨w3, hw3⟩ : ∃ w3, Hid (w.alloc (.cells (madeCells #[.int .u8 0] n) 5) = w3) := ⟨_, rfl⟩
  rw [hw3.out] at r0 b0
  have HH : Hid (1 ≤ k ∧ k ≤ n ∧ n ≤ 256 ∧ Rb w u k sd ∧ Below w.heap.size w w3 ∧ Rw w3 w.heap.size n (fun _ => 0)) := ⟨h1, by omega, hn2, h, b0, r0⟩
  obtain ⟨gc, hgc⟩ : ∃ gc, Hid (w.heap.size = gc) := ⟨_, rfl⟩
  clear h h1 hn hn2 r0 b0
  go_enter Tryz.func25, Tryz.ntmps25
  have Wn := HWn.out
  go_wp2
  rw [hw3.out, hgc.out]
  clear Wn hmk hw3
  go_loopw [10] (fun s wr => ∃ i : Nat, i ≤ n ∧ s = .int .i64 (i : Int) ∧ Rw wr gc n (fun x => if x < i then col19 1 k sd x else 0) ∧ Below w.heap.size w wr) (fun s _ => n - (intOf s).toNat)
  case atStart => exact ⟨0, Nat.zero_le _, rfl, by rw [← hgc.out]; exact HH.out.2.2.2.2.2.congr (fun x _ => (if_neg (Nat.not_lt_zero _)).symm), HH.out.2.2.2.2.1⟩
  case round =>
    obtain ⟨i, hi, rfl, hr, hb⟩ := hrel
    by_cases hlt : i < n
    · have ib : ((i : Nat) : Int) < (n : Int) := Int.ofNat_lt.2 hlt
      have i8 : i < 256 := by have := HH.out; omega
      obtain ⟨-, hsl, au, cu, eu, -, -, h4⟩ := HH.out.2.2.2.1.below hb
      subst eu
      obtain ⟨ub, uo, eu, hul, huc⟩ := h4 (by have := HH.out; omega)
      subst eu
      by_cases hik : i < k
      · have ibk : ((i : Nat) : Int) < (k : Int) := Int.ofNat_lt.2 hik
        have q1 := huc i hik
        have q2 := hr.2.2.cell hlt
        have q3 := hr.2.2.frozen i
        have hE : col19 1 k sd i = sd i := by unfold col19; rw [if_neg (by decide), if_pos hik]
        have HE : Hid (i < n ∧ Rw (wr.setCell ⟨gc, i, none⟩ (.int .u8 (sd i : Nat))) gc n (fun x => if x < i + 1 then col19 1 k sd x else 0) ∧ Below w.heap.size w (wr.setCell ⟨gc, i, none⟩ (.int .u8 (sd i : Nat)))) := by
          refine ⟨hlt, ?_, hb.setCell (by show _ ≤ gc; rw [hgc.out]; exact Nat.le_refl _) _⟩
          rw [← hE]
          exact (hr.set i (col19 1 k sd i) (by rw [hE]; exact hsl i hik)).congr (fun x _ => upd_19 (V := fun x => col19 1 k sd x))
        have HW1 : Hid (wrap64 ((i : Int) + 1) = (i : Int) + 1) := wrap_lt8 (j := i) (b := n) hlt (by have := HH.out; omega)
        generalize sd i = M at *
        clear hr hb hi hlt hE i8 hsl h4 huc hul hik
        have Wn := HWn.out
        have W1 := HW1.out
        go_wp2
        go_roundw
        case rel => exact ⟨i + 1, HE.out.1, by first | rfl | (rw [W1]; rfl), HE.out.2.1, HE.out.2.2⟩
        case measure => first | exact meas_lt8 HE.out.1 | (rw [W1]; exact meas_lt8 HE.out.1)
      · have ibk : ¬ ((i : Nat) : Int) < (k : Int) := by omega
        have HI : Hid (i < n ∧ k ≤ i ∧ i < 256 ∧ ub < w.heap.size + 0 + wr.heap.size) := ⟨hlt, by omega, i8, by omega⟩
        have HS : Hid (∀ l, l < k → sd l < 256) := hsl
        have HC : Hid (∀ W, Below w.heap.size w W → ∀ l, l < k → W.cell? ⟨ub, uo + l, none⟩ = some (.int .u8 (sd l : Nat))) := fun W hW l hl => by
          obtain ⟨-, -, a', c', e', -, -, h4'⟩ := HH.out.2.2.2.1.below hW
          cases e'
          obtain ⟨b', o', e', -, hc'⟩ := h4' (by omega)
          cases e'
          exact hc' l hl
        have HR : Hid (Rw wr gc n (fun x => if x < i then col19 1 k sd x else if x = i then sm19f 1 k i sd 0 else 0) ∧ Below w.heap.size w wr) := ⟨hr.congr (fun x _ => by
          by_cases e : x < i
          · rw [if_pos e, if_pos e]
          · rw [if_neg e, if_neg e]
            by_cases e2 : x = i
            · rw [if_pos e2]; rfl
            · rw [if_neg e2]), hb⟩
        clear hr hb hi hlt i8 hsl h4 huc hul hik
        have Wn := HWn.out
        go_wp2
        clear Wn
        go_loopw [11] (fun s wr => ∃ l : Nat, l ≤ k ∧ s = .int .i64 (l : Int) ∧ Rw wr gc n (fun x => if x < i then col19 1 k sd x else if x = i then sm19f 1 k i sd l else 0) ∧ Below w.heap.size w wr) (fun s _ => k - (intOf s).toNat)
        case atStart => exact ⟨0, Nat.zero_le _, rfl, HR.out.1, HR.out.2⟩
        case round =>
          obtain ⟨l, hl, rfl, hr, hb⟩ := hrel
          clear HR
          by_cases hlk : l < k
          · have ibl : ((l : Nat) : Int) < (k : Int) := Int.ofNat_lt.2 hlk
            have q1 := HC.out wr hb l hlk
            have hsl := HS.out l hlk
            have l8 : l < 256 := by have := HI.out; omega
            have hx8 : i ^^^ l < 256 := xor_lt8 HI.out.2.2.1 l8
            have c1 := gdiv_all (sd l) (i ^^^ l) wr hsl hx8
            have hE : td (sd l) (i ^^^ l) = fm 285 (gen11 ((1 : Nat) : Int) k i l) (sd l) := cau19 HI.out.2.1 hlk
            rw [hE] at c1
            have q2 : wr.cell? ⟨gc, i, none⟩ = some (.int .u8 ((sm19f 1 k i sd l : Nat) : Int)) := (hr.2.2.cell HI.out.1).trans (by dsimp only; rw [if_neg (Nat.lt_irrefl _), if_pos rfl])
            have q3 := hr.2.2.frozen i
            have HE : Hid (l < k ∧ Rw (wr.setCell ⟨gc, i, none⟩ (.int .u8 ((sm19f 1 k i sd l ^^^ fm 285 (gen11 ((1 : Nat) : Int) k i l) (sd l) : Nat) : Int))) gc n (fun x => if x < i then col19 1 k sd x else if x = i then sm19f 1 k i sd (l + 1) else 0) ∧ Below w.heap.size w (wr.setCell ⟨gc, i, none⟩ (.int .u8 ((sm19f 1 k i sd l ^^^ fm 285 (gen11 ((1 : Nat) : Int) k i l) (sd l) : Nat) : Int)))) := by
              refine ⟨hlk, ?_, hb.setCell (by show _ ≤ gc; rw [hgc.out]; exact Nat.le_refl _) _⟩
              refine (hr.set i (sm19f 1 k i sd (l + 1)) (sm19f_lt _ _ _ _ _)).congr (fun x _ => ?_)
              by_cases e : x = i
              · rw [if_pos e, if_neg (by omega), if_pos e]
              · rw [if_neg e, if_neg e, if_neg e]
            have XX := u8_xor_nat (sm19f 1 k i sd l) (fm 285 (gen11 ((1 : Nat) : Int) k i l) (sd l)) (sm19f_lt _ _ _ _ _) (fm8_lt _ _)
            have HW1 : Hid (wrap64 ((l : Int) + 1) = (l : Int) + 1) := wrap_succ8 (j := l) (by unfold big; omega)
            obtain ⟨XB, U8⟩ := xb19 (i := i) (l := l) HI.out.2.2.1 l8
            have HXX : Hid _ := XX
            have ibn : ((i : Nat) : Int) < (n : Int) := ib
            generalize sm19f 1 k i sd l ^^^ fm 285 (gen11 ((1 : Nat) : Int) k i l) (sd l) = y at *
            generalize fm 285 (gen11 ((1 : Nat) : Int) k i l) (sd l) = M at *
            generalize sm19f 1 k i sd l = s0 at *
            generalize sd l = sl at *
            generalize i ^^^ l = x at *
            clear hr hb hl hlk hsl l8 hx8 hE XX
            go_wp2_with (go_at_call 37; (with_reducible refine c1.mono ?_); rintro e w9 ⟨rfl, hw9⟩; have hw9 := hw9.symm; subst hw9; clear c1 XB U8; have XX := HXX.out; have W1 := HW1.out)
            go_roundw
            case rel => exact ⟨l + 1, HE.out.1, by first | rfl | (rw [W1]; rfl), HE.out.2.1, HE.out.2.2⟩
            case measure => first | exact meas_lt8 HE.out.1 | (rw [W1]; exact meas_lt8 HE.out.1)
          · have ibl : ¬ ((l : Nat) : Int) < (k : Int) := by omega
            have hlk2 : l = k := by omega
            have HE : Hid (i < n ∧ Rw wr gc n (fun x => if x < i + 1 then col19 1 k sd x else 0) ∧ Below w.heap.size w wr) := ⟨HI.out.1, hr.congr (fun x _ => by
              by_cases e : x < i
              · rw [if_pos e, if_pos (by omega)]
              · rw [if_neg e]
                by_cases e2 : x = i
                · rw [if_pos e2, if_pos (by omega), e2, hlk2]
                  unfold col19
                  rw [if_neg (by decide), if_neg (by have := HI.out; omega)]
                · rw [if_neg e2, if_neg (by omega)]), hb⟩
            have HW1 : Hid (wrap64 ((i : Int) + 1) = (i : Int) + 1) := wrap_succ8 (j := i) (by have := HI.out; unfold big; omega)
            clear hr hb hl hlk hlk2
            have W1 := HW1.out
            go_wp2
            go_roundw
            case rel => exact ⟨_, ⟨i + 1, HE.out.1, by first | rfl | (rw [W1]; rfl), HE.out.2.1, HE.out.2.2⟩, rfl, HWn.out.symm⟩
            case measure => first | exact meas_lt8 HE.out.1 | (rw [W1]; exact meas_lt8 HE.out.1)
    · have hin : i = n := by omega
      have ib : ¬ ((i : Nat) : Int) < (n : Int) := by omega
      have HK : Hid (Rw wr gc n (col19 1 k sd) ∧ Below w.heap.size w wr) := ⟨hr.congr (fun x hx => if_pos (by omega)), hb⟩
      clear hr hb hi hlt hin
      have Wn := HWn.out
      go_wp2
      go_ret
      have hg := hgc.out
      subst hg
      exact ⟨rfl, HK.out.1, HK.out.2⟩
theorem column19l (f k m n : Nat) (u : Value) (sd : Nat → Nat) (w : World) (hf : f ≤ 1) (h : Rb w u k sd) (h1 : 1 ≤ k) (hn : n = k + m) (hn2 : n ≤ 256) :
    Calls Tryz.prog 25 #[.int .i64 (f : Int), .int .i64 (k : Int), .int .i64 (m : Int), u] w fun e w' => e = .returned (.slice (some ⟨w.heap.size, 0, none⟩) n n) ∧ Rw w' w.heap.size n (col19 f k sd) ∧ Below w.heap.size w w' := by
  rcases (show f = 0 ∨ f = 1 by omega) with rfl | rfl
  · exact column19_0 k m n u sd w h h1 hn hn2
  · exact column19_1 k m n u sd w h h1 hn hn2
end Go.Proofs.YthofhphlfgmklaaGreat
namespace Go.Proofs.YthofhphlfgmklaaGreat
open Go.RowKit Gf2
set_option linter.unusedVariables false

-- layer 19: the laws' made
/-- the codeword on its way: t columns are laid, of column t the first i bytes; the law's case lies in bx. -/
structure Me19 (w W : World) (bx gs n T t i : Nat) (f k m : Int) (vS : Value) (B : Nat → Nat) (V : Nat → Nat → Nat) : Prop where
  lw : Lw19 W gs n B (fun _ => T) (fun _ => T) (fun x z => if z < t ∨ (z = t ∧ x < i) then V x z else 0)
  lo : ∀ x, x < n → bx < B x
  gl : bx < gs
  z0 : W.cell? ⟨bx, 0, none⟩ = some (.int .i64 f)
  z1 : W.cell? ⟨bx, 1, none⟩ = some (.int .i64 k)
  z2 : W.cell? ⟨bx, 2, none⟩ = some (.int .i64 m)
  z3 : W.cell? ⟨bx, 3, none⟩ = some vS
  bel : Below bx w W
  bw : bx = w.heap.size
section
variable {w W W' : World} {bx gs n T t i : Nat} {f k m : Int} {vS : Value} {B : Nat → Nat} {V : Nat → Nat → Nat}
theorem Me19.below (h : Me19 w W bx gs n T t i f k m vS B V) (hb : Below W.heap.size W W') : Me19 w W' bx gs n T t i f k m vS B V :=
  ⟨h.lw.below hb, h.lo, h.gl, (hb.cell (cell_lt5 h.z0)).trans h.z0, (hb.cell (cell_lt5 h.z1)).trans h.z1, (hb.cell (cell_lt5 h.z2)).trans h.z2, (hb.cell (cell_lt5 h.z3)).trans h.z3, h.bel.trans (hb.mono (by rw [h.bw]; exact h.bw ▸ h.bel.size)), h.bw⟩
theorem Me19.drewN (h : Me19 w W bx gs n T t i f k m vS B V) (q : Nat) : Me19 w (W.drewN q) bx gs n T t i f k m vS B V := h.below (below_drewN (Below.refl _ _) q)
theorem Me19.put (h : Me19 w W bx gs n T t i f k m vS B V) (hi : i < n) (ht : t < T) (hV : V i t < 256) : Me19 w (W.setCell ⟨B i, t, none⟩ (.int .u8 (V i t : Nat))) bx gs n T t (i + 1) f k m vS B V := by
  have kp : Kp (B i) W (W.setCell ⟨B i, t, none⟩ (.int .u8 (V i t : Nat))) := (Kp.refl _ _).setCell _ _
  have hk : Ke (fun x => x = B i) W (W.setCell ⟨B i, t, none⟩ (.int .u8 (V i t : Nat))) := kp.ke
  have hlo := h.lo i hi
  have hgc := h.lw.ne i hi
  refine ⟨⟨h.lw.row.of_block (kp.2 _ h.lw.row.lt (fun e => hgc e.symm)), fun x hx => ?_, h.lw.le, h.lw.inj, h.lw.ne⟩, h.lo, h.gl, ?_, ?_, ?_, ?_, h.bel.trans ((hk.below (fun x e => by omega) (Nat.le_of_lt (cell_lt5 h.z0)))), h.bw⟩
  · by_cases e : x = i
    · subst e
      refine ((h.lw.rows x hx).set t (V x t) hV).congr (fun z hz => ?_)
      by_cases e2 : z = t
      · subst e2
        rw [if_pos rfl, if_pos (.inr ⟨rfl, by omega⟩)]
      · rw [if_neg e2]
        by_cases e3 : z < t
        · rw [if_pos (.inl e3), if_pos (.inl e3)]
        · rw [if_neg (fun h9 => by omega), if_neg (fun h9 => by omega)]
    · refine (kp.rw_ (h.lw.rows x hx) (h.lw.inj x i hx hi e)).congr (fun z hz => ?_)
      by_cases e3 : z < t ∨ (z = t ∧ x < i)
      · rw [if_pos e3, if_pos (by omega)]
      · rw [if_neg e3, if_neg (by omega)]
  · rw [hk.cell (cell_lt5 h.z0) (fun e => by have e : bx = B i := e; omega)]; exact h.z0
  · rw [hk.cell (cell_lt5 h.z1) (fun e => by have e : bx = B i := e; omega)]; exact h.z1
  · rw [hk.cell (cell_lt5 h.z2) (fun e => by have e : bx = B i := e; omega)]; exact h.z2
  · rw [hk.cell (cell_lt5 h.z3) (fun e => by have e : bx = B i := e; omega)]; exact h.z3
theorem Me19.col (h : Me19 w W bx gs n T t n f k m vS B V) : Me19 w W bx gs n T (t + 1) 0 f k m vS B V :=
  ⟨⟨h.lw.row, fun x hx => (h.lw.rows x hx).congr (fun z hz => by
    by_cases e3 : z < t ∨ (z = t ∧ x < n)
    · rw [if_pos e3, if_pos (by omega)]
    · rw [if_neg e3, if_neg (by omega)]), h.lw.le, h.lw.inj, h.lw.ne⟩, h.lo, h.gl, h.z0, h.z1, h.z2, h.z3, h.bel, h.bw⟩
end
/-- the seed of a column: k bytes, zeros behind. -/
def sd19 (sl : Nat → Nat) (Sd : Nat → Nat → Nat) (t i : Nat) : Nat := if i < sl t then Sd t i else 0
theorem seed19 {W : World} {k l cx : Nat} {xa : Option Addr} {F : Nat → Nat} (hk : k ≤ 256) (h : Rb W (.slice xa l cx) l F) : ∃ w5 z, (Builtin.copy_ #[31, 31] 3 #[.slice (some ⟨W.heap.size, 0, none⟩) k k, .slice xa l cx]).run Tryz.prog (W.alloc (.cells (madeCells #[.int .u8 0] k) 5)) = .ok (goInt z) w5 ∧ Rw w5 W.heap.size k (fun i => if i < l then F i else 0) ∧ Below W.heap.size W w5 := by
  have r0 := made_rw k (by omega) W
  have b0 : Below W.heap.size W (W.alloc (.cells (madeCells #[.int .u8 0] k) 5)) := (Below.refl _ _).alloc (Nat.le_refl _) _
  obtain ⟨-, hF, a, cap, e, -, -, h4⟩ := h.below b0
  cases e
  obtain ⟨w5, h1, h2, h3⟩ := copy8_min (W.alloc (.cells (madeCells #[.int .u8 0] k) 5)) (g := W.heap.size) (o := 0) (dl := k) (cap := k) r0 (a := xa) (m := l) (n := Nat.min l k) (cap' := cx) (S := F) (fun i hi => hF i (Nat.lt_of_lt_of_le hi (Nat.min_le_left _ _))) (fun h0 => by
    obtain ⟨b, o, e, -, hc⟩ := h4 (Nat.lt_of_lt_of_le h0 (Nat.min_le_left _ _))
    exact ⟨b, o, e, fun i hi => hc i (Nat.lt_of_lt_of_le hi (Nat.min_le_left _ _))⟩) (by omega) (Nat.min_le_right _ _) (Nat.min_le_left _ _) rfl
  refine ⟨w5, _, h1, h2.congr (fun i hi => ?_), b0.trans ((h3.below (B := W.heap.size) (Nat.le_refl _)))⟩
  unfold pl
  by_cases e : i < l
  · rw [if_pos e, if_pos (by have : i < Nat.min l k := Nat.lt_min.2 ⟨e, hi⟩; omega)]
    rfl
  · rw [if_neg e, if_neg (fun h9 => by have h8 : i < Nat.min l k := by omega
                                       exact e (Nat.lt_of_lt_of_le h8 (Nat.min_le_left _ _)))]
end Go.Proofs.YthofhphlfgmklaaGreat
namespace Go.Proofs.YthofhphlfgmklaaGreat
open Go.RowKit Gf2
set_option linter.unusedVariables false

-- layer 19: the laws' made
theorem Fl.row19 {w wr : World} {g m k T : Nat} {B : Nat → Nat} (h : Fl w wr g m k (fun _ => T) (fun _ => T) B (fun _ _ => 0)) (hk : k < m) (hT : T ≤ 1000) : Fl w ((wr.alloc (.cells (madeCells #[.int .u8 0] T) 5)).setCell ⟨g, k, none⟩ (.slice (some ⟨wr.heap.size, 0, none⟩) T T)) g m (k + 1) (fun _ => T) (fun _ => T) (upn B k wr.heap.size) (fun _ _ => 0) := by
  have r0 := made_rw T (by omega) wr
  have hN := h.next (l := T) (c := T) (b := wr.heap.size) hk ((Below.refl _ _).alloc (Nat.le_refl _) _) (Nat.le_refl _) r0 (Nat.le_refl _)
  refine hN.congr (fun i _ => ?_) (fun i _ => ?_) (fun _ _ => rfl) (fun i _ j _ => ?_)
  · by_cases e : i = k
    · rw [e, upn_same]
    · rw [upn_other _ _ e]
  · by_cases e : i = k
    · rw [e, upn_same]
    · rw [upn_other _ _ e]
  · by_cases e : i = k
    · rw [e, upn_same]
    · rw [upn_other _ _ e]
set_option maxHeartbeats 8000000 in
set_option maxRecDepth 100000 in
theorem made19 (f k m n T : Nat) (aS aL aW : Option Addr) (cS nL cL nW cW : Nat) (sl : Nat → Nat) (Sd : Nat → Nat → Nat) (w : World) (hf : f ≤ 1) (h1 : 1 ≤ k) (hn : n = k + m) (hn2 : n ≤ 256) (hT : T ≤ 64) (hS : Lb w (.slice aS T cS) T sl Sd) :
    Calls Tryz.prog 8 #[.agg #[.int .i64 (f : Int), .int .i64 (k : Int), .int .i64 (m : Int), .slice aS T cS, .slice aL nL cL, .slice aW nW cW]] w fun e w' => ∃ gs B, e = .returned (.slice (some ⟨gs, 0, none⟩) n n) ∧ Me19 w w' w.heap.size gs n T T 0 f k m (.slice aS T cS) B (fun x z => col19 f k (sd19 sl Sd z) x) := by
  have HWn : Hid (wrap64 ((k : Int) + (m : Int)) = (n : Int)) := by show _ = _; unfold wrap64; omega
  obtain ⟨w1, hw1⟩ : ∃ w1, Hid (w.alloc (.cells #[.int .i64 (f : Int), .int .i64 (k : Int), .int .i64 (m : Int), .slice aS T cS, .slice aL nL cL, .slice aW nW cW] 26) = w1) := ⟨_, rfl⟩
  have b1 : Below w.heap.size w w1 := by rw [← hw1.out]; exact (Below.refl _ _).alloc (Nat.le_refl _) _
  have hblk : w1.heap[w.heap.size]? = some (.cells #[.int .i64 (f : Int), .int .i64 (k : Int), .int .i64 (m : Int), .slice aS T cS, .slice aL nL cL, .slice aW nW cW] 26 (0, 0)) := by rw [← hw1.out]; exact heap_alloc_new _ _
  have s1 : w1.heap.size = w.heap.size + 1 := by rw [← hw1.out]; simp
  have HZ : Hid (∀ W, Below w1.heap.size w1 W → W.cell? ⟨w.heap.size, 0, none⟩ = some (.int .i64 (f : Int)) ∧ W.cell? ⟨w.heap.size, 1, none⟩ = some (.int .i64 (k : Int)) ∧ W.cell? ⟨w.heap.size, 2, none⟩ = some (.int .i64 (m : Int)) ∧ W.cell? ⟨w.heap.size, 3, none⟩ = some (.slice aS T cS) ∧ Below w.heap.size w W) := fun W hW => by
    have h := (hW.block _ (Array.getElem?_eq_some_iff.1 hblk).1).trans hblk
    have b := b1.trans (hW.mono b1.size)
    exact ⟨by rw [cell_of_row _ _ 0 _ _ _ h]; rfl, by rw [cell_of_row _ _ 1 _ _ _ h]; rfl, by rw [cell_of_row _ _ 2 _ _ _ h]; rfl, by rw [cell_of_row _ _ 3 _ _ _ h]; rfl, b⟩
  have hmk := make_rows n (by omega)
  have hmT := make_u8 T (by omega)
  have hmK := make_u8 k (by omega)
  have F0 := Fl.start w1 n (fun _ => T) (fun _ => T) (fun _ => 0) (fun _ _ => 0)
  have HH : Hid (f ≤ 1 ∧ 1 ≤ k ∧ n = k + m ∧ n ≤ 256 ∧ T ≤ 64 ∧ Lb w (.slice aS T cS) T sl Sd ∧ w1.heap.size = w.heap.size + 1) := ⟨hf, h1, hn, hn2, hT, hS, s1⟩
  obtain ⟨z0, z1, z2, z3, -⟩ := HZ.out w1 (Below.refl _ _)
  obtain ⟨gs, hgs⟩ : ∃ gs, Hid (w.heap.size + 1 = gs) := ⟨_, rfl⟩
  obtain ⟨w2, hw2⟩ : ∃ w2, Hid (w1.alloc (.cells (madeCells #[.slice none 0 0] n) 31) = w2) := ⟨_, rfl⟩
  rw [hw2.out, s1, hgs.out] at F0
  clear b1 hblk hf h1 hn hn2 hT hS s1
  go_enter Tryz.func8, Tryz.ntmps8
  have Wn := HWn.out
  rw [← hw1.out] at z0 z1 z2 z3
  go_wp2
  rw [hw1.out, hgs.out, hw2.out]
  clear Wn z0 z1 z2 z3 hmk
  go_loopw [4] (fun s wr => ∃ (i : Nat) (B : Nat → Nat), i ≤ n ∧ s = .int .i64 (i : Int) ∧ Fl w1 wr gs n i (fun _ => T) (fun _ => T) B (fun _ _ => 0)) (fun s _ => n - (intOf s).toNat)
  case atStart => exact ⟨0, _, Nat.zero_le _, rfl, F0⟩
  case round =>
    obtain ⟨i, B, hi, rfl, hF⟩ := hrel
    clear F0
    by_cases hlt : i < n
    · have ib : ((i : Nat) : Int) < (n : Int) := Int.ofNat_lt.2 hlt
      have hF2 := hF.below ((Below.refl _ _).alloc (Nat.le_refl _) (.cells (madeCells #[.int .u8 0] T) 5))
      have q2 := hF2.bare hlt
      have q3 := hF2.froz i
      obtain ⟨-, -, -, z3, -⟩ := HZ.out wr hF.bel
      have HE : Hid (i < n ∧ Fl w1 ((wr.alloc (.cells (madeCells #[.int .u8 0] T) 5)).setCell ⟨gs, i, none⟩ (.slice (some ⟨wr.heap.size, 0, none⟩) T T)) gs n (i + 1) (fun _ => T) (fun _ => T) (upn B i wr.heap.size) (fun _ _ => 0)) := ⟨hlt, hF.row19 hlt (by have := HH.out; omega)⟩
      have W1 := wrap_lt8 (j := i) (b := n) hlt (by have := HH.out; omega)
      clear hF hF2 hi hlt hmK
      go_wp2
      go_roundw
      case rel => exact ⟨i + 1, _, HE.out.1, by first | rfl | (rw [W1]; rfl), HE.out.2⟩
      case measure => first | exact meas_lt8 HE.out.1 | (rw [W1]; exact meas_lt8 HE.out.1)
    · have ib : ¬ ((i : Nat) : Int) < (n : Int) := by omega
      have hin : i = n := by omega
      rw [hin] at hF
      have HM : Hid (Me19 w wr w.heap.size gs n T 0 0 f k m (.slice aS T cS) B (fun x z => col19 f k (sd19 sl Sd z) x)) := by
        obtain ⟨z0, z1, z2, z3, hb⟩ := HZ.out wr hF.bel
        have hl := hF.lw19
        have := HH.out.2.2.2.2.2.2
        refine ⟨⟨hl.row, fun x hx => (hl.rows x hx).congr (fun z hz => by rw [if_neg (fun h9 => by omega)]), hl.le, hl.inj, hl.ne⟩, fun x hx => by have := (hF.rows x hx).1; omega, by have := hgs.out; omega, z0, z1, z2, z3, hb, rfl⟩
      clear hF hi hlt hin hmT
      go_wp2
      go_loopw [5] (fun s wr => ∃ t : Nat, t ≤ T ∧ s = .int .i64 (t : Int) ∧ Me19 w wr w.heap.size gs n T t 0 f k m (.slice aS T cS) B (fun x z => col19 f k (sd19 sl Sd z) x)) (fun s _ => T - (intOf s).toNat)
      case atStart => exact ⟨0, Nat.zero_le _, rfl, HM.out⟩
      case round =>
        obtain ⟨t, ht, rfl, hM⟩ := hrel
        clear HM
        by_cases htl : t < T
        · have ibt : ((t : Nat) : Int) < (T : Int) := Int.ofNat_lt.2 htl
          have z1 := hM.z1
          have z3 := hM.z3
          obtain ⟨xa, xc, x1, x2⟩ := lb_open19 (HH.out.2.2.2.2.2.1.below hM.bel)
          obtain ⟨b, o, ea, q1⟩ := x1 t htl
          subst ea
          obtain ⟨w5, zc, hrun, r5, b5⟩ := seed19 (k := k) (by have := HH.out; omega) (x2 t htl)
          have bA : Below wr.heap.size wr (wr.alloc (.cells (madeCells #[.int .u8 0] k) 5)) := (Below.refl _ _).alloc (Nat.le_refl _) _
          have z3a := (bA.cell (cell_lt5 z3)).trans z3
          have q1a := (bA.cell (cell_lt5 q1)).trans q1
          have hM5 := hM.below b5
          have y0 := hM5.z0
          have y1 := hM5.z1
          have y2 := hM5.z2
          have c1 := column19l f k m n (.slice (some ⟨wr.heap.size, 0, none⟩) k k) (sd19 sl Sd t) w5 HH.out.1 (r5.rb0.congr (fun i hi => rfl)) HH.out.2.1 HH.out.2.2.1 HH.out.2.2.2.1
          have HT : Hid (t < T ∧ Me19 w w5 w.heap.size gs n T t 0 f k m (.slice (some ⟨b, o, none⟩) T cS) B (fun x z => col19 f k (sd19 sl Sd z) x) ∧ ∀ i, i < k → sd19 sl Sd t i < 256) := ⟨htl, hM5, fun i hi => r5.2.1 i hi⟩
          clear hM ht htl x1 x2 r5 b5 bA hM5 q1
          go_wp2_with (go_at_call 25; (with_reducible refine c1.mono ?_); rintro e w6 ⟨rfl, r6, b6⟩; clear c1 z1 z3 z3a q1a y0 y1 y2 hrun)
          obtain ⟨gc, hgc⟩ : ∃ gc, Hid (w5.heap.size = gc) := ⟨_, rfl⟩
          rw [hgc.out] at r6 ⊢
          have HC : Hid (Rw w6 gc n (col19 f k (sd19 sl Sd t)) ∧ Me19 w w6 w.heap.size gs n T t 0 f k m (.slice (some ⟨b, o, none⟩) T cS) B (fun x z => col19 f k (sd19 sl Sd z) x) ∧ ∀ x, x < n → B x ≠ gc) := ⟨r6, HT.out.2.1.below b6, fun x hx => by have := (HT.out.2.1.lw.rows x hx).lt; have := hgc.out; omega⟩
          clear r6 b6 hmK ibt
          go_loopw [8] (fun s wr => ∃ i : Nat, i ≤ n ∧ s = .int .i64 (i : Int) ∧ Rw wr gc n (col19 f k (sd19 sl Sd t)) ∧ Me19 w wr w.heap.size gs n T t i f k m (.slice (some ⟨b, o, none⟩) T cS) B (fun x z => col19 f k (sd19 sl Sd z) x)) (fun s _ => n - (intOf s).toNat)
          case atStart => exact ⟨0, Nat.zero_le _, rfl, HC.out.1, HC.out.2.1⟩
          case round =>
            obtain ⟨i, hi, rfl, hr, hM⟩ := hrel
            by_cases hlt : i < n
            · have ib : ((i : Nat) : Int) < (n : Int) := Int.ofNat_lt.2 hlt
              have ibt : ((t : Nat) : Int) < (T : Int) := Int.ofNat_lt.2 HT.out.1
              have q1 := hM.lw.row.cell hlt
              have q2 := hr.2.2.cell hlt
              have hMd : Me19 w wr.drew w.heap.size gs n T t i f k m (.slice (some ⟨b, o, none⟩) T cS) B (fun x z => col19 f k (sd19 sl Sd z) x) := hM.drewN 1
              have q3 := (hMd.lw.rows i hlt).2.2.cell HT.out.1
              have q4 := (hMd.lw.rows i hlt).2.2.frozen t
              have HE : Hid (i < n ∧ Rw (wr.drew.setCell ⟨B i, t, none⟩ (.int .u8 (col19 f k (sd19 sl Sd t) i : Nat))) gc n (col19 f k (sd19 sl Sd t)) ∧ Me19 w (wr.drew.setCell ⟨B i, t, none⟩ (.int .u8 (col19 f k (sd19 sl Sd t) i : Nat))) w.heap.size gs n T t (i + 1) f k m (.slice (some ⟨b, o, none⟩) T cS) B (fun x z => col19 f k (sd19 sl Sd z) x)) := ⟨hlt, ((Kp.refl _ _).setCell _ _ : Kp (B i) wr.drew _).rw_ (show Rw wr.drew gc n _ from hr.drewN 1) (fun e => HC.out.2.2 i hlt e.symm), hMd.put hlt HT.out.1 (col19_lt HT.out.2.2 i)⟩
              have W1 := wrap_lt8 (j := i) (b := n) hlt (by have := HH.out; omega)
              generalize col19 f k (sd19 sl Sd t) i = cvi at q2 HE
              clear hr hM hMd hi hlt
              go_upto_region 15 with (fail)
              refine region_planT (fun w' => w'.cell? ⟨gs, i, none⟩ = some (.slice (some ⟨B i, 0, none⟩) T T) ∧ w'.cell? ⟨gc, i, none⟩ = some (.int .u8 ((cvi : Nat) : Int))) 9 [9] 70 ⟨q1, q2⟩ (by kernel_rfl) (by kernel_rfl) (fun _ a d v _ h => by cases d <;> exact h) ?_
              refine planT_last ?A2 rfl (fun w' hS => ?s2) rfl ?n2
              case s2 =>
                obtain ⟨y1, y2⟩ := hS
                simp only [List.take_succ_cons, List.take_zero]
                repeat still_step
                exact rfl
              case n2 =>
              simp only [List.drop_succ_cons, List.drop_zero]
              go_wp2
              go_roundw
              case rel => exact ⟨i + 1, HE.out.1, by first | rfl | (rw [W1]; rfl), HE.out.2.1, HE.out.2.2⟩
              case measure => first | exact meas_lt8 HE.out.1 | (rw [W1]; exact meas_lt8 HE.out.1)
            · have ib : ¬ ((i : Nat) : Int) < (n : Int) := by omega
              have hin : i = n := by omega
              rw [hin] at hM
              have HE : Hid (t < T ∧ Me19 w wr w.heap.size gs n T (t + 1) 0 f k m (.slice (some ⟨b, o, none⟩) T cS) B (fun x z => col19 f k (sd19 sl Sd z) x)) := ⟨HT.out.1, hM.col⟩
              have W1 := wrap_lt8 (j := t) (b := T) HT.out.1 (by have := HH.out; omega)
              clear hr hM hi hlt hin
              go_wp2
              go_roundw
              case rel => exact ⟨t + 1, HE.out.1, by first | rfl | (rw [W1]; rfl), HE.out.2⟩
              case measure => first | exact meas_lt8 HE.out.1 | (rw [W1]; exact meas_lt8 HE.out.1)
        · have ibt : ¬ ((t : Nat) : Int) < (T : Int) := by omega
          have htt : t = T := by omega
          have z3 := hM.z3
          rw [htt] at hM
          have HE : Hid (Me19 w wr w.heap.size gs n T T 0 f k m (.slice aS T cS) B (fun x z => col19 f k (sd19 sl Sd z) x)) := hM
          clear hM ht htl htt
          go_wp2
          go_ret
          exact ⟨gs, rfl, B, HE.out⟩
end Go.Proofs.YthofhphlfgmklaaGreat
namespace Go.Proofs.YthofhphlfgmklaaGreat
open Go.RowKit Gf2
set_option linter.unusedVariables false

-- layer 19: a codeword that is near is the one that is found
theorem cv_of19 {f k n : Nat} {F c : Nat → Nat} (hn : n ≤ 256) (hk : k ≤ n) (hc : ∀ x, x < n → c x < 256) (h : ∀ x, x < n → pe 285 x k F = fm 285 (sc19 f k x) (c x)) : ∀ x, x < n → cv19 f k F x = c x := fun x hx => by
  unfold cv19
  rw [h x hx, ← fld8.fm_assoc, fm_comm 285 (fi 285 _), fld8.fi_mul (sc19_lt _ _ _) (sc19_ne (by omega) (by omega)), fld8.one_fm (hc x hx)]
/-- what Shards finds in a column is the codeword's own, where no more than half of what is spare is wrong. -/
theorem found19 {f k m n L z : Nat} {ln C : Nat → Nat} {G : Nat → Nat → Nat} {F c : Nat → Nat} (hf : f ≤ 1) (h1 : 1 ≤ k) (hn : n = k + m) (hn2 : n ≤ 256) (hfew : cnb (emp ln) n ≤ m) (hl : ∀ x, x < n → ln x = L ∨ ln x = 0) (hC : ∀ x, x < n → ln x ≤ C x) (hz : z < L) (hG : ∀ x, x < n → ∀ y, y < C x → G x y < 256) (eF : Gf2.El 8 F) (dF : Dg F k)
    (h2 : 2 * cnb (fun x => pre19 n ln x && decide (cv19 f k F x ≠ G x z)) n ≤ m - cnb (emp ln) n) (hc : Cw19 f k n c) (hcl : ∀ x, x < n → c x < 256) (h3 : 2 * cnb (fun x => pre19 n ln x && decide (c x ≠ G x z)) n ≤ m - cnb (emp ln) n) : ∀ x, x < n → cv19 f k F x = c x := by
  obtain ⟨K, eK, dK, hK⟩ := cw_poly19 hf (by omega) hn2 hc
  have hv := cv_of19 hn2 (by omega) hcl hK
  have hs := pre_emp19 n ln
  have hkp : k ≤ cnb (pre19 n ln) n := by omega
  have n1 := nr_cnt19 (f := f) (F := F) hkp hn2 dF hl hC hz hG
  have n2 := nr_cnt19 (f := f) (F := K) hkp hn2 dK hl hC hz hG
  have e3 : cnb (fun x => pre19 n ln x && decide (cv19 f k K x ≠ G x z)) n = cnb (fun x => pre19 n ln x && decide (c x ≠ G x z)) n := cnb_congr (fun x hx => by rw [hv x hx])
  have hFK : F = K := near_uniq19 (p := pk19 (pre19 n ln) n) (y := yv19 f k z (pk19 (pre19 n ln) n) (fun x z => if x < n ∧ z < C x then G x z else 0)) (n := cnb (pre19 n ln) n) (k := k) (fun i hi => by have := (pk19_get hi).1; omega) (pk19_up _ _) h1 hkp eF dF eK dK (by unfold Nr19; rw [n1]; omega) (by unfold Nr19; rw [n2, e3]; omega)
  intro x hx
  rw [hFK, hv x hx]
/-- and where a codeword is that near, Shards does not refuse. -/
theorem beyond19 {f k m n z : Nat} {ln : Nat → Nat} {G : Nat → Nat → Nat} {c : Nat → Nat} (hf : f ≤ 1) (hn : n = k + m) (hn2 : n ≤ 256) (hno : ∀ F, Gf2.El 8 F → Dg F k → m - cnb (emp ln) n < 2 * cnb (fun x => pre19 n ln x && decide (cv19 f k F x ≠ G x z)) n) (hc : Cw19 f k n c) (hcl : ∀ x, x < n → c x < 256) (h3 : 2 * cnb (fun x => pre19 n ln x && decide (c x ≠ G x z)) n ≤ m - cnb (emp ln) n) : False := by
  obtain ⟨K, eK, dK, hK⟩ := cw_poly19 hf (by omega) hn2 hc
  have hv := cv_of19 hn2 (by omega) hcl hK
  have h9 := hno K eK dK
  have e3 : cnb (fun x => pre19 n ln x && decide (cv19 f k K x ≠ G x z)) n = cnb (fun x => pre19 n ln x && decide (c x ≠ G x z)) n := cnb_congr (fun x hx => by rw [hv x hx])
  rw [e3] at h9
  omega
end Go.Proofs.YthofhphlfgmklaaGreat
