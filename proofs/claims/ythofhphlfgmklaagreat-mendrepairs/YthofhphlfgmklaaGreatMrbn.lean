import Derived.Test.YthofhphlfgmklaaGreatMrbl
import Derived.Test.YthofhphlfgmklaaGreatMrbm
import Derived.Test.YthofhphlfgmklaaGreatMram
namespace Go.Proofs.YthofhphlfgmklaaGreat
open Go.RowKit Gf2
set_option linter.unusedVariables false

-- layer 19: turnsOf and Shards over a list of shards whose empty entries may be any slices
/-- a list of n shards in block sb: those that are not empty lie each in a block of its own. -/
structure Lx19 (W : World) (sb n : Nat) (R ln C : Nat → Nat) (va : Nat → Option Addr) (vc : Nat → Nat) (G : Nat → Nat → Nat) : Prop where
  row : W.rowIs sb 31 n (fun x => .slice (va x) (ln x) (vc x))
  sl : ∀ x, x < n → ln x ≠ 0 → va x = some ⟨R x, 0, none⟩ ∧ vc x = C x
  rows : ∀ x, x < n → ln x ≠ 0 → Rw W (R x) (C x) (G x)
  le : ∀ x, x < n → ln x ≠ 0 → ln x ≤ C x
  inj : ∀ x y, x < n → y < n → ln x ≠ 0 → ln y ≠ 0 → x ≠ y → R x ≠ R y
  ne : ∀ x, x < n → ln x ≠ 0 → R x ≠ sb
theorem Lx19.below {W W' : World} {sb n : Nat} {R ln C : Nat → Nat} {va : Nat → Option Addr} {vc : Nat → Nat} {G : Nat → Nat → Nat} (h : Lx19 W sb n R ln C va vc G) (hb : Below W.heap.size W W') : Lx19 W' sb n R ln C va vc G :=
  ⟨h.row.of_block (hb.block _ h.row.lt), h.sl, fun x hx h0 => rw_below (h.rows x hx h0) hb, h.le, h.inj, h.ne⟩
theorem Lw19.lx {W : World} {sb n : Nat} {R ln C : Nat → Nat} {G : Nat → Nat → Nat} (h : Lw19 W sb n R ln C G) : Lx19 W sb n R ln C (fun x => some ⟨R x, 0, none⟩) C G :=
  ⟨h.row, fun x _ _ => ⟨rfl, rfl⟩, fun x hx _ => h.rows x hx, fun x hx _ => h.le x hx, fun x y hx hy _ _ e => h.inj x y hx hy e, fun x hx _ => h.ne x hx⟩
theorem Lx19.lnb {W : World} {sb n : Nat} {R ln C : Nat → Nat} {va : Nat → Option Addr} {vc : Nat → Nat} {G : Nat → Nat → Nat} (h : Lx19 W sb n R ln C va vc G) {x : Nat} (hx : x < n) : ln x ≤ big := by
  by_cases h0 : ln x = 0
  · rw [h0]; exact Nat.zero_le _
  · exact Nat.le_trans (h.le x hx h0) (h.rows x hx h0).1
theorem Lx19.ln {W : World} {sb n : Nat} {R ln C : Nat → Nat} {va : Nat → Option Addr} {vc : Nat → Nat} {G : Nat → Nat → Nat} (h : Lx19 W sb n R ln C va vc G) {cs : Nat} (hn : n ≤ cs) (hn2 : n ≤ 281474976710656) (hc : cs ≤ big) : Ln W (.slice (some ⟨sb, 0, none⟩) n cs) n ln :=
  ⟨hn2, fun x hx => h.lnb hx, _, _, rfl, hn, hc, fun _ => ⟨sb, 0, rfl, h.row.lt, fun i hi => ⟨_, _, by rw [Nat.zero_add]; exact h.row.cell hi⟩⟩⟩
/-- the shards' bytes, noughts where there are none. -/
def shx19 (n : Nat) (ln C : Nat → Nat) (G : Nat → Nat → Nat) (x z : Nat) : Nat := if x < n ∧ ln x ≠ 0 ∧ z < C x then G x z else 0
theorem ci_ofx19 {w w1 : World} {sb n k m f L : Nat} {R ln C : Nat → Nat} {va : Nat → Option Addr} {vc : Nat → Nat} {G : Nat → Nat → Nat} (h : Lx19 w sb n R ln C va vc G) (hb : Below w.heap.size w w1) (hk : 1 ≤ k) (hn : n = k + m) (hn2 : n ≤ 256) (hL : L ≤ 140737488351232) (hl : ∀ x, x < n → ln x = L ∨ ln x = 0) (hm : cnb (emp ln) n ≤ m) :
    Ci19 w1 sb 0 n (cnb (pre19 n ln) n) (cnb (emp ln) n) k f L (pk19 (pre19 n ln) n) (pk19 (emp ln) n) (pre19 n ln) (shx19 n ln C G) := by
  have hs := pre_emp19 n ln
  have pl : ∀ i, i < cnb (pre19 n ln) n → pk19 (pre19 n ln) n i < n ∧ ln (pk19 (pre19 n ln) n i) = L := fun i hi => by
    obtain ⟨a1, a2, -, -⟩ := pk19_get hi
    exact ⟨a1, (hl _ a1).resolve_right (pre19_iff.1 a2).2⟩
  refine ⟨fun i hi => (pl i hi).1, pk19_up _ _, fun j hj => (pk19_get hj).1, pk19_up _ _, fun x => ⟨fun e => pk19_all (pre19_iff.1 e).1 e, fun ⟨i, hi, e⟩ => e ▸ (pk19_get hi).2.1⟩, fun x hx => ?_, fun i j hi hj e => ?_, hn2, hk, by omega, by omega, by omega, hL, fun x hx => sc19_ne (by omega) (by omega), fun i hi z => ?_, fun i hi => ?_⟩
  · by_cases e : ln x = 0
    · refine .inr (pk19_all hx ?_)
      show (ln x == 0) = true
      simp [e]
    · exact .inl (pk19_all hx (pre19_iff.2 ⟨hx, e⟩))
  · have h1 := (pk19_get hi).2.1
    have h2 := (pk19_get hj).2.1
    rw [e] at h1
    have h3 : ln (pk19 (emp ln) n j) = 0 := by
      have h2 : (ln (pk19 (emp ln) n j) == 0) = true := h2
      simpa using h2
    exact (pre19_iff.1 h1).2 h3
  · unfold shx19
    split
    · rename_i h9
      exact (h.rows _ h9.1 h9.2.1).2.1 z h9.2.2
    · decide
  · obtain ⟨a1, a2⟩ := pl i hi
    refine ⟨R (pk19 (pre19 n ln) n i), 0, C (pk19 (pre19 n ln) n i), fun W hW => ?_⟩
    have hx := (h.below hb).below hW
    have a0 : ln (pk19 (pre19 n ln) n i) ≠ 0 := (pre19_iff.1 (pk19_get hi).2.1).2
    refine ⟨by rw [Nat.zero_add, hx.row.cell a1, a2, (hx.sl _ a1 a0).1, (hx.sl _ a1 a0).2], fun z hz => ?_⟩
    have hzc : z < C (pk19 (pre19 n ln) n i) := by have := h.le _ a1 a0; omega
    rw [Nat.zero_add, (hx.rows _ a1 a0).2.2.cell hzc]
    unfold shx19
    rw [if_pos ⟨a1, a0, hzc⟩]
theorem turnsOf_okx19 (f k m n L sb cs : Nat) (R ln C : Nat → Nat) (va : Nat → Option Addr) (vc : Nat → Nat) (G : Nat → Nat → Nat) (w : World) (hf : f ≤ 1) (hLw : Lx19 w sb n R ln C va vc G) (hcs : n ≤ cs) (hcb : cs ≤ big) (hple : ple f k m n ln = 0) (hplv : plv16 f k m n ln = L) (hpll : pll f k m n ln = cnb (emp ln) n) (h1 : 1 ≤ k) (hn : n = k + m) (hn2 : n ≤ 256) (hL : L ≤ 140737488351232) (hl : ∀ x, x < n → ln x = L ∨ ln x = 0) (hm : cnb (emp ln) n ≤ m) :
    Calls Tryz.prog 26 #[.int .i64 (f : Int), .int .i64 (k : Int), .int .i64 (m : Int), .slice (some ⟨sb, 0, none⟩) n cs] w fun e w' => ∃ w1, Below w.heap.size w w1 ∧ To19 w1 w' e f k n (cnb (pre19 n ln) n) L (pk19 (pre19 n ln) n) (pre19 n ln) (shx19 n ln C G) := by
  have hs := pre_emp19 n ln
  have c1 := partial16 f k m (.slice (some ⟨sb, 0, none⟩) n cs) n ln w (by unfold I64; omega) (hLw.ln hcs (by omega) hcb)
  refine turnsOf19 f k m n (cnb (emp ln) n) L sb 0 cs (pk19 (emp ln) n) (pre19 n ln) _ w hf hn (by omega) (fun x hx => ?_) (c1.mono ?_)
  · constructor
    · rintro e ⟨a, ha, rfl⟩
      have h2 := (pk19_get ha).2.1
      have h2 : (ln (pk19 (emp ln) n a) == 0) = true := h2
      exact (pre19_iff.1 e).2 (by simpa using h2)
    · intro e
      refine pre19_iff.2 ⟨hx, fun h0 => e (pk19_all hx ?_)⟩
      show (ln x == 0) = true
      simp [h0]
  · rintro e w1 ⟨u, rfl, hP⟩
    rw [hplv, hple]
    obtain ⟨a, c, rfl, hq⟩ := nat_pk19 hP.gi hpll
    exact ⟨a, c, rfl, hq, ci_ofx19 hLw hP.bel h1 hn hn2 hL hl hm, hP.bel⟩
end Go.Proofs.YthofhphlfgmklaaGreat
namespace Go.Proofs.YthofhphlfgmklaaGreat
open Go.RowKit Gf2
set_option linter.unusedVariables false

-- layer 19: Shards over a list whose empty entries may be any slices
/-- what Shards leaves and answers where all is well. -/
structure Okx19 (w w' : World) (v : Value) (f k m n L sb : Nat) (R ln C : Nat → Nat) (G F : Nat → Nat → Nat) : Prop where
  val : f ≤ 1 ∧ 1 ≤ k ∧ 1 ≤ m ∧ n = k + m ∧ n ≤ 256 ∧ 1 ≤ L
  lens : ∀ x, x < n → ln x = L ∨ ln x = 0
  few : cnb (emp ln) n ≤ m
  pol : ∀ z, z < L → Gf2.El 8 (F z) ∧ Dg (F z) k ∧ 2 * cnb (fun x => pre19 n ln x && decide (cv19 f k (F z) x ≠ G x z)) n ≤ m - cnb (emp ln) n
  told : ∃ P, Gj w.heap.size w' v (cnb P n) (fsel P (fun j => j) n) ∧ ∀ x, x < n → (P x = true ↔ ln x ≠ 0 ∧ ∃ z, z < L ∧ cv19 f k (F z) x ≠ G x z)
  list : ∃ R' C' G', Lw19 w' sb n R' (fun _ => L) C' G' ∧ ∀ x, x < n → (∀ z, z < L → G' x z = cv19 f k (F z) x) ∧ (ln x ≠ 0 → R' x = R x ∧ C' x = C x ∧ ∀ z, L ≤ z → G' x z = G x z) ∧ (ln x = 0 → w.heap.size ≤ R' x ∧ C' x = L)
  ke : Ke (fun x => x = sb ∨ ∃ y, y < n ∧ ln y ≠ 0 ∧ x = R y) w w'
theorem nr_cntx19 {f k n L z : Nat} {ln C : Nat → Nat} {G : Nat → Nat → Nat} {F : Nat → Nat} (hk : k ≤ cnb (pre19 n ln) n) (hn : n ≤ 256) (dF : Dg F k) (hl : ∀ x, x < n → ln x = L ∨ ln x = 0) (hC : ∀ x, x < n → ln x ≠ 0 → ln x ≤ C x) (hz : z < L) (hG : ∀ x, x < n → ln x ≠ 0 → ∀ y, y < C x → G x y < 256) :
    cnb (fun i => decide (pe 285 (pk19 (pre19 n ln) n i) (cnb (pre19 n ln) n) F ≠ yv19 f k z (pk19 (pre19 n ln) n) (shx19 n ln C G) i)) (cnb (pre19 n ln) n) = cnb (fun x => pre19 n ln x && decide (cv19 f k F x ≠ G x z)) n := by
  rw [← cnb_pk19 (pre19 n ln) (fun x => decide (cv19 f k F x ≠ G x z)) n]
  have hs := cnb_le19 (pre19 n ln) n
  refine cnb_congr (fun i hi => ?_)
  obtain ⟨a1, a2, -, -⟩ := pk19_get hi
  have hx := (pre19_iff.1 a2).2
  have hzc : z < C (pk19 (pre19 n ln) n i) := by have := hl _ a1; have := hC _ a1 hx; omega
  unfold yv19
  unfold shx19
  rw [if_pos ⟨a1, hx, hzc⟩]
  have h9 := cv_iff19 (f := f) (k := k) (x := pk19 (pre19 n ln) n i) (g := G (pk19 (pre19 n ln) n i) z) (by omega) (by omega) hk dF (hG _ a1 hx z hzc)
  exact decide_eq_decide.2 (not_congr h9)
/-- the near polynomials, and those that are not. -/
theorem shards_okx19 (f k m n L sb cs : Nat) (R ln C : Nat → Nat) (va : Nat → Option Addr) (vc : Nat → Nat) (G : Nat → Nat → Nat) (w : World) (hf : f ≤ 1) (hLw : Lx19 w sb n R ln C va vc G) (hcs : n ≤ cs) (hcb : cs ≤ big) (hple : ple f k m n ln = 0) (hplv : plv16 f k m n ln = L) (hpll : pll f k m n ln = cnb (emp ln) n) (h1 : 1 ≤ k) (h1m : 1 ≤ m) (hn : n = k + m) (hn2 : n ≤ 256) (hL1 : 1 ≤ L) (hL : L ≤ 140737488351232) (hl : ∀ x, x < n → ln x = L ∨ ln x = 0) (hm : cnb (emp ln) n ≤ m) :
    Calls Tryz.prog 12 #[.int .i64 (f : Int), .int .i64 (k : Int), .int .i64 (m : Int), .slice (some ⟨sb, 0, none⟩) n cs] w fun e w' => (∃ v F, e = .returned (.tuple #[v, .int .i64 0]) ∧ Okx19 w w' v f k m n L sb R ln C G F) ∨ (e = .returned (.tuple #[.slice none 0 0, .int .i64 190]) ∧ Below w.heap.size w w' ∧ ∃ z, z < L ∧ ∀ F, Gf2.El 8 F → Dg F k → m - cnb (emp ln) n < 2 * cnb (fun x => pre19 n ln x && decide (cv19 f k F x ≠ G x z)) n) := by
  have hs := pre_emp19 n ln
  have hkp : k ≤ cnb (pre19 n ln) n := by omega
  have hGb : ∀ x, x < n → ln x ≠ 0 → ∀ y, y < C x → G x y < 256 := fun x hx h0 y hy => (hLw.rows x hx h0).2.1 y hy
  obtain ⟨Sh, hSh⟩ : ∃ Sh : Nat → Nat → Nat, Sh = shx19 n ln C G := ⟨_, rfl⟩
  have hnr : ∀ z, z < L → ∀ F, Dg F k → cnb (fun i => decide (pe 285 (pk19 (pre19 n ln) n i) (cnb (pre19 n ln) n) F ≠ yv19 f k z (pk19 (pre19 n ln) n) Sh i)) (cnb (pre19 n ln) n) = cnb (fun x => pre19 n ln x && decide (cv19 f k F x ≠ G x z)) n := fun z hz F dF => by rw [hSh]; exact nr_cntx19 hkp hn2 dF hl hLw.le hz hGb
  have hc := turnsOf_okx19 f k m n L sb cs R ln C va vc G w hf hLw hcs hcb hple hplv hpll h1 hn hn2 hL hl hm
  rw [← hSh] at hc
  refine (shardsx19 f k m n L sb cs R ln C va vc G w (fun w3 v gt tb B T => ∃ F lo, Below w.heap.size w w3 ∧ Gj w.heap.size w3 v (cnb (tp19 tb ln) n) (fsel (tp19 tb ln) (fun j => j) n) ∧ Tq19 f k n (cnb (pre19 n ln) n) L (pk19 (pre19 n ln) n) (pre19 n ln) Sh F tb ∧ (∀ x, x < n → tb x = true → w.heap.size ≤ B x ∧ B x ≠ gt ∧ ∀ z, z < L → T x z = dw19 f k (cnb (pre19 n ln) n) z (pre19 n ln) Sh (F z) x) ∧ (∀ x y, x < n → y < n → tb x = true → tb y = true → x ≠ y → B x ≠ B y) ∧ gt < lo) (fun w3 z => z = 190 ∧ Below w.heap.size w w3 ∧ ∃ y, y < L ∧ ∀ F, Gf2.El 8 F → Dg F k → ¬ Nr19 (pk19 (pre19 n ln) n) (yv19 f k y (pk19 (pre19 n ln) n) Sh) (cnb (pre19 n ln) n) ((cnb (pre19 n ln) n - k) / 2) F) (by omega) (hc.mono ?_)).mono ?_
  · rintro e w2 ⟨w1, hb1, ⟨gt, lo, rfl, F, hF, hgt, hb2, hY⟩ | ⟨rfl, hno, hb2⟩⟩
    · obtain ⟨tb, B, T, hT, -, hX⟩ := hY.ex
      have b02 : Below w.heap.size w w2 := hb1.trans (hb2.mono hb1.size)
      have l2 := hLw.below b02
      refine ⟨_, _, _, rfl, (turned19 gt n L sb 0 cs tb B ln vc va w2 hT.row l2.row.lt (fun x hx => by rw [Nat.zero_add]; exact l2.row.cell hx) hn2).mono ?_⟩
      rintro e w3 ⟨v, rfl, hG, hb3⟩
      have l3 := l2.below hb3
      have t3 := hT.below hb3
      have hgw : w.heap.size ≤ gt := Nat.le_trans hb1.size hgt
      have hBw : ∀ x, x < n → tb x = true → w.heap.size ≤ B x := fun x hx e => by have := (hT.rows x hx e).1; have := hT.lt; omega
      have hRw : ∀ x, x < n → ln x ≠ 0 → R x < w.heap.size := fun x hx h0 => (hLw.rows x hx h0).lt
      refine ⟨v, rfl, .inl ⟨gt, tb, B, T, rfl, rfl, rfl, ⟨t3.row, fun j hj e => (t3.rows j hj e).2, l3.row.congr (fun x hx => by rw [if_neg (fun h9 => absurd h9.1 (Nat.not_lt_zero _))]), hLw.sl, fun x hx h0 => (l3.rows x hx h0).congr (fun z hz => by rw [if_neg (fun h9 => absurd h9.1.1 (Nat.not_lt_zero _))]), fun x hx => ⟨hLw.le x hx, hl x hx⟩, hLw.inj, fun x hx h0 => ⟨hLw.ne x hx h0, by have := hRw x hx h0; omega, fun j hj e => by have := hRw x hx h0; have := hBw j hj e; omega⟩, fun j hj e => by have := hLw.row.lt; have := hBw j hj e; omega, by have := hLw.row.lt; omega⟩, F, lo, b02.trans (hb3.mono b02.size), ?_, ⟨hF, fun x hx => ?_⟩, fun x hx e => ⟨hBw x hx e, by have := (hT.rows x hx e).1; have := hT.lt; omega, fun z hz => ?_⟩, fun x y hx hy ex ey hne => hT.inj x y hx hy ex ey hne, hT.lt⟩⟩
      · rcases hG with h | ⟨g, c, H, a1, a2, a3, a4, a5⟩
        · exact .inl h
        · exact .inr ⟨g, c, H, a1, a2, Nat.le_trans b02.size a3, a4, a5⟩
      · have h9 := hX x hx
        simp only [Bool.false_eq_true, if_false] at h9
        exact h9.iff_
      · have h9 := hX x hx
        simp only [Bool.false_eq_true, if_false] at h9
        rw [h9.val e z hz, if_pos hz]
    · have b02 : Below w.heap.size w w2 := hb1.trans (hb2.mono hb1.size)
      refine ⟨none, 0, 190, rfl, (turned_nil19 _ w2).mono ?_⟩
      rintro e w3 ⟨rfl, rfl⟩
      exact ⟨_, rfl, .inr ⟨rfl, rfl, rfl, b02, hno⟩⟩
  · rintro e w' (⟨gt, tb, B, T, w3, v, rfl, ⟨F, lo, hb3, hG, ⟨hF, htb⟩, hT, hinj, hlo⟩, hS, hk⟩ | ⟨z, rfl, rfl, hb, y, hy, hno⟩)
    · have hRw : ∀ x, x < n → ln x ≠ 0 → R x < w.heap.size := fun x hx h0 => (hLw.rows x hx h0).lt
      have hsw : sb < w.heap.size := hLw.row.lt
      have hdm : ∀ x, x < n → ln x = 0 → ∀ z, z < L → dw19 f k (cnb (pre19 n ln) n) z (pre19 n ln) Sh (F z) x = cv19 f k (F z) x := fun x hx h0 z hz => by
        have hp : ¬ pre19 n ln x = true := fun h9 => (pre19_iff.1 h9).2 h0
        rw [dw_cv19 hkp (hF z hz).2.1, if_neg hp, Nat.xor_zero]
      have hdp : ∀ x, x < n → ln x ≠ 0 → ∀ z, z < L → dw19 f k (cnb (pre19 n ln) n) z (pre19 n ln) Sh (F z) x = cv19 f k (F z) x ^^^ G x z := fun x hx h0 z hz => by
        have hzc : z < C x := by have := hl x hx; have := hLw.le x hx h0; omega
        rw [dw_cv19 hkp (hF z hz).2.1, if_pos (pre19_iff.2 ⟨hx, h0⟩), hSh]
        unfold shx19
        rw [if_pos ⟨hx, h0, hzc⟩]
      have hne0 : ∀ x, x < n → ln x ≠ 0 → (tb x = true ↔ ∃ z, z < L ∧ cv19 f k (F z) x ≠ G x z) := fun x hx h0 => by
        rw [htb x hx]
        constructor
        · rintro (⟨h9, -⟩ | ⟨z, hz, h9⟩)
          · exact absurd (pre19_iff.2 ⟨hx, h0⟩) h9
          · exact ⟨z, hz, fun e => h9 (by rw [hdp x hx h0 z hz, e, Nat.xor_self])⟩
        · rintro ⟨z, hz, h9⟩
          exact .inr ⟨z, hz, fun e => h9 (by rw [hdp x hx h0 z hz] at e; exact xor_zero19 e)⟩
      have htm : ∀ x, x < n → ln x = 0 → tb x = true := fun x hx h0 => (htb x hx).2 (.inl ⟨fun h9 => (pre19_iff.1 h9).2 h0, by omega⟩)
      have hGe : ∀ x, x < n → ln x ≠ 0 → ∀ z, z < L → (if tb x = true ∧ z < L then G x z ^^^ T x z else G x z) = cv19 f k (F z) x := fun x hx h0 z hz => by
        by_cases e : tb x = true
        · rw [if_pos ⟨e, hz⟩, (hT x hx e).2.2 z hz, hdp x hx h0 z hz, Nat.xor_comm (cv19 f k (F z) x), ← Nat.xor_assoc, Nat.xor_self, Nat.zero_xor]
        · rw [if_neg (fun h9 => e h9.1)]
          exact (Classical.byContradiction fun h9 => e ((hne0 x hx h0).2 ⟨z, hz, fun e9 => h9 e9.symm⟩))
      refine .inl ⟨v, F, rfl, ⟨hf, h1, h1m, hn, hn2, hL1⟩, hl, hm, fun z hz => ⟨(hF z hz).1, (hF z hz).2.1, ?_⟩, ⟨tp19 tb ln, hG.keep hk (fun x hx e => ?_), fun x hx => ?_⟩, ⟨fun x => if ln x = 0 then B x else R x, fun x => if ln x = 0 then L else C x, fun x z => if ln x = 0 then T x z else if tb x = true ∧ z < L then G x z ^^^ T x z else G x z, ⟨hS.row.congr (fun x hx => ?_), fun x hx => ?_, fun x hx => ?_, fun x y hx hy hxy => ?_, fun x hx => ?_⟩, fun x hx => ⟨fun z hz => ?_, fun h0 => ⟨if_neg h0, if_neg h0, fun z hz => ?_⟩, fun h0 => ⟨?_, if_pos h0⟩⟩⟩, (ke_below hb3 _).trans hk⟩
      · have h9 := (hF z hz).2.2
        unfold Nr19 at h9
        rw [hnr z hz (F z) (hF z hz).2.1] at h9
        omega
      · rcases e with e | ⟨y, hy, hy0, e⟩
        · omega
        · have := hRw y hy (by assumption); omega
      · unfold tp19
        rw [Bool.and_eq_true, decide_eq_true_iff]
        by_cases h0 : ln x = 0
        · exact ⟨fun h9 => absurd h9.2 (by omega), fun h9 => absurd h0 h9.1⟩
        · rw [hne0 x hx h0]
          exact ⟨fun h9 => ⟨h0, h9.1⟩, fun h9 => ⟨h9.2, by omega⟩⟩
      · by_cases h0 : ln x = 0
        · rw [if_pos ⟨hx, h0⟩, if_pos (htm x hx h0), if_pos h0, if_pos h0]
        · rw [if_neg (fun h9 => h0 h9.2), if_neg h0, if_neg h0, (hLw.sl x hx h0).1, (hLw.sl x hx h0).2, (hl x hx).resolve_right h0]
      · (try dsimp only)
        by_cases h0 : ln x = 0
        · simp only [if_pos h0]
          exact hS.trows x hx (htm x hx h0)
        · simp only [if_neg h0]
          refine (hS.rows x hx h0).congr (fun z hz => ?_)
          by_cases e : tb x = true ∧ z < L
          · rw [if_pos ⟨⟨hx, e.1, h0⟩, e.2⟩, if_pos e]
          · rw [if_neg (fun h9 => e ⟨h9.1.2.1, h9.2⟩), if_neg e]
      · (try dsimp only)
        by_cases h0 : ln x = 0
        · rw [if_pos h0]; exact Nat.le_refl _
        · rw [if_neg h0]; have := hl x hx; have := hLw.le x hx h0; omega
      · (try dsimp only)
        by_cases hx0 : ln x = 0
        · by_cases hy0 : ln y = 0
          · rw [if_pos hx0, if_pos hy0]; exact hinj x y hx hy (htm x hx hx0) (htm y hy hy0) hxy
          · rw [if_pos hx0, if_neg hy0]; have := (hT x hx (htm x hx hx0)).1; have := hRw y hy (by assumption); omega
        · by_cases hy0 : ln y = 0
          · rw [if_neg hx0, if_pos hy0]; have := (hT y hy (htm y hy hy0)).1; have := hRw x hx (by assumption); omega
          · rw [if_neg hx0, if_neg hy0]; exact hLw.inj x y hx hy hx0 hy0 hxy
      · (try dsimp only)
        by_cases h0 : ln x = 0
        · rw [if_pos h0]; exact hS.nb x hx (htm x hx h0)
        · rw [if_neg h0]; exact hLw.ne x hx h0
      · (try dsimp only)
        by_cases h0 : ln x = 0
        · rw [if_pos h0, (hT x hx (htm x hx h0)).2.2 z hz, hdm x hx h0 z hz]
        · rw [if_neg h0, hGe x hx h0 z hz]
      · (try dsimp only)
        rw [if_neg h0, if_neg (fun h9 => by omega)]
      · (try dsimp only)
        rw [if_pos h0]; exact (hT x hx (htm x hx h0)).1
    · refine .inr ⟨rfl, hb, y, hy, fun F eF dF => ?_⟩
      have h9 := hno F eF dF
      unfold Nr19 at h9
      rw [hnr y hy F dF] at h9
      omega
end Go.Proofs.YthofhphlfgmklaaGreat
namespace Go.Proofs.YthofhphlfgmklaaGreat
open Go.RowKit Gf2
set_option linter.unusedVariables false

-- layer 19: valid refused; a codeword's list on its way to be spoilt
set_option maxHeartbeats 4000000 in
set_option maxRecDepth 100000 in
theorem valid_no19 (f k m : Int) (w : World) (h : ¬ ((f = 0 ∨ f = 1) ∧ 1 ≤ k ∧ 1 ≤ m ∧ k ≤ 256 ∧ m ≤ 256 ∧ k + m ≤ 256)) :
    Calls Tryz.prog 7 #[.int .i64 f, .int .i64 k, .int .i64 m] w fun e w' => e = .returned (.bool false) ∧ w' = w := by
  by_cases h0 : f = 0 ∨ f = 1
  case neg =>
    have e0 : (f == 0) = false := by simpa using fun e => h0 (.inl e)
    have e1 : (f == 1) = false := by simpa using fun e => h0 (.inr e)
    clear h h0
    go_enter Tryz.func7, Tryz.ntmps7
    go_wp2
    go_ret
    exact ⟨rfl, rfl⟩
  by_cases i1 : 1 ≤ k
  case neg =>
    have d1 : decide (1 ≤ k) = false := decide_eq_false i1
    clear h
    rcases h0 with rfl | rfl
    · go_enter Tryz.func7, Tryz.ntmps7
      go_wp2
      go_ret
      exact ⟨rfl, rfl⟩
    · go_enter Tryz.func7, Tryz.ntmps7
      go_wp2
      go_ret
      exact ⟨rfl, rfl⟩
  by_cases i2 : 1 ≤ m
  case neg =>
    have d2 : decide (1 ≤ m) = false := decide_eq_false i2
    clear h
    rcases h0 with rfl | rfl
    · go_enter Tryz.func7, Tryz.ntmps7
      go_wp2
      go_ret
      exact ⟨rfl, rfl⟩
    · go_enter Tryz.func7, Tryz.ntmps7
      go_wp2
      go_ret
      exact ⟨rfl, rfl⟩
  by_cases i3 : k ≤ 256
  case neg =>
    have d3 : decide (k ≤ 256) = false := decide_eq_false i3
    clear h
    rcases h0 with rfl | rfl
    · go_enter Tryz.func7, Tryz.ntmps7
      go_wp2
      go_ret
      exact ⟨rfl, rfl⟩
    · go_enter Tryz.func7, Tryz.ntmps7
      go_wp2
      go_ret
      exact ⟨rfl, rfl⟩
  by_cases i4 : m ≤ 256
  case neg =>
    have d4 : decide (m ≤ 256) = false := decide_eq_false i4
    clear h
    rcases h0 with rfl | rfl
    · go_enter Tryz.func7, Tryz.ntmps7
      go_wp2
      go_ret
      exact ⟨rfl, rfl⟩
    · go_enter Tryz.func7, Tryz.ntmps7
      go_wp2
      go_ret
      exact ⟨rfl, rfl⟩
  have i5 : ¬ k + m ≤ 256 := fun e => h ⟨h0, i1, i2, i3, i4, e⟩
  have W0 : wrap64 (k + m) = k + m := by unfold wrap64; omega
  have d5 : decide (k + m ≤ 256) = false := decide_eq_false i5
  clear h
  rcases h0 with rfl | rfl
  · go_enter Tryz.func7, Tryz.ntmps7
    go_wp2
    go_ret
    exact ⟨rfl, rfl⟩
  · go_enter Tryz.func7, Tryz.ntmps7
    go_wp2
    go_ret
    exact ⟨rfl, rfl⟩
theorem cnb_set {P Q : Nat → Bool} {a : Nat} (h1 : P a = false) (h2 : Q a = true) (h3 : ∀ x, x ≠ a → P x = Q x) : ∀ n, a < n → cnb Q n = cnb P n + 1
  | 0, h => absurd h (Nat.not_lt_zero _)
  | n + 1, h => by
    by_cases e : n = a
    · subst e
      rw [cnb_yes h2, cnb_no h1, cnb_congr (fun i hi => h3 i (by omega))]
    · have hr := cnb_set h1 h2 h3 n (by omega)
      cases hq : Q n with
      | true => rw [cnb_yes hq, cnb_yes ((h3 n e).trans hq), hr]
      | false => rw [cnb_no hq, cnb_no ((h3 n e).trans hq), hr]
/-- a list of shards of T bytes or none, at or above w2's memory, which is as it was. -/
structure Rp19 (w2 W : World) (n T : Nat) (B ln C : Nat → Nat) (va : Nat → Option Addr) (vc : Nat → Nat) (G : Nat → Nat → Nat) : Prop where
  list : Lx19 W w2.heap.size n B ln C va vc G
  lo : ∀ x, x < n → ln x ≠ 0 → w2.heap.size ≤ B x
  lens : ∀ x, x < n → ln x = T ∨ ln x = 0
  bel : Below w2.heap.size w2 W
section
variable {w2 W W' : World} {n T : Nat} {B ln C : Nat → Nat} {va : Nat → Option Addr} {vc : Nat → Nat} {G : Nat → Nat → Nat}
theorem Rp19.below (h : Rp19 w2 W n T B ln C va vc G) (hb : Below W.heap.size W W') : Rp19 w2 W' n T B ln C va vc G :=
  ⟨h.list.below hb, h.lo, h.lens, h.bel.trans (hb.mono h.bel.size)⟩
theorem Rp19.drewN (h : Rp19 w2 W n T B ln C va vc G) (q : Nat) : Rp19 w2 (W.drewN q) n T B ln C va vc G := h.below (below_drewN (Below.refl _ _) q)
theorem rp_start19 {g : Nat} {B C : Nat → Nat} (h : Fl w2 W g n n (fun _ => T) C B G) (hg : g = w2.heap.size) : Rp19 w2 W n T B (fun _ => T) C (fun x => some ⟨B x, 0, none⟩) C G := by
  subst hg
  exact ⟨h.lw19.lx, fun x hx _ => (h.rows x hx).1, fun _ _ => .inl rfl, h.bel⟩
/-- a shard is lost. -/
theorem Rp19.lose (h : Rp19 w2 W n T B ln C va vc G) {a : Nat} (ha : a < n) : Rp19 w2 (W.setCell ⟨w2.heap.size, a, none⟩ (.slice none 0 0)) n T B (fun x => if x = a then 0 else ln x) C (fun x => if x = a then none else va x) (fun x => if x = a then 0 else vc x) G := by
  have kp : Kp w2.heap.size W (W.setCell ⟨w2.heap.size, a, none⟩ (.slice none 0 0)) := (Kp.refl _ _).setCell _ _
  have h0 : ∀ {x}, (if x = a then 0 else ln x) ≠ 0 → ln x ≠ 0 := fun {x} e => by
    by_cases e2 : x = a
    · rw [if_pos e2] at e; exact absurd rfl e
    · rw [if_neg e2] at e; exact e
  have h1 : ∀ {x}, (if x = a then 0 else ln x) ≠ 0 → x ≠ a := fun {x} e e2 => by rw [if_pos e2] at e; exact e rfl
  refine ⟨⟨(h.list.row.set a _).congr (fun x hx => ?_), fun x hx e => ?_, fun x hx e => kp.rw_ (h.list.rows x hx (h0 e)) (h.list.ne x hx (h0 e)), fun x hx e => ?_, fun x y hx hy ex ey => h.list.inj x y hx hy (h0 ex) (h0 ey), fun x hx e => h.list.ne x hx (h0 e)⟩, fun x hx e => h.lo x hx (h0 e), fun x hx => ?_, h.bel.setCell (Nat.le_refl _) _⟩
  · by_cases e : x = a
    · rw [if_pos e, if_pos e, if_pos e, if_pos e]
    · rw [if_neg e, if_neg e, if_neg e, if_neg e]
  · (try dsimp only)
    rw [if_neg (h1 e), if_neg (h1 e)]
    exact h.list.sl x hx (h0 e)
  · (try dsimp only)
    rw [if_neg (h1 e)]
    exact h.list.le x hx (h0 e)
  · (try dsimp only)
    by_cases e : x = a
    · rw [if_pos e]; exact .inr rfl
    · rw [if_neg e]; exact h.lens x hx
theorem Rp19.emp_ {a : Nat} (ha : a < n) (h0 : ln a ≠ 0) : cnb (emp (fun x => if x = a then 0 else ln x)) n = cnb (emp ln) n + 1 := by
  refine cnb_set (a := a) ?_ ?_ (fun x hx => ?_) n ha
  · show (ln a == 0) = false
    simp [h0]
  · show ((if a = a then 0 else ln a) == 0) = true
    simp
  · show (ln x == 0) = ((if x = a then 0 else ln x) == 0)
    rw [if_neg hx]
/-- a byte is turned. -/
theorem Rp19.turn (h : Rp19 w2 W n T B ln C va vc G) {a t y : Nat} (ha : a < n) (h0 : ln a ≠ 0) (hy : y < 256) : Rp19 w2 (W.setCell ⟨B a, t, none⟩ (.int .u8 (y : Nat))) n T B ln C va vc (fun x z => if x = a ∧ z = t then y else G x z) := by
  have kp : Kp (B a) W (W.setCell ⟨B a, t, none⟩ (.int .u8 (y : Nat))) := (Kp.refl _ _).setCell _ _
  refine ⟨⟨h.list.row.of_block (kp.2 _ h.list.row.lt (fun e => h.list.ne a ha h0 e.symm)), h.list.sl, fun x hx e => ?_, h.list.le, h.list.inj, h.list.ne⟩, h.lo, h.lens, h.bel.setCell (h.lo a ha h0) _⟩
  by_cases e2 : x = a
  · subst e2
    refine ((h.list.rows x hx e).set t y hy).congr (fun z hz => ?_)
    by_cases e3 : z = t
    · rw [if_pos e3, if_pos ⟨rfl, e3⟩]
    · rw [if_neg e3, if_neg (fun h9 => e3 h9.2)]
  · refine (kp.rw_ (h.list.rows x hx e) (h.list.inj x a hx ha e h0 e2)).congr (fun z hz => ?_)
    rw [if_neg (fun h9 => e2 h9.1)]
theorem Rp19.cell (h : Rp19 w2 W n T B ln C va vc G) {a : Nat} (ha : a < n) : W.cell? ⟨w2.heap.size, a, none⟩ = some (.slice (va a) (ln a) (vc a)) := h.list.row.cell ha
theorem Rp19.full (h : Rp19 w2 W n T B ln C va vc G) {a : Nat} (ha : a < n) (h0 : ln a ≠ 0) : W.cell? ⟨w2.heap.size, a, none⟩ = some (.slice (some ⟨B a, 0, none⟩) T (C a)) := by
  rw [h.cell ha, (h.list.sl a ha h0).1, (h.list.sl a ha h0).2, (h.lens a ha).resolve_right h0]
theorem Rp19.le (h : Rp19 w2 W n T B ln C va vc G) {a : Nat} (ha : a < n) (h0 : ln a ≠ 0) : T ≤ C a := by
  have := h.list.le a ha h0
  rwa [(h.lens a ha).resolve_right h0] at this
theorem Rp19.rb (h : Rp19 w2 W n T B ln C va vc G) {a : Nat} (ha : a < n) (h0 : ln a ≠ 0) : Rb W (.slice (some ⟨B a, 0, none⟩) T (C a)) T (G a) := (h.list.rows a ha h0).rb0.cut8 (h.le ha h0)
theorem Rp19.at_ (h : Rp19 w2 W n T B ln C va vc G) {a t : Nat} (ha : a < n) (h0 : ln a ≠ 0) (ht : t < T) : W.cell? ⟨B a, t, none⟩ = some (.int .u8 (G a t : Nat)) := (h.list.rows a ha h0).2.2.cell (Nat.lt_of_lt_of_le ht (h.le ha h0))
theorem Rp19.byte (h : Rp19 w2 W n T B ln C va vc G) {a t : Nat} (ha : a < n) (h0 : ln a ≠ 0) (ht : t < T) : G a t < 256 := (h.list.rows a ha h0).2.1 t (Nat.lt_of_lt_of_le ht (h.le ha h0))
end
end Go.Proofs.YthofhphlfgmklaaGreat
namespace Go.Proofs.YthofhphlfgmklaaGreat
open Go.RowKit Gf2
set_option linter.unusedVariables false

-- layer 19: what Partial tells of a codeword that lost few shards; Find and Shards over it
theorem scf_two19 {n : Nat → Nat} {k l : Nat} (h : ∀ i, i < k → n i = l ∨ n i = 0) : scf (some 0) n k = some 0 ∧ (∀ i, i < k → n i = 0) ∨ scf (some 0) n k = some l := by
  induction k with
  | zero => exact .inl ⟨rfl, fun i hi => absurd hi (Nat.not_lt_zero _)⟩
  | succ k ih =>
    by_cases h0 : n k = 0
    · rcases ih (fun i hi => h i (by omega)) with ⟨e, ha⟩ | e
      · refine .inl ⟨scf_zero e h0, fun i hi => ?_⟩
        by_cases e2 : i = k
        · rw [e2]; exact h0
        · exact ha i (by omega)
      · exact .inr (scf_zero e h0)
    · have hl : n k = l := (h k (Nat.lt_succ_self _)).resolve_right h0
      right
      rcases ih (fun i hi => h i (by omega)) with ⟨e, ha⟩ | e
      · rw [scf_good e h0 (.inl rfl), hl]
      · rw [scf_good e h0 (.inr hl), hl]
theorem part_yes19 {f k m n L : Nat} {ln : Nat → Nat} (hf : f ≤ 1) (h1 : 1 ≤ k) (h2 : 1 ≤ m) (hn : n = k + m) (hn2 : n ≤ 256) (hL : 1 ≤ L) (hl : ∀ x, x < n → ln x = L ∨ ln x = 0) (hm : cnb (emp ln) n ≤ m) : ple f k m n ln = 0 ∧ plv16 f k m n ln = L ∧ pll f k m n ln = cnb (emp ln) n := by
  have hp : prm (f : Int) (k : Int) (m : Int) = 0 := prm_ok.2 ⟨by omega, by omega, by omega, by omega, fun _ => by omega, fun e => by omega⟩
  have hnn : (n : Int) = (k : Int) + (m : Int) := by omega
  have hs := pre_emp19 n ln
  have hfull : ¬ (ems (emp ln) n).length = n := by rw [ems_cnb19]; omega
  have hodd : ¬ ((f : Int) = 2 ∧ L % 2 = 1) := fun e => by omega
  have hsc : scf (some 0) ln n = some L := by
    rcases scf_two19 hl with ⟨-, h9⟩ | h9
    · exact absurd (ems_full.2 (fun i hi => by
        have := h9 i hi
        show (ln i == 0) = true
        simp [this])) hfull
    · exact h9
  have h0 : ple f k m n ln = 0 := by
    unfold ple
    rw [if_pos hp, if_pos hnn, if_neg hfull, hsc, ole_even hodd, if_pos rfl, if_neg (by rw [ems_cnb19]; omega)]
  refine ⟨h0, ?_, ?_⟩
  · unfold plv16
    rw [h0, if_pos rfl, hsc, olv_even hodd]
  · unfold pll
    rw [h0, if_pos rfl, ems_cnb19]
/-- a codeword V that lost few shards, wrong in no column at more than half of what is spare; P: where. -/
structure Nh19 (w2 W : World) (f k m n T : Nat) (B ln C : Nat → Nat) (va : Nat → Option Addr) (vc : Nat → Nat) (G V : Nat → Nat → Nat) (P : Nat → Bool) : Prop where
  rp : Rp19 w2 W n T B ln C va vc G
  val : f ≤ 1 ∧ 1 ≤ k ∧ 1 ≤ m ∧ n = k + m ∧ n ≤ 256 ∧ 1 ≤ T ∧ T ≤ 140737488351232
  few : cnb (emp ln) n ≤ m
  byt : ∀ z, z < T → ∀ x, x < n → V x z < 256
  cw : ∀ z, z < T → Cw19 f k n (fun x => V x z)
  cnt : ∀ z, z < T → 2 * cnb (fun x => pre19 n ln x && decide (V x z ≠ G x z)) n ≤ m - cnb (emp ln) n
  told : ∀ x, x < n → (P x = true ↔ ln x ≠ 0 ∧ ∃ z, z < T ∧ V x z ≠ G x z)
section
variable {w2 W : World} {f k m n T : Nat} {B ln C : Nat → Nat} {va : Nat → Option Addr} {vc : Nat → Nat} {G V : Nat → Nat → Nat} {P : Nat → Bool}
theorem Nh19.below {W' : World} (h : Nh19 w2 W f k m n T B ln C va vc G V P) (hb : Below W.heap.size W W') : Nh19 w2 W' f k m n T B ln C va vc G V P :=
  ⟨h.rp.below hb, h.val, h.few, h.byt, h.cw, h.cnt, h.told⟩
theorem Nh19.big_ (h : Nh19 w2 W f k m n T B ln C va vc G V P) : n ≤ big := by have := h.val; unfold big; omega
theorem Nh19.found {F : Nat → Nat} {z : Nat} (h : Nh19 w2 W f k m n T B ln C va vc G V P) (hz : z < T) (eF : Gf2.El 8 F) (dF : Dg F k) (h2 : 2 * cnb (fun x => pre19 n ln x && decide (cv19 f k F x ≠ G x z)) n ≤ m - cnb (emp ln) n) : ∀ x, x < n → cv19 f k F x = V x z := by
  obtain ⟨v1, v2, v3, v4, v5, v6, v7⟩ := h.val
  refine found19 (C := fun x => if ln x = 0 then 0 else C x) (G := G) v1 v2 v4 v5 h.few h.rp.lens (fun x hx => ?_) hz (fun x hx y hy => ?_) eF dF h2 (h.cw z hz) (h.byt z hz) (h.cnt z hz)
  · (try dsimp only)
    by_cases e : ln x = 0
    · rw [if_pos e]; omega
    · rw [if_neg e]; exact h.rp.list.le x hx e
  · (try dsimp only at hy)
    by_cases e : ln x = 0
    · rw [if_pos e] at hy; omega
    · rw [if_neg e] at hy; exact (h.rp.list.rows x hx e).2.1 y hy
theorem Nh19.same {Q : Nat → Bool} (h : Nh19 w2 W f k m n T B ln C va vc G V P) (hQ : ∀ x, x < n → (Q x = true ↔ ln x ≠ 0 ∧ ∃ z, z < T ∧ V x z ≠ G x z)) : cnb Q n = cnb P n ∧ fsel Q (fun j => j) n = fsel P (fun j => j) n := by
  have e : ∀ x, x < n → Q x = P x := fun x hx => by
    have h1 := hQ x hx
    have h2 := h.told x hx
    cases hq : Q x with
    | true => exact (h2.2 (h1.1 hq)).symm
    | false =>
      cases hp : P x with
      | false => rfl
      | true => rw [h1.2 (h2.1 hp)] at hq; cases hq
  exact ⟨cnb_congr e, fsel_congr e⟩
/-- Find tells the shards in which a byte is wrong. -/
theorem find_nh19 (h : Nh19 w2 W f k m n T B ln C va vc G V P) :
    Calls Tryz.prog 11 #[.int .i64 (f : Int), .int .i64 (k : Int), .int .i64 (m : Int), .slice (some ⟨w2.heap.size, 0, none⟩) n n] W fun e W' => ∃ v, e = .returned (.tuple #[v, .int .i64 0]) ∧ Gj W.heap.size W' v (cnb P n) (fsel P (fun j => j) n) ∧ Below W.heap.size W W' := by
  obtain ⟨v1, v2, v3, v4, v5, v6, v7⟩ := h.val
  obtain ⟨p1, p2, p3⟩ := part_yes19 v1 v2 v3 v4 v5 v6 h.rp.lens h.few
  have hs := pre_emp19 n ln
  have hkp : k ≤ cnb (pre19 n ln) n := by have := h.few; omega
  have hGb : ∀ x, x < n → ln x ≠ 0 → ∀ y, y < C x → G x y < 256 := fun x hx h0 y hy => (h.rp.list.rows x hx h0).2.1 y hy
  have c1 := turnsOf_okx19 f k m n T w2.heap.size n B ln C va vc G W v1 h.rp.list (Nat.le_refl _) h.big_ p1 p2 p3 v2 v4 v5 v7 h.rp.lens h.few
  refine (find19 f k m n (cnb (pre19 n ln) n) T w2.heap.size 0 n (pk19 (pre19 n ln) n) (pre19 n ln) (shx19 n ln C G) ln vc va W v5 h.rp.list.row.lt (fun x hx => by rw [Nat.zero_add]; exact h.rp.cell hx) c1).mono ?_
  rintro e W' ⟨hb, ⟨v, F, tb, rfl, ⟨hF, htb⟩, hG⟩ | ⟨rfl, y, hy, hno⟩⟩
  · have hcv : ∀ z, z < T → ∀ x, x < n → cv19 f k (F z) x = V x z := fun z hz => h.found hz (hF z hz).1 (hF z hz).2.1 (by
      have h9 := (hF z hz).2.2
      unfold Nr19 at h9
      rw [nr_cntx19 hkp v5 (hF z hz).2.1 h.rp.lens h.rp.list.le hz hGb] at h9
      omega)
    obtain ⟨e1, e2⟩ := h.same (Q := tp19 tb ln) (fun x hx => by
      unfold tp19
      rw [Bool.and_eq_true, decide_eq_true_iff, htb x hx]
      constructor
      · rintro ⟨h8, h0⟩
        have h0 : ln x ≠ 0 := by omega
        refine ⟨h0, ?_⟩
        rcases h8 with ⟨h9, -⟩ | ⟨z, hz, h9⟩
        · exact absurd (pre19_iff.2 ⟨hx, h0⟩) h9
        · refine ⟨z, hz, fun e => h9 ?_⟩
          rw [dw_cv19 hkp (hF z hz).2.1, if_pos (pre19_iff.2 ⟨hx, h0⟩), hcv z hz x hx]
          unfold shx19
          rw [if_pos ⟨hx, h0, Nat.lt_of_lt_of_le hz (h.rp.le hx h0)⟩, e, Nat.xor_self]
      · rintro ⟨h0, z, hz, h9⟩
        refine ⟨.inr ⟨z, hz, fun e => h9 ?_⟩, by omega⟩
        rw [dw_cv19 hkp (hF z hz).2.1, if_pos (pre19_iff.2 ⟨hx, h0⟩), hcv z hz x hx] at e
        unfold shx19 at e
        rw [if_pos ⟨hx, h0, Nat.lt_of_lt_of_le hz (h.rp.le hx h0)⟩] at e
        exact xor_zero19 e)
    rw [e1, e2] at hG
    exact ⟨v, rfl, hG, hb⟩
  · exfalso
    refine beyond19 (f := f) (k := k) (m := m) (n := n) (z := y) (ln := ln) (G := G) (c := fun x => V x y) v1 v4 v5 (fun F eF dF => ?_) (h.cw y hy) (h.byt y hy) (h.cnt y hy)
    have h9 := hno F eF dF
    unfold Nr19 at h9
    rw [nr_cntx19 hkp v5 dF h.rp.lens h.rp.list.le hy hGb] at h9
    omega
/-- Shards gives the codeword back. -/
theorem shards_nh19 (h : Nh19 w2 W f k m n T B ln C va vc G V P) :
    Calls Tryz.prog 12 #[.int .i64 (f : Int), .int .i64 (k : Int), .int .i64 (m : Int), .slice (some ⟨w2.heap.size, 0, none⟩) n n] W fun e W' => ∃ v, e = .returned (.tuple #[v, .int .i64 0]) ∧ Gj W.heap.size W' v (cnb P n) (fsel P (fun j => j) n) ∧ Below w2.heap.size w2 W' ∧ Ke (fun x => x = w2.heap.size ∨ ∃ y, y < n ∧ ln y ≠ 0 ∧ x = B y) W W' ∧ ∃ R' C' G', Lw19 W' w2.heap.size n R' (fun _ => T) C' G' ∧ ∀ x, x < n → (∀ z, z < T → G' x z = V x z) ∧ (ln x ≠ 0 → R' x = B x ∧ C' x = C x) ∧ (ln x = 0 → W.heap.size ≤ R' x ∧ C' x = T) := by
  obtain ⟨v1, v2, v3, v4, v5, v6, v7⟩ := h.val
  obtain ⟨p1, p2, p3⟩ := part_yes19 v1 v2 v3 v4 v5 v6 h.rp.lens h.few
  refine (shards_okx19 f k m n T w2.heap.size n B ln C va vc G W v1 h.rp.list (Nat.le_refl _) h.big_ p1 p2 p3 v2 v3 v4 v5 v6 v7 h.rp.lens h.few).mono ?_
  rintro e W' (⟨v, F, rfl, hO⟩ | ⟨rfl, hb, y, hy, hno⟩)
  · have hcv : ∀ z, z < T → ∀ x, x < n → cv19 f k (F z) x = V x z := fun z hz => h.found hz (hO.pol z hz).1 (hO.pol z hz).2.1 (hO.pol z hz).2.2
    obtain ⟨Q, hG, hQ⟩ := hO.told
    obtain ⟨e1, e2⟩ := h.same (Q := Q) (fun x hx => by
      rw [hQ x hx]
      constructor
      · rintro ⟨h0, z, hz, h9⟩; exact ⟨h0, z, hz, by rw [← hcv z hz x hx]; exact h9⟩
      · rintro ⟨h0, z, hz, h9⟩; exact ⟨h0, z, hz, by rw [hcv z hz x hx]; exact h9⟩)
    rw [e1, e2] at hG
    obtain ⟨R', C', G', hL, hR⟩ := hO.list
    refine ⟨v, rfl, hG, h.rp.bel.trans (Ke.below hO.ke (fun x e => ?_) h.rp.bel.size), hO.ke, R', C', G', hL, fun x hx => ⟨fun z hz => by rw [(hR x hx).1 z hz, hcv z hz x hx], fun h0 => ⟨((hR x hx).2.1 h0).1, ((hR x hx).2.1 h0).2.1⟩, (hR x hx).2.2⟩⟩
    rcases e with e | ⟨y, hy, hy0, e⟩
    · omega
    · have := h.rp.lo y hy hy0; omega
  · exact absurd (beyond19 (f := f) (k := k) (m := m) (n := n) (z := y) (ln := ln) (G := G) (c := fun x => V x y) v1 v4 v5 hno (h.cw y hy) (h.byt y hy) (h.cnt y hy)) id
end
end Go.Proofs.YthofhphlfgmklaaGreat
namespace Go.Proofs.YthofhphlfgmklaaGreat
open Go.RowKit Gf2
set_option linter.unusedVariables false

-- layer 19: MendRepairs: the calls ahead of its loops
/-- what stands fast behind made. -/
structure Pk19 (w W : World) (bx gs n T : Nat) (f k m : Int) (aS aL aW : Option Addr) (cS nL cL nW cW : Nat) (Lo Co Sh : Nat → Int) (Mk : Nat → Nat) (Bw : Nat → Nat) (V : Nat → Nat → Nat) : Prop where
  z0 : W.cell? ⟨bx, 0, none⟩ = some (.int .i64 f)
  z1 : W.cell? ⟨bx, 1, none⟩ = some (.int .i64 k)
  z2 : W.cell? ⟨bx, 2, none⟩ = some (.int .i64 m)
  z3 : W.cell? ⟨bx, 3, none⟩ = some (.slice aS T cS)
  z4 : W.cell? ⟨bx, 4, none⟩ = some (.slice aL nL cL)
  z5 : W.cell? ⟨bx, 5, none⟩ = some (.slice aW nW cW)
  want : Lw19 W gs n Bw (fun _ => T) (fun _ => T) V
  lost : Qi W (.slice aL nL cL) nL Lo
  wrongs : Qw19 W (.slice aW nW cW) nW Co Sh Mk
  bel : Below w.heap.size w W
section
variable {w W W' : World} {bx gs n T : Nat} {f k m : Int} {aS aL aW : Option Addr} {cS nL cL nW cW : Nat} {Lo Co Sh : Nat → Int} {Mk : Nat → Nat} {Bw : Nat → Nat} {V : Nat → Nat → Nat}
theorem Pk19.below (h : Pk19 w W bx gs n T f k m aS aL aW cS nL cL nW cW Lo Co Sh Mk Bw V) (hb : Below W.heap.size W W') : Pk19 w W' bx gs n T f k m aS aL aW cS nL cL nW cW Lo Co Sh Mk Bw V :=
  ⟨(hb.cell (cell_lt5 h.z0)).trans h.z0, (hb.cell (cell_lt5 h.z1)).trans h.z1, (hb.cell (cell_lt5 h.z2)).trans h.z2, (hb.cell (cell_lt5 h.z3)).trans h.z3, (hb.cell (cell_lt5 h.z4)).trans h.z4, (hb.cell (cell_lt5 h.z5)).trans h.z5, h.want.below hb, h.lost.below hb, h.wrongs.below hb, h.bel.trans (hb.mono h.bel.size)⟩
end
/-- behind twin. -/
structure Pm19 (w w2 w3 : World) (bx gs n T : Nat) (f k m : Int) (aS aL aW : Option Addr) (cS nL cL nW cW : Nat) (Lo Co Sh : Nat → Int) (Mk : Nat → Nat) (Bw : Nat → Nat) (V : Nat → Nat → Nat) (B C : Nat → Nat) (G : Nat → Nat → Nat) : Prop where
  keep : ∀ W, Below w2.heap.size w2 W → Pk19 w W bx gs n T f k m aS aL aW cS nL cL nW cW Lo Co Sh Mk Bw V
  rp : Rp19 w2 w3 n T B (fun _ => T) C (fun x => some ⟨B x, 0, none⟩) C G
  eq : ∀ x, x < n → ∀ z, z < T → G x z = V x z
theorem repairs_a19 (f k m n T : Nat) (bx : Nat) (aS aL aW : Option Addr) (cS nL cL nW cW : Nat) (sl : Nat → Nat) (Sd : Nat → Nat → Nat) (Lo Co Sh : Nat → Int) (Mk : Nat → Nat) (w w1 : World) (hf : f ≤ 1) (h1 : 1 ≤ k) (hn : n = k + m) (hn2 : n ≤ 256) (hT : T ≤ 64) (hS : Lb w (.slice aS T cS) T sl Sd) (hL : Qi w (.slice aL nL cL) nL Lo) (hW : Qw19 w (.slice aW nW cW) nW Co Sh Mk) (hb : Below w.heap.size w w1)
    (z : w1.cell? ⟨bx, 0, none⟩ = some (.int .i64 (f : Int)) ∧ w1.cell? ⟨bx, 1, none⟩ = some (.int .i64 (k : Int)) ∧ w1.cell? ⟨bx, 2, none⟩ = some (.int .i64 (m : Int)) ∧ w1.cell? ⟨bx, 3, none⟩ = some (.slice aS T cS) ∧ w1.cell? ⟨bx, 4, none⟩ = some (.slice aL nL cL) ∧ w1.cell? ⟨bx, 5, none⟩ = some (.slice aW nW cW)) :
    Calls Tryz.prog 8 #[.agg #[.int .i64 (f : Int), .int .i64 (k : Int), .int .i64 (m : Int), .slice aS T cS, .slice aL nL cL, .slice aW nW cW]] w1 fun e w2 => ∃ gs, e = .returned (.slice (some ⟨gs, 0, none⟩) n n) ∧
    Calls Tryz.prog 9 #[.slice (some ⟨gs, 0, none⟩) n n] w2 fun e w3 => ∃ Bw B C G, e = .returned (.slice (some ⟨w2.heap.size, 0, none⟩) n n) ∧ Pm19 w w2 w3 bx gs n T f k m aS aL aW cS nL cL nW cW Lo Co Sh Mk Bw (fun x z => col19 f k (sd19 sl Sd z) x) B C G := by
  refine (made19 f k m n T aS aL aW cS nL cL nW cW sl Sd w1 hf h1 hn hn2 hT (hS.below hb)).mono ?_
  rintro e w2 ⟨gs, Bw, rfl, hM⟩
  have hw : Lw19 w2 gs n Bw (fun _ => T) (fun _ => T) (fun x z => col19 f k (sd19 sl Sd z) x) := ⟨hM.lw.row, fun x hx => (hM.lw.rows x hx).congr (fun z hz => if_pos (.inl hz)), hM.lw.le, hM.lw.inj, hM.lw.ne⟩
  have b12 : Below w1.heap.size w1 w2 := by have h := hM.bel; rwa [hM.bw] at h
  have b2 := hb.trans (b12.mono hb.size)
  have hc : ∀ {q : Nat} {v : Value}, w1.cell? ⟨bx, q, none⟩ = some v → w2.cell? ⟨bx, q, none⟩ = some v := fun e => (b12.cell (cell_lt5 e)).trans e
  have hP : Pk19 w w2 bx gs n T f k m aS aL aW cS nL cL nW cW Lo Co Sh Mk Bw (fun x z => col19 f k (sd19 sl Sd z) x) := ⟨hc z.1, hc z.2.1, hc z.2.2.1, hc z.2.2.2.1, hc z.2.2.2.2.1, hc z.2.2.2.2.2, hw, hL.below b2, hW.below b2, b2⟩
  refine ⟨gs, rfl, (twin19 _ n (fun _ => T) (fun x z => col19 f k (sd19 sl Sd z) x) w2 (hw.lb (Nat.le_refl _) (by unfold big; omega)) (by omega) (fun i _ => by omega)).mono ?_⟩
  rintro e w3 ⟨C, B, G, rfl, hF, hG⟩
  exact ⟨Bw, B, C, G, rfl, fun W hW => hP.below hW, rp_start19 hF rfl, hG⟩
end Go.Proofs.YthofhphlfgmklaaGreat
namespace Go.Proofs.YthofhphlfgmklaaGreat
open Go.RowKit Gf2
set_option linter.unusedVariables false

-- layer 19: MendRepairs: the calls behind its loops
theorem repairs_b19 {w w2 W : World} {f k m n T ee lo : Nat} {B ln C : Nat → Nat} {va : Nat → Option Addr} {vc : Nat → Nat} {G V : Nat → Nat → Nat} {P : Nat → Bool} {u : Value} {bx gs : Nat} {aS aL aW : Option Addr} {cS nL cL nW cW : Nat} {Lo Co Sh : Nat → Int} {Mk : Nat → Nat} {Bw : Nat → Nat}
    (hR : Rp19 w2 W n T B ln C va vc G) (hV : f ≤ 1 ∧ 1 ≤ k ∧ 1 ≤ m ∧ k + m ≤ 256) (hN : n = k + m ∧ n ≤ 256 ∧ 1 ≤ T ∧ T ≤ 64) (hee : ee ≤ m) (hce : cnb (emp ln) n = ee) (hVV : (∀ z, z < T → ∀ x, x < n → V x z < 256) ∧ ∀ z, z < T → Cw19 f k n (fun x => V x z))
    (hc : ∀ z, z < T → 2 * cnb (fun x => pre19 n ln x && decide (V x z ≠ G x z)) n ≤ m - ee) (hP : ∀ x, P x = true ↔ ln x ≠ 0 ∧ ∃ z, z < T ∧ V x z ≠ G x z) (hG : Gj lo W u (cnb P n) (fsel P (fun j => j) n)) (hlo : w2.heap.size < lo ∧ ∀ y, y < n → ln y ≠ 0 → B y < lo)
    (hK : ∀ W, Below w2.heap.size w2 W → Pk19 w W bx gs n T (f : Int) (k : Int) (m : Int) aS aL aW cS nL cL nW cW Lo Co Sh Mk Bw V) :
    Calls Tryz.prog 11 #[.int .i64 (f : Int), .int .i64 (k : Int), .int .i64 (m : Int), .slice (some ⟨w2.heap.size, 0, none⟩) n n] W fun e W1 => ∃ v1, e = .returned (.tuple #[v1, .int .i64 0]) ∧ (W1.cell? ⟨bx, 0, none⟩ = some (.int .i64 (f : Int)) ∧ W1.cell? ⟨bx, 1, none⟩ = some (.int .i64 (k : Int)) ∧ W1.cell? ⟨bx, 2, none⟩ = some (.int .i64 (m : Int))) ∧
    Calls Tryz.prog 12 #[.int .i64 (f : Int), .int .i64 (k : Int), .int .i64 (m : Int), .slice (some ⟨w2.heap.size, 0, none⟩) n n] W1 fun e W2 => ∃ v2, e = .returned (.tuple #[v2, .int .i64 0]) ∧
      Calls Tryz.prog 13 #[v1, u] W2 fun e W3 => e = .returned (.bool true) ∧
      Calls Tryz.prog 13 #[v2, u] W3 fun e W4 => e = .returned (.bool true) ∧
      Calls Tryz.prog 14 #[.slice (some ⟨w2.heap.size, 0, none⟩) n n, .slice (some ⟨gs, 0, none⟩) n n] W4 fun e W5 => e = .returned (.bool true) ∧ Below w.heap.size w W5 := by
  have hh : Nh19 w2 W f k m n T B ln C va vc G V P := ⟨hR, ⟨hV.1, hV.2.1, hV.2.2.1, hN.1, hN.2.1, hN.2.2.1, by omega⟩, by rw [hce]; exact hee, hVV.1, hVV.2, by rw [hce]; exact hc, fun x _ => hP x⟩
  have hRW : ∀ y, y < n → ln y ≠ 0 → B y < W.heap.size := fun y hy h0 => (hR.list.rows y hy h0).lt
  have hlW : w2.heap.size < W.heap.size := hR.list.row.lt
  refine (find_nh19 hh).mono ?_
  rintro e W1 ⟨v1, rfl, hG1, hb1⟩
  have h1 := hh.below hb1
  have hK1 := hK W1 h1.rp.bel
  refine ⟨v1, rfl, ⟨hK1.z0, hK1.z1, hK1.z2⟩, (shards_nh19 h1).mono ?_⟩
  rintro e W2 ⟨v2, rfl, hG2, hb2, hk2, R', C', G', hL, hx⟩
  have hK2 := hK W2 hb2
  have g1 : Gj W.heap.size W2 v1 (cnb P n) (fsel P (fun j => j) n) := hG1.keep hk2 (fun x hx e => by
    rcases e with e | ⟨y, hy, h0, e⟩
    · omega
    · have := hRW y hy h0; omega)
  have gu : Gj lo W2 u (cnb P n) (fsel P (fun j => j) n) := (hG.below hb1).keep hk2 (fun x hx e => by
    rcases e with e | ⟨y, hy, h0, e⟩
    · have := hlo.1; omega
    · have := hlo.2 y hy h0; omega)
  refine ⟨v2, rfl, (si19_true v1 u (cnb P n) _ _ _ g1.qi gu.qi (fun _ _ => rfl)).mono ?_⟩
  rintro e W3 ⟨rfl, q3, rfl⟩
  refine ⟨rfl, (si19_true v2 u (cnb P n) _ _ _ (hG2.qi.drewN q3) (gu.qi.drewN q3) (fun _ _ => rfl)).mono ?_⟩
  rintro e W4 ⟨rfl, q4, rfl⟩
  have hn9 : n ≤ big := by unfold big; omega
  have bq : Below W2.heap.size W2 ((W2.drewN q3).drewN q4) := below_drewN (below_drewN (Below.refl _ _) q3) q4
  refine ⟨rfl, (sm19_true _ _ n (fun _ => T) G' V _ ((hL.below bq).lb (Nat.le_refl _) hn9) ((hK2.want.below bq).lb (Nat.le_refl _) hn9) (fun x hx9 z hz => (hx x hx9).1 z hz)).mono ?_⟩
  rintro e W5 ⟨rfl, q5, rfl⟩
  exact ⟨rfl, below_drewN (below_drewN (below_drewN hK2.bel q3) q4) q5⟩
end Go.Proofs.YthofhphlfgmklaaGreat
