import Derived.Test.YthofhphlfgmklaaGreatMzbm
import Derived.Test.YthofhphlfgmklaaGreatMzbn
import Derived.Test.YthofhphlfgmklaaGreatMzam
import Derived.Test.YthofhphlfgmklaaGreatMzay
namespace Go.Proofs.YthofhphlfgmklaaGreat
open Go.RowKit Gf2
set_option linter.unusedVariables false

-- layer 19: turnsOf and Shards over a list of shards whose empty entries may be any slices
/-- a list of n shards in block sb: those that are not empty lie each in a block of its own. -/
structure Lx19 (W : World) (sb n : Nat) (R ln C : Nat → Nat) (va : Nat → Option Addr) (vc : Nat → Nat) (G : Nat → Nat → Nat) : Prop where
  row : W.rowIs sb 31 n (fun x => .slice (va x) (ln x) (vc x))
  sl : ∀ x, x < n → ln x ≠ 0 → va x = some ⟨R x, 0, none⟩ ∧ vc x = C x
  rows : ∀ x, x < n → ln x ≠ 0 → Rw W (R x) (C x) (G x)
  le : ∀ x, x < n → ln x ≠ 0 → ln x ≤ C x
  inj : ∀ x y, x < n → y < n → ln x ≠ 0 → ln y ≠ 0 → x ≠ y → R x ≠ R y
  ne : ∀ x, x < n → ln x ≠ 0 → R x ≠ sb
theorem Lx19.below {W W' : World} {sb n : Nat} {R ln C : Nat → Nat} {va : Nat → Option Addr} {vc : Nat → Nat} {G : Nat → Nat → Nat} (h : Lx19 W sb n R ln C va vc G) (hb : Below W.heap.size W W') : Lx19 W' sb n R ln C va vc G :=
  ⟨h.row.of_block (hb.block _ h.row.lt), h.sl, fun x hx h0 => rw_below (h.rows x hx h0) hb, h.le, h.inj, h.ne⟩
theorem Lw19.lx {W : World} {sb n : Nat} {R ln C : Nat → Nat} {G : Nat → Nat → Nat} (h : Lw19 W sb n R ln C G) : Lx19 W sb n R ln C (fun x => some ⟨R x, 0, none⟩) C G :=
  ⟨h.row, fun x _ _ => ⟨rfl, rfl⟩, fun x hx _ => h.rows x hx, fun x hx _ => h.le x hx, fun x y hx hy _ _ e => h.inj x y hx hy e, fun x hx _ => h.ne x hx⟩
theorem Lx19.lnb {W : World} {sb n : Nat} {R ln C : Nat → Nat} {va : Nat → Option Addr} {vc : Nat → Nat} {G : Nat → Nat → Nat} (h : Lx19 W sb n R ln C va vc G) {x : Nat} (hx : x < n) : ln x ≤ big := by
  by_cases h0 : ln x = 0
  · rw [h0]; exact Nat.zero_le _
  · exact Nat.le_trans (h.le x hx h0) (h.rows x hx h0).1
theorem Lx19.ln {W : World} {sb n : Nat} {R ln C : Nat → Nat} {va : Nat → Option Addr} {vc : Nat → Nat} {G : Nat → Nat → Nat} (h : Lx19 W sb n R ln C va vc G) {cs : Nat} (hn : n ≤ cs) (hn2 : n ≤ 281474976710656) (hc : cs ≤ big) : Ln W (.slice (some ⟨sb, 0, none⟩) n cs) n ln :=
  ⟨hn2, fun x hx => h.lnb hx, _, _, rfl, hn, hc, fun _ => ⟨sb, 0, rfl, h.row.lt, fun i hi => ⟨_, _, by rw [Nat.zero_add]; exact h.row.cell hi⟩⟩⟩
/-- the shards' bytes, noughts where there are none. -/
def shx19 (n : Nat) (ln C : Nat → Nat) (G : Nat → Nat → Nat) (x z : Nat) : Nat := if x < n ∧ ln x ≠ 0 ∧ z < C x then G x z else 0
theorem ci_ofx19 {w w1 : World} {sb n k m f L : Nat} {R ln C : Nat → Nat} {va : Nat → Option Addr} {vc : Nat → Nat} {G : Nat → Nat → Nat} (h : Lx19 w sb n R ln C va vc G) (hb : Below w.heap.size w w1) (hk : 1 ≤ k) (hn : n = k + m) (hn2 : n ≤ 256) (hL : L ≤ 140737488351232) (hl : ∀ x, x < n → ln x = L ∨ ln x = 0) (hm : cnb (emp ln) n ≤ m) :
    Ci19 w1 sb 0 n (cnb (pre19 n ln) n) (cnb (emp ln) n) k f L (pk19 (pre19 n ln) n) (pk19 (emp ln) n) (pre19 n ln) (shx19 n ln C G) := by
  have hs := pre_emp19 n ln
  have pl : ∀ i, i < cnb (pre19 n ln) n → pk19 (pre19 n ln) n i < n ∧ ln (pk19 (pre19 n ln) n i) = L := fun i hi => by
    obtain ⟨a1, a2, -, -⟩ := pk19_get hi
    exact ⟨a1, (hl _ a1).resolve_right (pre19_iff.1 a2).2⟩
  refine ⟨fun i hi => (pl i hi).1, pk19_up _ _, fun j hj => (pk19_get hj).1, pk19_up _ _, fun x => ⟨fun e => pk19_all (pre19_iff.1 e).1 e, fun ⟨i, hi, e⟩ => e ▸ (pk19_get hi).2.1⟩, fun x hx => ?_, fun i j hi hj e => ?_, hn2, hk, by omega, by omega, by omega, hL, fun x hx => sc19_ne (by omega) (by omega), fun i hi z => ?_, fun i hi => ?_⟩
  · by_cases e : ln x = 0
    · refine .inr (pk19_all hx ?_)
      show (ln x == 0) = true
      simp [e]
    · exact .inl (pk19_all hx (pre19_iff.2 ⟨hx, e⟩))
  · have h1 := (pk19_get hi).2.1
    have h2 := (pk19_get hj).2.1
    rw [e] at h1
    have h3 : ln (pk19 (emp ln) n j) = 0 := by
      have h2 : (ln (pk19 (emp ln) n j) == 0) = true := h2
      simpa using h2
    exact (pre19_iff.1 h1).2 h3
  · unfold shx19
    split
    · rename_i h9
      exact (h.rows _ h9.1 h9.2.1).2.1 z h9.2.2
    · decide
  · obtain ⟨a1, a2⟩ := pl i hi
    refine ⟨R (pk19 (pre19 n ln) n i), 0, C (pk19 (pre19 n ln) n i), fun W hW => ?_⟩
    have hx := (h.below hb).below hW
    have a0 : ln (pk19 (pre19 n ln) n i) ≠ 0 := (pre19_iff.1 (pk19_get hi).2.1).2
    refine ⟨by rw [Nat.zero_add, hx.row.cell a1, a2, (hx.sl _ a1 a0).1, (hx.sl _ a1 a0).2], fun z hz => ?_⟩
    have hzc : z < C (pk19 (pre19 n ln) n i) := by have := h.le _ a1 a0; omega
    rw [Nat.zero_add, (hx.rows _ a1 a0).2.2.cell hzc]
    unfold shx19
    rw [if_pos ⟨a1, a0, hzc⟩]
theorem turnsOf_okx19 (f k m n L sb cs : Nat) (R ln C : Nat → Nat) (va : Nat → Option Addr) (vc : Nat → Nat) (G : Nat → Nat → Nat) (w : World) (hf : f ≤ 1) (hLw : Lx19 w sb n R ln C va vc G) (hcs : n ≤ cs) (hcb : cs ≤ big) (hple : ple f k m n ln = 0) (hplv : plv16 f k m n ln = L) (hpll : pll f k m n ln = cnb (emp ln) n) (h1 : 1 ≤ k) (hn : n = k + m) (hn2 : n ≤ 256) (hL : L ≤ 140737488351232) (hl : ∀ x, x < n → ln x = L ∨ ln x = 0) (hm : cnb (emp ln) n ≤ m) :
    Calls Tryz.prog 26 #[.int .i64 (f : Int), .int .i64 (k : Int), .int .i64 (m : Int), .slice (some ⟨sb, 0, none⟩) n cs] w fun e w' => ∃ w1, Below w.heap.size w w1 ∧ To19 w1 w' e f k n (cnb (pre19 n ln) n) L (pk19 (pre19 n ln) n) (pre19 n ln) (shx19 n ln C G) := by
  have hs := pre_emp19 n ln
  have c1 := partial16 f k m (.slice (some ⟨sb, 0, none⟩) n cs) n ln w (by unfold I64; omega) (hLw.ln hcs (by omega) hcb)
  refine turnsOf19 f k m n (cnb (emp ln) n) L sb 0 cs (pk19 (emp ln) n) (pre19 n ln) _ w hf hn (by omega) (fun x hx => ?_) (c1.mono ?_)
  · constructor
    · rintro e ⟨a, ha, rfl⟩
      have h2 := (pk19_get ha).2.1
      have h2 : (ln (pk19 (emp ln) n a) == 0) = true := h2
      exact (pre19_iff.1 e).2 (by simpa using h2)
    · intro e
      refine pre19_iff.2 ⟨hx, fun h0 => e (pk19_all hx ?_)⟩
      show (ln x == 0) = true
      simp [h0]
  · rintro e w1 ⟨u, rfl, hP⟩
    rw [hplv, hple]
    obtain ⟨a, c, rfl, hq⟩ := nat_pk19 hP.gi hpll
    exact ⟨a, c, rfl, hq, ci_ofx19 hLw hP.bel h1 hn hn2 hL hl hm, hP.bel⟩
end Go.Proofs.YthofhphlfgmklaaGreat
namespace Go.Proofs.YthofhphlfgmklaaGreat
open Go.RowKit Gf2
set_option linter.unusedVariables false

-- layer 19: Shards over a list whose empty entries may be any slices
/-- what Shards leaves and answers where all is well. -/
structure Okx19 (w w' : World) (v : Value) (f k m n L sb : Nat) (R ln C : Nat → Nat) (G F : Nat → Nat → Nat) : Prop where
  val : f ≤ 1 ∧ 1 ≤ k ∧ 1 ≤ m ∧ n = k + m ∧ n ≤ 256 ∧ 1 ≤ L
  lens : ∀ x, x < n → ln x = L ∨ ln x = 0
  few : cnb (emp ln) n ≤ m
  pol : ∀ z, z < L → Gf2.El 8 (F z) ∧ Dg (F z) k ∧ 2 * cnb (fun x => pre19 n ln x && decide (cv19 f k (F z) x ≠ G x z)) n ≤ m - cnb (emp ln) n
  told : ∃ P, Gj w.heap.size w' v (cnb P n) (fsel P (fun j => j) n) ∧ ∀ x, x < n → (P x = true ↔ ln x ≠ 0 ∧ ∃ z, z < L ∧ cv19 f k (F z) x ≠ G x z)
  list : ∃ R' C' G', Lw19 w' sb n R' (fun _ => L) C' G' ∧ ∀ x, x < n → (∀ z, z < L → G' x z = cv19 f k (F z) x) ∧ (ln x ≠ 0 → R' x = R x ∧ C' x = C x ∧ ∀ z, L ≤ z → G' x z = G x z) ∧ (ln x = 0 → w.heap.size ≤ R' x ∧ C' x = L)
  ke : Ke (fun x => x = sb ∨ ∃ y, y < n ∧ ln y ≠ 0 ∧ x = R y) w w'
theorem nr_cntx19 {f k n L z : Nat} {ln C : Nat → Nat} {G : Nat → Nat → Nat} {F : Nat → Nat} (hk : k ≤ cnb (pre19 n ln) n) (hn : n ≤ 256) (dF : Dg F k) (hl : ∀ x, x < n → ln x = L ∨ ln x = 0) (hC : ∀ x, x < n → ln x ≠ 0 → ln x ≤ C x) (hz : z < L) (hG : ∀ x, x < n → ln x ≠ 0 → ∀ y, y < C x → G x y < 256) :
    cnb (fun i => decide (pe 285 (pk19 (pre19 n ln) n i) (cnb (pre19 n ln) n) F ≠ yv19 f k z (pk19 (pre19 n ln) n) (shx19 n ln C G) i)) (cnb (pre19 n ln) n) = cnb (fun x => pre19 n ln x && decide (cv19 f k F x ≠ G x z)) n := by
  rw [← cnb_pk19 (pre19 n ln) (fun x => decide (cv19 f k F x ≠ G x z)) n]
  have hs := cnb_le19 (pre19 n ln) n
  refine cnb_congr (fun i hi => ?_)
  obtain ⟨a1, a2, -, -⟩ := pk19_get hi
  have hx := (pre19_iff.1 a2).2
  have hzc : z < C (pk19 (pre19 n ln) n i) := by have := hl _ a1; have := hC _ a1 hx; omega
  unfold yv19
  unfold shx19
  rw [if_pos ⟨a1, hx, hzc⟩]
  have h9 := cv_iff19 (f := f) (k := k) (x := pk19 (pre19 n ln) n i) (g := G (pk19 (pre19 n ln) n i) z) (by omega) (by omega) hk dF (hG _ a1 hx z hzc)
  exact decide_eq_decide.2 (not_congr h9)
/-- the near polynomials, and those that are not. -/
theorem shards_okx19 (f k m n L sb cs : Nat) (R ln C : Nat → Nat) (va : Nat → Option Addr) (vc : Nat → Nat) (G : Nat → Nat → Nat) (w : World) (hf : f ≤ 1) (hLw : Lx19 w sb n R ln C va vc G) (hcs : n ≤ cs) (hcb : cs ≤ big) (hple : ple f k m n ln = 0) (hplv : plv16 f k m n ln = L) (hpll : pll f k m n ln = cnb (emp ln) n) (h1 : 1 ≤ k) (h1m : 1 ≤ m) (hn : n = k + m) (hn2 : n ≤ 256) (hL1 : 1 ≤ L) (hL : L ≤ 140737488351232) (hl : ∀ x, x < n → ln x = L ∨ ln x = 0) (hm : cnb (emp ln) n ≤ m) :
    Calls Tryz.prog 12 #[.int .i64 (f : Int), .int .i64 (k : Int), .int .i64 (m : Int), .slice (some ⟨sb, 0, none⟩) n cs] w fun e w' => (∃ v F, e = .returned (.tuple #[v, .int .i64 0]) ∧ Okx19 w w' v f k m n L sb R ln C G F) ∨ (e = .returned (.tuple #[.slice none 0 0, .int .i64 190]) ∧ Below w.heap.size w w' ∧ ∃ z, z < L ∧ ∀ F, Gf2.El 8 F → Dg F k → m - cnb (emp ln) n < 2 * cnb (fun x => pre19 n ln x && decide (cv19 f k F x ≠ G x z)) n) := by
  have hs := pre_emp19 n ln
  have hkp : k ≤ cnb (pre19 n ln) n := by omega
  have hGb : ∀ x, x < n → ln x ≠ 0 → ∀ y, y < C x → G x y < 256 := fun x hx h0 y hy => (hLw.rows x hx h0).2.1 y hy
  obtain ⟨Sh, hSh⟩ : ∃ Sh : Nat → Nat → Nat, Sh = shx19 n ln C G := ⟨_, rfl⟩
  have hnr : ∀ z, z < L → ∀ F, Dg F k → cnb (fun i => decide (pe 285 (pk19 (pre19 n ln) n i) (cnb (pre19 n ln) n) F ≠ yv19 f k z (pk19 (pre19 n ln) n) Sh i)) (cnb (pre19 n ln) n) = cnb (fun x => pre19 n ln x && decide (cv19 f k F x ≠ G x z)) n := fun z hz F dF => by rw [hSh]; exact nr_cntx19 hkp hn2 dF hl hLw.le hz hGb
  have hc := turnsOf_okx19 f k m n L sb cs R ln C va vc G w hf hLw hcs hcb hple hplv hpll h1 hn hn2 hL hl hm
  rw [← hSh] at hc
  refine (shardsx19 f k m n L sb cs R ln C va vc G w (fun w3 v gt tb B T => ∃ F lo, Below w.heap.size w w3 ∧ Gj w.heap.size w3 v (cnb (tp19 tb ln) n) (fsel (tp19 tb ln) (fun j => j) n) ∧ Tq19 f k n (cnb (pre19 n ln) n) L (pk19 (pre19 n ln) n) (pre19 n ln) Sh F tb ∧ (∀ x, x < n → tb x = true → w.heap.size ≤ B x ∧ B x ≠ gt ∧ ∀ z, z < L → T x z = dw19 f k (cnb (pre19 n ln) n) z (pre19 n ln) Sh (F z) x) ∧ (∀ x y, x < n → y < n → tb x = true → tb y = true → x ≠ y → B x ≠ B y) ∧ gt < lo) (fun w3 z => z = 190 ∧ Below w.heap.size w w3 ∧ ∃ y, y < L ∧ ∀ F, Gf2.El 8 F → Dg F k → ¬ Nr19 (pk19 (pre19 n ln) n) (yv19 f k y (pk19 (pre19 n ln) n) Sh) (cnb (pre19 n ln) n) ((cnb (pre19 n ln) n - k) / 2) F) (by omega) (hc.mono ?_)).mono ?_
  · rintro e w2 ⟨w1, hb1, ⟨gt, lo, rfl, F, hF, hgt, hb2, hY⟩ | ⟨rfl, hno, hb2⟩⟩
    · obtain ⟨tb, B, T, hT, -, hX⟩ := hY.ex
      have b02 : Below w.heap.size w w2 := hb1.trans (hb2.mono hb1.size)
      have l2 := hLw.below b02
      refine ⟨_, _, _, rfl, (turned19 gt n L sb 0 cs tb B ln vc va w2 hT.row l2.row.lt (fun x hx => by rw [Nat.zero_add]; exact l2.row.cell hx) hn2).mono ?_⟩
      rintro e w3 ⟨v, rfl, hG, hb3⟩
      have l3 := l2.below hb3
      have t3 := hT.below hb3
      have hgw : w.heap.size ≤ gt := Nat.le_trans hb1.size hgt
      have hBw : ∀ x, x < n → tb x = true → w.heap.size ≤ B x := fun x hx e => by have := (hT.rows x hx e).1; have := hT.lt; omega
      have hRw : ∀ x, x < n → ln x ≠ 0 → R x < w.heap.size := fun x hx h0 => (hLw.rows x hx h0).lt
      refine ⟨v, rfl, .inl ⟨gt, tb, B, T, rfl, rfl, rfl, ⟨t3.row, fun j hj e => (t3.rows j hj e).2, l3.row.congr (fun x hx => by rw [if_neg (fun h9 => absurd h9.1 (Nat.not_lt_zero _))]), hLw.sl, fun x hx h0 => (l3.rows x hx h0).congr (fun z hz => by rw [if_neg (fun h9 => absurd h9.1.1 (Nat.not_lt_zero _))]), fun x hx => ⟨hLw.le x hx, hl x hx⟩, hLw.inj, fun x hx h0 => ⟨hLw.ne x hx h0, by have := hRw x hx h0; omega, fun j hj e => by have := hRw x hx h0; have := hBw j hj e; omega⟩, fun j hj e => by have := hLw.row.lt; have := hBw j hj e; omega, by have := hLw.row.lt; omega⟩, F, lo, b02.trans (hb3.mono b02.size), ?_, ⟨hF, fun x hx => ?_⟩, fun x hx e => ⟨hBw x hx e, by have := (hT.rows x hx e).1; have := hT.lt; omega, fun z hz => ?_⟩, fun x y hx hy ex ey hne => hT.inj x y hx hy ex ey hne, hT.lt⟩⟩
      · rcases hG with h | ⟨g, c, H, a1, a2, a3, a4, a5⟩
        · exact .inl h
        · exact .inr ⟨g, c, H, a1, a2, Nat.le_trans b02.size a3, a4, a5⟩
      · have h9 := hX x hx
        simp only [Bool.false_eq_true, if_false] at h9
        exact h9.iff_
      · have h9 := hX x hx
        simp only [Bool.false_eq_true, if_false] at h9
        rw [h9.val e z hz, if_pos hz]
    · have b02 : Below w.heap.size w w2 := hb1.trans (hb2.mono hb1.size)
      refine ⟨none, 0, 190, rfl, (turned_nil19 _ w2).mono ?_⟩
      rintro e w3 ⟨rfl, rfl⟩
      exact ⟨_, rfl, .inr ⟨rfl, rfl, rfl, b02, hno⟩⟩
  · rintro e w' (⟨gt, tb, B, T, w3, v, rfl, ⟨F, lo, hb3, hG, ⟨hF, htb⟩, hT, hinj, hlo⟩, hS, hk⟩ | ⟨z, rfl, rfl, hb, y, hy, hno⟩)
    · have hRw : ∀ x, x < n → ln x ≠ 0 → R x < w.heap.size := fun x hx h0 => (hLw.rows x hx h0).lt
      have hsw : sb < w.heap.size := hLw.row.lt
      have hdm : ∀ x, x < n → ln x = 0 → ∀ z, z < L → dw19 f k (cnb (pre19 n ln) n) z (pre19 n ln) Sh (F z) x = cv19 f k (F z) x := fun x hx h0 z hz => by
        have hp : ¬ pre19 n ln x = true := fun h9 => (pre19_iff.1 h9).2 h0
        rw [dw_cv19 hkp (hF z hz).2.1, if_neg hp, Nat.xor_zero]
      have hdp : ∀ x, x < n → ln x ≠ 0 → ∀ z, z < L → dw19 f k (cnb (pre19 n ln) n) z (pre19 n ln) Sh (F z) x = cv19 f k (F z) x ^^^ G x z := fun x hx h0 z hz => by
        have hzc : z < C x := by have := hl x hx; have := hLw.le x hx h0; omega
        rw [dw_cv19 hkp (hF z hz).2.1, if_pos (pre19_iff.2 ⟨hx, h0⟩), hSh]
        unfold shx19
        rw [if_pos ⟨hx, h0, hzc⟩]
      have hne0 : ∀ x, x < n → ln x ≠ 0 → (tb x = true ↔ ∃ z, z < L ∧ cv19 f k (F z) x ≠ G x z) := fun x hx h0 => by
        rw [htb x hx]
        constructor
        · rintro (⟨h9, -⟩ | ⟨z, hz, h9⟩)
          · exact absurd (pre19_iff.2 ⟨hx, h0⟩) h9
          · exact ⟨z, hz, fun e => h9 (by rw [hdp x hx h0 z hz, e, Nat.xor_self])⟩
        · rintro ⟨z, hz, h9⟩
          exact .inr ⟨z, hz, fun e => h9 (by rw [hdp x hx h0 z hz] at e; exact xor_zero19 e)⟩
      have htm : ∀ x, x < n → ln x = 0 → tb x = true := fun x hx h0 => (htb x hx).2 (.inl ⟨fun h9 => (pre19_iff.1 h9).2 h0, by omega⟩)
      have hGe : ∀ x, x < n → ln x ≠ 0 → ∀ z, z < L → (if tb x = true ∧ z < L then G x z ^^^ T x z else G x z) = cv19 f k (F z) x := fun x hx h0 z hz => by
        by_cases e : tb x = true
        · rw [if_pos ⟨e, hz⟩, (hT x hx e).2.2 z hz, hdp x hx h0 z hz, Nat.xor_comm (cv19 f k (F z) x), ← Nat.xor_assoc, Nat.xor_self, Nat.zero_xor]
        · rw [if_neg (fun h9 => e h9.1)]
          exact (Classical.byContradiction fun h9 => e ((hne0 x hx h0).2 ⟨z, hz, fun e9 => h9 e9.symm⟩))
      refine .inl ⟨v, F, rfl, ⟨hf, h1, h1m, hn, hn2, hL1⟩, hl, hm, fun z hz => ⟨(hF z hz).1, (hF z hz).2.1, ?_⟩, ⟨tp19 tb ln, hG.keep hk (fun x hx e => ?_), fun x hx => ?_⟩, ⟨fun x => if ln x = 0 then B x else R x, fun x => if ln x = 0 then L else C x, fun x z => if ln x = 0 then T x z else if tb x = true ∧ z < L then G x z ^^^ T x z else G x z, ⟨hS.row.congr (fun x hx => ?_), fun x hx => ?_, fun x hx => ?_, fun x y hx hy hxy => ?_, fun x hx => ?_⟩, fun x hx => ⟨fun z hz => ?_, fun h0 => ⟨if_neg h0, if_neg h0, fun z hz => ?_⟩, fun h0 => ⟨?_, if_pos h0⟩⟩⟩, (ke_below hb3 _).trans hk⟩
      · have h9 := (hF z hz).2.2
        unfold Nr19 at h9
        rw [hnr z hz (F z) (hF z hz).2.1] at h9
        omega
      · rcases e with e | ⟨y, hy, hy0, e⟩
        · omega
        · have := hRw y hy (by assumption); omega
      · unfold tp19
        rw [Bool.and_eq_true, decide_eq_true_iff]
        by_cases h0 : ln x = 0
        · exact ⟨fun h9 => absurd h9.2 (by omega), fun h9 => absurd h0 h9.1⟩
        · rw [hne0 x hx h0]
          exact ⟨fun h9 => ⟨h0, h9.1⟩, fun h9 => ⟨h9.2, by omega⟩⟩
      · by_cases h0 : ln x = 0
        · rw [if_pos ⟨hx, h0⟩, if_pos (htm x hx h0), if_pos h0, if_pos h0]
        · rw [if_neg (fun h9 => h0 h9.2), if_neg h0, if_neg h0, (hLw.sl x hx h0).1, (hLw.sl x hx h0).2, (hl x hx).resolve_right h0]
      · (try dsimp only)
        by_cases h0 : ln x = 0
        · simp only [if_pos h0]
          exact hS.trows x hx (htm x hx h0)
        · simp only [if_neg h0]
          refine (hS.rows x hx h0).congr (fun z hz => ?_)
          by_cases e : tb x = true ∧ z < L
          · rw [if_pos ⟨⟨hx, e.1, h0⟩, e.2⟩, if_pos e]
          · rw [if_neg (fun h9 => e ⟨h9.1.2.1, h9.2⟩), if_neg e]
      · (try dsimp only)
        by_cases h0 : ln x = 0
        · rw [if_pos h0]; exact Nat.le_refl _
        · rw [if_neg h0]; have := hl x hx; have := hLw.le x hx h0; omega
      · (try dsimp only)
        by_cases hx0 : ln x = 0
        · by_cases hy0 : ln y = 0
          · rw [if_pos hx0, if_pos hy0]; exact hinj x y hx hy (htm x hx hx0) (htm y hy hy0) hxy
          · rw [if_pos hx0, if_neg hy0]; have := (hT x hx (htm x hx hx0)).1; have := hRw y hy (by assumption); omega
        · by_cases hy0 : ln y = 0
          · rw [if_neg hx0, if_pos hy0]; have := (hT y hy (htm y hy hy0)).1; have := hRw x hx (by assumption); omega
          · rw [if_neg hx0, if_neg hy0]; exact hLw.inj x y hx hy hx0 hy0 hxy
      · (try dsimp only)
        by_cases h0 : ln x = 0
        · rw [if_pos h0]; exact hS.nb x hx (htm x hx h0)
        · rw [if_neg h0]; exact hLw.ne x hx h0
      · (try dsimp only)
        by_cases h0 : ln x = 0
        · rw [if_pos h0, (hT x hx (htm x hx h0)).2.2 z hz, hdm x hx h0 z hz]
        · rw [if_neg h0, hGe x hx h0 z hz]
      · (try dsimp only)
        rw [if_neg h0, if_neg (fun h9 => by omega)]
      · (try dsimp only)
        rw [if_pos h0]; exact (hT x hx (htm x hx h0)).1
    · refine .inr ⟨rfl, hb, y, hy, fun F eF dF => ?_⟩
      have h9 := hno F eF dF
      unfold Nr19 at h9
      rw [hnr y hy F dF] at h9
      omega
end Go.Proofs.YthofhphlfgmklaaGreat
namespace Go.Proofs.YthofhphlfgmklaaGreat
open Go.RowKit Gf2
set_option linter.unusedVariables false

-- layer 19: valid refused; a codeword's list on its way to be spoilt
set_option maxHeartbeats 4000000 in
set_option maxRecDepth 100000 in
theorem valid_no19 (f k m : Int) (w : World) (h : ¬ ((f = 0 ∨ f = 1) ∧ 1 ≤ k ∧ 1 ≤ m ∧ k ≤ 256 ∧ m ≤ 256 ∧ k + m ≤ 256)) :
    Calls Tryz.prog 7 #[.int .i64 f, .int .i64 k, .int .i64 m] w fun e w' => e = .returned (.bool false) ∧ w' = w := by
  by_cases h0 : f = 0 ∨ f = 1
  case neg =>
    have e0 : (f == 0) = false := by simpa using fun e => h0 (.inl e)
    have e1 : (f == 1) = false := by simpa using fun e => h0 (.inr e)
    clear h h0
    go_enter Tryz.func7, Tryz.ntmps7
    go_wp2
    go_ret
    exact ⟨rfl, rfl⟩
  by_cases i1 : 1 ≤ k
  case neg =>
    have d1 : decide (1 ≤ k) = false := decide_eq_false i1
    clear h
    rcases h0 with rfl | rfl
    · go_enter Tryz.func7, Tryz.ntmps7
      go_wp2
      go_ret
      exact ⟨rfl, rfl⟩
    · go_enter Tryz.func7, Tryz.ntmps7
      go_wp2
      go_ret
      exact ⟨rfl, rfl⟩
  by_cases i2 : 1 ≤ m
  case neg =>
    have d2 : decide (1 ≤ m) = false := decide_eq_false i2
    clear h
    rcases h0 with rfl | rfl
    · go_enter Tryz.func7, Tryz.ntmps7
      go_wp2
      go_ret
      exact ⟨rfl, rfl⟩
    · go_enter Tryz.func7, Tryz.ntmps7
      go_wp2
      go_ret
      exact ⟨rfl, rfl⟩
  by_cases i3 : k ≤ 256
  case neg =>
    have d3 : decide (k ≤ 256) = false := decide_eq_false i3
    clear h
    rcases h0 with rfl | rfl
    · go_enter Tryz.func7, Tryz.ntmps7
      go_wp2
      go_ret
      exact ⟨rfl, rfl⟩
    · go_enter Tryz.func7, Tryz.ntmps7
      go_wp2
      go_ret
      exact ⟨rfl, rfl⟩
  by_cases i4 : m ≤ 256
  case neg =>
    have d4 : decide (m ≤ 256) = false := decide_eq_false i4
    clear h
    rcases h0 with rfl | rfl
    · go_enter Tryz.func7, Tryz.ntmps7
      go_wp2
      go_ret
      exact ⟨rfl, rfl⟩
    · go_enter Tryz.func7, Tryz.ntmps7
      go_wp2
      go_ret
      exact ⟨rfl, rfl⟩
  have i5 : ¬ k + m ≤ 256 := fun e => h ⟨h0, i1, i2, i3, i4, e⟩
  have W0 : wrap64 (k + m) = k + m := by unfold wrap64; omega
  have d5 : decide (k + m ≤ 256) = false := decide_eq_false i5
  clear h
  rcases h0 with rfl | rfl
  · go_enter Tryz.func7, Tryz.ntmps7
    go_wp2
    go_ret
    exact ⟨rfl, rfl⟩
  · go_enter Tryz.func7, Tryz.ntmps7
    go_wp2
    go_ret
    exact ⟨rfl, rfl⟩
/-- a list of shards of T bytes or none, at or above w2's memory, which is as it was. -/
structure Rp19 (w2 W : World) (n T : Nat) (B ln C : Nat → Nat) (va : Nat → Option Addr) (vc : Nat → Nat) (G : Nat → Nat → Nat) : Prop where
  list : Lx19 W w2.heap.size n B ln C va vc G
  lo : ∀ x, x < n → ln x ≠ 0 → w2.heap.size ≤ B x
  lens : ∀ x, x < n → ln x = T ∨ ln x = 0
  bel : Below w2.heap.size w2 W
section
variable {w2 W W' : World} {n T : Nat} {B ln C : Nat → Nat} {va : Nat → Option Addr} {vc : Nat → Nat} {G : Nat → Nat → Nat}
theorem Rp19.below (h : Rp19 w2 W n T B ln C va vc G) (hb : Below W.heap.size W W') : Rp19 w2 W' n T B ln C va vc G :=
  ⟨h.list.below hb, h.lo, h.lens, h.bel.trans (hb.mono h.bel.size)⟩
theorem Rp19.drewN (h : Rp19 w2 W n T B ln C va vc G) (q : Nat) : Rp19 w2 (W.drewN q) n T B ln C va vc G := h.below (below_drewN (Below.refl _ _) q)
/-- a byte is turned. -/
theorem Rp19.turn (h : Rp19 w2 W n T B ln C va vc G) {a t y : Nat} (ha : a < n) (h0 : ln a ≠ 0) (hy : y < 256) : Rp19 w2 (W.setCell ⟨B a, t, none⟩ (.int .u8 (y : Nat))) n T B ln C va vc (fun x z => if x = a ∧ z = t then y else G x z) := by
  have kp : Kp (B a) W (W.setCell ⟨B a, t, none⟩ (.int .u8 (y : Nat))) := (Kp.refl _ _).setCell _ _
  refine ⟨⟨h.list.row.of_block (kp.2 _ h.list.row.lt (fun e => h.list.ne a ha h0 e.symm)), h.list.sl, fun x hx e => ?_, h.list.le, h.list.inj, h.list.ne⟩, h.lo, h.lens, h.bel.setCell (h.lo a ha h0) _⟩
  by_cases e2 : x = a
  · subst e2
    refine ((h.list.rows x hx e).set t y hy).congr (fun z hz => ?_)
    by_cases e3 : z = t
    · rw [if_pos e3, if_pos ⟨rfl, e3⟩]
    · rw [if_neg e3, if_neg (fun h9 => e3 h9.2)]
  · refine (kp.rw_ (h.list.rows x hx e) (h.list.inj x a hx ha e h0 e2)).congr (fun z hz => ?_)
    rw [if_neg (fun h9 => e2 h9.1)]
theorem Rp19.cell (h : Rp19 w2 W n T B ln C va vc G) {a : Nat} (ha : a < n) : W.cell? ⟨w2.heap.size, a, none⟩ = some (.slice (va a) (ln a) (vc a)) := h.list.row.cell ha
theorem Rp19.le (h : Rp19 w2 W n T B ln C va vc G) {a : Nat} (ha : a < n) (h0 : ln a ≠ 0) : T ≤ C a := by
  have := h.list.le a ha h0
  rwa [(h.lens a ha).resolve_right h0] at this
theorem Rp19.rb (h : Rp19 w2 W n T B ln C va vc G) {a : Nat} (ha : a < n) (h0 : ln a ≠ 0) : Rb W (.slice (some ⟨B a, 0, none⟩) T (C a)) T (G a) := (h.list.rows a ha h0).rb0.cut8 (h.le ha h0)
theorem Rp19.at_ (h : Rp19 w2 W n T B ln C va vc G) {a t : Nat} (ha : a < n) (h0 : ln a ≠ 0) (ht : t < T) : W.cell? ⟨B a, t, none⟩ = some (.int .u8 (G a t : Nat)) := (h.list.rows a ha h0).2.2.cell (Nat.lt_of_lt_of_le ht (h.le ha h0))
theorem Rp19.byte (h : Rp19 w2 W n T B ln C va vc G) {a t : Nat} (ha : a < n) (h0 : ln a ≠ 0) (ht : t < T) : G a t < 256 := (h.list.rows a ha h0).2.1 t (Nat.lt_of_lt_of_le ht (h.le ha h0))
end
end Go.Proofs.YthofhphlfgmklaaGreat
namespace Go.Proofs.YthofhphlfgmklaaGreat
open Go.RowKit Gf2
set_option linter.unusedVariables false

-- layer 19: what Partial tells of a codeword that lost few shards; Find and Shards over it
theorem scf_two19 {n : Nat → Nat} {k l : Nat} (h : ∀ i, i < k → n i = l ∨ n i = 0) : scf (some 0) n k = some 0 ∧ (∀ i, i < k → n i = 0) ∨ scf (some 0) n k = some l := by
  induction k with
  | zero => exact .inl ⟨rfl, fun i hi => absurd hi (Nat.not_lt_zero _)⟩
  | succ k ih =>
    by_cases h0 : n k = 0
    · rcases ih (fun i hi => h i (by omega)) with ⟨e, ha⟩ | e
      · refine .inl ⟨scf_zero e h0, fun i hi => ?_⟩
        by_cases e2 : i = k
        · rw [e2]; exact h0
        · exact ha i (by omega)
      · exact .inr (scf_zero e h0)
    · have hl : n k = l := (h k (Nat.lt_succ_self _)).resolve_right h0
      right
      rcases ih (fun i hi => h i (by omega)) with ⟨e, ha⟩ | e
      · rw [scf_good e h0 (.inl rfl), hl]
      · rw [scf_good e h0 (.inr hl), hl]
theorem part_yes19 {f k m n L : Nat} {ln : Nat → Nat} (hf : f ≤ 1) (h1 : 1 ≤ k) (h2 : 1 ≤ m) (hn : n = k + m) (hn2 : n ≤ 256) (hL : 1 ≤ L) (hl : ∀ x, x < n → ln x = L ∨ ln x = 0) (hm : cnb (emp ln) n ≤ m) : ple f k m n ln = 0 ∧ plv16 f k m n ln = L ∧ pll f k m n ln = cnb (emp ln) n := by
  have hp : prm (f : Int) (k : Int) (m : Int) = 0 := prm_ok.2 ⟨by omega, by omega, by omega, by omega, fun _ => by omega, fun e => by omega⟩
  have hnn : (n : Int) = (k : Int) + (m : Int) := by omega
  have hs := pre_emp19 n ln
  have hfull : ¬ (ems (emp ln) n).length = n := by rw [ems_cnb19]; omega
  have hodd : ¬ ((f : Int) = 2 ∧ L % 2 = 1) := fun e => by omega
  have hsc : scf (some 0) ln n = some L := by
    rcases scf_two19 hl with ⟨-, h9⟩ | h9
    · exact absurd (ems_full.2 (fun i hi => by
        have := h9 i hi
        show (ln i == 0) = true
        simp [this])) hfull
    · exact h9
  have h0 : ple f k m n ln = 0 := by
    unfold ple
    rw [if_pos hp, if_pos hnn, if_neg hfull, hsc, ole_even hodd, if_pos rfl, if_neg (by rw [ems_cnb19]; omega)]
  refine ⟨h0, ?_, ?_⟩
  · unfold plv16
    rw [h0, if_pos rfl, hsc, olv_even hodd]
  · unfold pll
    rw [h0, if_pos rfl, ems_cnb19]
/-- a codeword V that lost few shards, wrong in no column at more than half of what is spare; P: where. -/
structure Nh19 (w2 W : World) (f k m n T : Nat) (B ln C : Nat → Nat) (va : Nat → Option Addr) (vc : Nat → Nat) (G V : Nat → Nat → Nat) (P : Nat → Bool) : Prop where
  rp : Rp19 w2 W n T B ln C va vc G
  val : f ≤ 1 ∧ 1 ≤ k ∧ 1 ≤ m ∧ n = k + m ∧ n ≤ 256 ∧ 1 ≤ T ∧ T ≤ 140737488351232
  few : cnb (emp ln) n ≤ m
  byt : ∀ z, z < T → ∀ x, x < n → V x z < 256
  cw : ∀ z, z < T → Cw19 f k n (fun x => V x z)
  cnt : ∀ z, z < T → 2 * cnb (fun x => pre19 n ln x && decide (V x z ≠ G x z)) n ≤ m - cnb (emp ln) n
  told : ∀ x, x < n → (P x = true ↔ ln x ≠ 0 ∧ ∃ z, z < T ∧ V x z ≠ G x z)
section
variable {w2 W : World} {f k m n T : Nat} {B ln C : Nat → Nat} {va : Nat → Option Addr} {vc : Nat → Nat} {G V : Nat → Nat → Nat} {P : Nat → Bool}
theorem Nh19.below {W' : World} (h : Nh19 w2 W f k m n T B ln C va vc G V P) (hb : Below W.heap.size W W') : Nh19 w2 W' f k m n T B ln C va vc G V P :=
  ⟨h.rp.below hb, h.val, h.few, h.byt, h.cw, h.cnt, h.told⟩
theorem Nh19.big_ (h : Nh19 w2 W f k m n T B ln C va vc G V P) : n ≤ big := by have := h.val; unfold big; omega
theorem Nh19.found {F : Nat → Nat} {z : Nat} (h : Nh19 w2 W f k m n T B ln C va vc G V P) (hz : z < T) (eF : Gf2.El 8 F) (dF : Dg F k) (h2 : 2 * cnb (fun x => pre19 n ln x && decide (cv19 f k F x ≠ G x z)) n ≤ m - cnb (emp ln) n) : ∀ x, x < n → cv19 f k F x = V x z := by
  obtain ⟨v1, v2, v3, v4, v5, v6, v7⟩ := h.val
  refine found19 (C := fun x => if ln x = 0 then 0 else C x) (G := G) v1 v2 v4 v5 h.few h.rp.lens (fun x hx => ?_) hz (fun x hx y hy => ?_) eF dF h2 (h.cw z hz) (h.byt z hz) (h.cnt z hz)
  · (try dsimp only)
    by_cases e : ln x = 0
    · rw [if_pos e]; omega
    · rw [if_neg e]; exact h.rp.list.le x hx e
  · (try dsimp only at hy)
    by_cases e : ln x = 0
    · rw [if_pos e] at hy; omega
    · rw [if_neg e] at hy; exact (h.rp.list.rows x hx e).2.1 y hy
theorem Nh19.same {Q : Nat → Bool} (h : Nh19 w2 W f k m n T B ln C va vc G V P) (hQ : ∀ x, x < n → (Q x = true ↔ ln x ≠ 0 ∧ ∃ z, z < T ∧ V x z ≠ G x z)) : cnb Q n = cnb P n ∧ fsel Q (fun j => j) n = fsel P (fun j => j) n := by
  have e : ∀ x, x < n → Q x = P x := fun x hx => by
    have h1 := hQ x hx
    have h2 := h.told x hx
    cases hq : Q x with
    | true => exact (h2.2 (h1.1 hq)).symm
    | false =>
      cases hp : P x with
      | false => rfl
      | true => rw [h1.2 (h2.1 hp)] at hq; cases hq
  exact ⟨cnb_congr e, fsel_congr e⟩
/-- Shards gives the codeword back. -/
theorem shards_nh19 (h : Nh19 w2 W f k m n T B ln C va vc G V P) :
    Calls Tryz.prog 12 #[.int .i64 (f : Int), .int .i64 (k : Int), .int .i64 (m : Int), .slice (some ⟨w2.heap.size, 0, none⟩) n n] W fun e W' => ∃ v, e = .returned (.tuple #[v, .int .i64 0]) ∧ Gj W.heap.size W' v (cnb P n) (fsel P (fun j => j) n) ∧ Below w2.heap.size w2 W' ∧ Ke (fun x => x = w2.heap.size ∨ ∃ y, y < n ∧ ln y ≠ 0 ∧ x = B y) W W' ∧ ∃ R' C' G', Lw19 W' w2.heap.size n R' (fun _ => T) C' G' ∧ ∀ x, x < n → (∀ z, z < T → G' x z = V x z) ∧ (ln x ≠ 0 → R' x = B x ∧ C' x = C x) ∧ (ln x = 0 → W.heap.size ≤ R' x ∧ C' x = T) := by
  obtain ⟨v1, v2, v3, v4, v5, v6, v7⟩ := h.val
  obtain ⟨p1, p2, p3⟩ := part_yes19 v1 v2 v3 v4 v5 v6 h.rp.lens h.few
  refine (shards_okx19 f k m n T w2.heap.size n B ln C va vc G W v1 h.rp.list (Nat.le_refl _) h.big_ p1 p2 p3 v2 v3 v4 v5 v6 v7 h.rp.lens h.few).mono ?_
  rintro e W' (⟨v, F, rfl, hO⟩ | ⟨rfl, hb, y, hy, hno⟩)
  · have hcv : ∀ z, z < T → ∀ x, x < n → cv19 f k (F z) x = V x z := fun z hz => h.found hz (hO.pol z hz).1 (hO.pol z hz).2.1 (hO.pol z hz).2.2
    obtain ⟨Q, hG, hQ⟩ := hO.told
    obtain ⟨e1, e2⟩ := h.same (Q := Q) (fun x hx => by
      rw [hQ x hx]
      constructor
      · rintro ⟨h0, z, hz, h9⟩; exact ⟨h0, z, hz, by rw [← hcv z hz x hx]; exact h9⟩
      · rintro ⟨h0, z, hz, h9⟩; exact ⟨h0, z, hz, by rw [hcv z hz x hx]; exact h9⟩)
    rw [e1, e2] at hG
    obtain ⟨R', C', G', hL, hR⟩ := hO.list
    refine ⟨v, rfl, hG, h.rp.bel.trans (Ke.below hO.ke (fun x e => ?_) h.rp.bel.size), hO.ke, R', C', G', hL, fun x hx => ⟨fun z hz => by rw [(hR x hx).1 z hz, hcv z hz x hx], fun h0 => ⟨((hR x hx).2.1 h0).1, ((hR x hx).2.1 h0).2.1⟩, (hR x hx).2.2⟩⟩
    rcases e with e | ⟨y, hy, hy0, e⟩
    · omega
    · have := h.rp.lo y hy hy0; omega
  · exact absurd (beyond19 (f := f) (k := k) (m := m) (n := n) (z := y) (ln := ln) (G := G) (c := fun x => V x y) v1 v4 v5 hno (h.cw y hy) (h.byt y hy) (h.cnt y hy)) id
end
end Go.Proofs.YthofhphlfgmklaaGreat
namespace Go.Proofs.YthofhphlfgmklaaGreat
open Go.RowKit Gf2
set_option linter.unusedVariables false

-- layer 19: MendRepairs: the calls ahead of its loops
/-- what stands fast behind made. -/
structure Pk19 (w W : World) (bx gs n T : Nat) (f k m : Int) (aS aL aW : Option Addr) (cS nL cL nW cW : Nat) (Lo Co Sh : Nat → Int) (Mk : Nat → Nat) (Bw : Nat → Nat) (V : Nat → Nat → Nat) : Prop where
  z0 : W.cell? ⟨bx, 0, none⟩ = some (.int .i64 f)
  z1 : W.cell? ⟨bx, 1, none⟩ = some (.int .i64 k)
  z2 : W.cell? ⟨bx, 2, none⟩ = some (.int .i64 m)
  z3 : W.cell? ⟨bx, 3, none⟩ = some (.slice aS T cS)
  z4 : W.cell? ⟨bx, 4, none⟩ = some (.slice aL nL cL)
  z5 : W.cell? ⟨bx, 5, none⟩ = some (.slice aW nW cW)
  want : Lw19 W gs n Bw (fun _ => T) (fun _ => T) V
  lost : Qi W (.slice aL nL cL) nL Lo
  wrongs : Qw19 W (.slice aW nW cW) nW Co Sh Mk
  bel : Below w.heap.size w W
section
variable {w W W' : World} {bx gs n T : Nat} {f k m : Int} {aS aL aW : Option Addr} {cS nL cL nW cW : Nat} {Lo Co Sh : Nat → Int} {Mk : Nat → Nat} {Bw : Nat → Nat} {V : Nat → Nat → Nat}
theorem Pk19.below (h : Pk19 w W bx gs n T f k m aS aL aW cS nL cL nW cW Lo Co Sh Mk Bw V) (hb : Below W.heap.size W W') : Pk19 w W' bx gs n T f k m aS aL aW cS nL cL nW cW Lo Co Sh Mk Bw V :=
  ⟨(hb.cell (cell_lt5 h.z0)).trans h.z0, (hb.cell (cell_lt5 h.z1)).trans h.z1, (hb.cell (cell_lt5 h.z2)).trans h.z2, (hb.cell (cell_lt5 h.z3)).trans h.z3, (hb.cell (cell_lt5 h.z4)).trans h.z4, (hb.cell (cell_lt5 h.z5)).trans h.z5, h.want.below hb, h.lost.below hb, h.wrongs.below hb, h.bel.trans (hb.mono h.bel.size)⟩
end
end Go.Proofs.YthofhphlfgmklaaGreat
namespace Go.Proofs.YthofhphlfgmklaaGreat
open Go.RowKit Gf2
set_option linter.unusedVariables false

-- layer 19: Column and Syndromes of values that are all alike
/-- the polynomial of one number. -/
def con19 (c i : Nat) : Nat := if i = 0 then c else 0
theorem con_el19 {c : Nat} (hc : c < 256) : Gf2.El 8 (con19 c) := fun i => by
  show con19 c i < 2 ^ 8
  unfold con19
  split
  · exact hc
  · decide
theorem con_dg19 (c : Nat) {k : Nat} (hk : 1 ≤ k) : Dg (con19 c) k := fun i hi => by
  unfold con19
  rw [if_neg (by omega)]
theorem pe_con19 {c n : Nat} (x : Nat) (hc : c < 256) (hn : 1 ≤ n) : pe 285 x n (con19 c) = c := by
  rw [fld8.pe_cut x (con_dg19 c (Nat.le_refl 1)) hn]
  show 0 ^^^ fm 285 (con19 c 0) (fp 285 x 0) = c
  have e1 : con19 c 0 = c := rfl
  have e2 : fp 285 x 0 = 1 := rfl
  rw [e1, e2, Nat.zero_xor, fm_comm, fld8.one_fm hc]
theorem con_nr19 {c n e : Nat} {p : Nat → Nat} (hc : c < 256) (hn : 1 ≤ n) : Nr19 p (fun _ => c) n e (con19 c) := by
  unfold Nr19
  rw [cnb_zero (fun i hi => by rw [pe_con19 _ hc hn]; simp)]
  exact Nat.zero_le _
theorem column_con19 (v u : Value) (k n c : Nat) (p : Nat → Nat) (w : World) (h : Qi w v n (fun i => (p i : Int))) (hu : Rb w u n (fun _ => c)) (hc : c < 256) (h1 : 1 ≤ k) (h2 : k ≤ n) (hn : n ≤ 256) (hp : ∀ i, i < n → p i < 256) (up : Up8 n p) :
    Calls Tryz.prog 15 #[.int .i64 (k : Int), v, u] w fun e w' => ∃ gf a cc, e = .returned (.tuple #[.slice (some ⟨gf, 0, none⟩) n n, .slice a 0 cc, .int .i64 0]) ∧ w.heap.size ≤ gf ∧ Rw w' gf n (fun _ => c) ∧ Below w.heap.size w w' := by
  refine (column19 v u k n p (fun _ => c) w h hu h1 h2 hn hp up).mono ?_
  rintro e w' (⟨gf, lo, xw, f, rfl, hC⟩ | ⟨rfl, hno, -⟩)
  · have e : f = con19 c := near_uniq19 hp up h1 h2 hC.el hC.dg (con_el19 hc) (con_dg19 c h1) hC.nr (con_nr19 hc (by omega))
    have h0 : cnb (Df19 p (fun _ => c) n f) n = 0 := cnb_zero (fun i hi => by
      unfold Df19
      rw [e, pe_con19 _ hc (by omega)]
      simp)
    have ht := hC.tell
    rw [h0] at ht
    obtain ⟨a, cc, rfl⟩ := ht.form
    exact ⟨gf, a, cc, rfl, hC.le, hC.fix.congr (fun i hi => by rw [e, pe_con19 _ hc (by omega)]), hC.bel⟩
  · exact absurd (con_nr19 hc (by omega)) (hno (con19 c) (con_el19 hc) (con_dg19 c h1))
theorem syndromes_con19 (v u : Value) (k n c : Nat) (p : Nat → Nat) (w : World) (h : Qi w v n (fun i => (p i : Int))) (hu : Rb w u n (fun _ => c)) (hc : c < 256) (h1 : 1 ≤ k) (h2 : k ≤ n) (hn : n ≤ 256) (hp : ∀ i, i < n → p i < 256) (up : Up8 n p) :
    Calls Tryz.prog 16 #[.int .i64 (k : Int), v, u] w fun e w' => ∃ gs, e = .returned (.tuple #[.slice (some ⟨gs, 0, none⟩) (n - k) (n - k), .int .i64 0]) ∧ w.heap.size ≤ gs ∧ Rw w' gs (n - k) (fun i => con19 c (k + i)) ∧ Below w.heap.size w w' := by
  refine (syndromes19 v u k n p (fun _ => c) w h hu h1 h2 hn hp up).mono ?_
  rintro e w' ⟨gs, R, rfl, hE, hD, hP, hle, hr, hb⟩
  have hR : Nr19 p (fun _ => c) n ((n - n) / 2) R := by
    unfold Nr19
    rw [cnb_zero (fun i hi => by rw [hP i hi]; simp)]
    exact Nat.zero_le _
  have e : R = con19 c := near_uniq19 hp up (by omega) (Nat.le_refl n) hE hD (con_el19 hc) (con_dg19 c (by omega)) hR (con_nr19 hc (by omega))
  subst e
  exact ⟨gs, rfl, hle, hr, hb⟩
end Go.Proofs.YthofhphlfgmklaaGreat
namespace Go.Proofs.YthofhphlfgmklaaGreat
open Go.RowKit Gf2
set_option linter.unusedVariables false

-- layer 19: MendMemory: two lists of which the first shards are lost
theorem Lx19.ke {E : Nat → Prop} {W W' : World} {sb n : Nat} {R ln C : Nat → Nat} {va : Nat → Option Addr} {vc : Nat → Nat} {G : Nat → Nat → Nat} (h : Lx19 W sb n R ln C va vc G) (hk : Ke E W W') (h1 : ¬ E sb) (h2 : ∀ x, x < n → ln x ≠ 0 → ¬ E (R x)) : Lx19 W' sb n R ln C va vc G :=
  ⟨h.row.of_block (hk.2 sb h.row.lt h1), h.sl, fun x hx h0 => hk.rw_ (h.rows x hx h0) (h2 x hx h0), h.le, h.inj, h.ne⟩
theorem Lw19.ke {E : Nat → Prop} {W W' : World} {sb n : Nat} {R ln C : Nat → Nat} {G : Nat → Nat → Nat} (h : Lw19 W sb n R ln C G) (hk : Ke E W W') (h1 : ¬ E sb) (h2 : ∀ x, x < n → ¬ E (R x)) : Lw19 W' sb n R ln C G :=
  ⟨h.row.of_block (hk.2 sb h.row.lt h1), fun x hx => hk.rw_ (h.rows x hx) (h2 x hx), h.le, h.inj, h.ne⟩
/-- a world of the first g blocks. -/
theorem cut_world (W : World) (g : Nat) (hg : g ≤ W.heap.size) : ∃ w2 : World, w2.heap.size = g ∧ Below g w2 W := by
  refine ⟨{ W with heap := W.heap.extract 0 g }, by simp; omega, ⟨rfl, rfl, rfl, by simp; omega, fun k hk => ?_⟩⟩
  show W.heap[k]? = (W.heap.extract 0 g)[k]?
  rw [Array.getElem?_extract]
  simp
  omega
theorem made_pk19 (f k m n T : Nat) (bx : Nat) (aS aL aW : Option Addr) (cS nL cL nW cW : Nat) (sl : Nat → Nat) (Sd : Nat → Nat → Nat) (Lo Co Sh : Nat → Int) (Mk : Nat → Nat) (w w1 : World) (hf : f ≤ 1) (h1 : 1 ≤ k) (hn : n = k + m) (hn2 : n ≤ 256) (hT : T ≤ 64) (hS : Lb w (.slice aS T cS) T sl Sd) (hL : Qi w (.slice aL nL cL) nL Lo) (hW : Qw19 w (.slice aW nW cW) nW Co Sh Mk) (hb : Below w.heap.size w w1)
    (z : w1.cell? ⟨bx, 0, none⟩ = some (.int .i64 (f : Int)) ∧ w1.cell? ⟨bx, 1, none⟩ = some (.int .i64 (k : Int)) ∧ w1.cell? ⟨bx, 2, none⟩ = some (.int .i64 (m : Int)) ∧ w1.cell? ⟨bx, 3, none⟩ = some (.slice aS T cS) ∧ w1.cell? ⟨bx, 4, none⟩ = some (.slice aL nL cL) ∧ w1.cell? ⟨bx, 5, none⟩ = some (.slice aW nW cW)) :
    Calls Tryz.prog 8 #[.agg #[.int .i64 (f : Int), .int .i64 (k : Int), .int .i64 (m : Int), .slice aS T cS, .slice aL nL cL, .slice aW nW cW]] w1 fun e w2 => ∃ gs Bw, e = .returned (.slice (some ⟨gs, 0, none⟩) n n) ∧ Pk19 w w2 bx gs n T f k m aS aL aW cS nL cL nW cW Lo Co Sh Mk Bw (fun x z => col19 f k (sd19 sl Sd z) x) := by
  refine (made19 f k m n T aS aL aW cS nL cL nW cW sl Sd w1 hf h1 hn hn2 hT (hS.below hb)).mono ?_
  rintro e w2 ⟨gs, Bw, rfl, hM⟩
  have hw : Lw19 w2 gs n Bw (fun _ => T) (fun _ => T) (fun x z => col19 f k (sd19 sl Sd z) x) := ⟨hM.lw.row, fun x hx => (hM.lw.rows x hx).congr (fun z hz => if_pos (.inl hz)), hM.lw.le, hM.lw.inj, hM.lw.ne⟩
  have b12 : Below w1.heap.size w1 w2 := by have h := hM.bel; rwa [hM.bw] at h
  have b2 := hb.trans (b12.mono hb.size)
  have hc : ∀ {q : Nat} {v : Value}, w1.cell? ⟨bx, q, none⟩ = some v → w2.cell? ⟨bx, q, none⟩ = some v := fun e => (b12.cell (cell_lt5 e)).trans e
  exact ⟨gs, Bw, rfl, hc z.1, hc z.2.1, hc z.2.2.1, hc z.2.2.2.1, hc z.2.2.2.2.1, hc z.2.2.2.2.2, hw, hL.below b2, hW.below b2, b2⟩
/-- how long the shards are: the first j are lost. -/
def ln19 (T j x : Nat) : Nat := if x < j then 0 else T
theorem ln19_ne {T j x : Nat} (h : ln19 T j x ≠ 0) : ¬ x < j ∧ ln19 T j x = T := by
  unfold ln19 at h ⊢
  by_cases e : x < j
  · rw [if_pos e] at h; exact absurd rfl h
  · exact ⟨e, if_neg e⟩
theorem ln19_cnt {T j : Nat} (hT : 1 ≤ T) : ∀ n, cnb (emp (ln19 T j)) n = min n j
  | 0 => by simp [cnb]
  | n + 1 => by
    have ih := ln19_cnt (j := j) hT n
    by_cases e : n < j
    · have h : emp (ln19 T j) n = true := by show (ln19 T j n == 0) = true; unfold ln19; rw [if_pos e]; rfl
      rw [cnb_yes h, ih]
      omega
    · have h : emp (ln19 T j) n = false := by show (ln19 T j n == 0) = false; unfold ln19; rw [if_neg e]; simp; omega
      rw [cnb_no h, ih]
      omega
/-- the two lists behind j rounds. -/
structure Mm19 (w3 W : World) (go gb n T j : Nat) (Ba Ca : Nat → Nat) (Ga : Nat → Nat → Nat) (Bb Cb : Nat → Nat) (Gb : Nat → Nat → Nat) : Prop where
  a : Lx19 W w3.heap.size n Ba (ln19 T j) Ca (fun x => if x < j then some ⟨go, 0, none⟩ else some ⟨Ba x, 0, none⟩) (fun x => if x < j then T else Ca x) Ga
  b : Lx19 W gb n Bb (ln19 T j) Cb (fun x => if x < j then none else some ⟨Bb x, 0, none⟩) (fun x => if x < j then 0 else Cb x) Gb
  go_ : go < w3.heap.size
  gl : w3.heap.size < gb
  ba : ∀ x, x < n → w3.heap.size < Ba x ∧ Ba x < gb
  bb : ∀ x, x < n → gb < Bb x
  bel : Below w3.heap.size w3 W
/-- a loss in a list. -/
theorem Lx19.drop_ {W : World} {sb n T j : Nat} {B C : Nat → Nat} {vq : Option Addr} {cq : Nat} {G : Nat → Nat → Nat} (h : Lx19 W sb n B (ln19 T j) C (fun x => if x < j then vq else some ⟨B x, 0, none⟩) (fun x => if x < j then cq else C x) G) (hj : j < n) : Lx19 (W.setCell ⟨sb, j, none⟩ (.slice vq 0 cq)) sb n B (ln19 T (j + 1)) C (fun x => if x < j + 1 then vq else some ⟨B x, 0, none⟩) (fun x => if x < j + 1 then cq else C x) G := by
  have kp : Kp sb W (W.setCell ⟨sb, j, none⟩ (.slice vq 0 cq)) := (Kp.refl _ _).setCell _ _
  have h0 : ∀ {x}, ln19 T (j + 1) x ≠ 0 → ln19 T j x ≠ 0 := fun {x} e => by
    obtain ⟨e1, e2⟩ := ln19_ne e
    have e3 : T ≠ 0 := by rw [← e2]; exact e
    unfold ln19
    rw [if_neg (by omega)]
    exact e3
  have h1 : ∀ {x}, ln19 T (j + 1) x ≠ 0 → ¬ x < j + 1 ∧ ¬ x < j ∧ ln19 T (j + 1) x = ln19 T j x := fun {x} e => by
    obtain ⟨e1, e2⟩ := ln19_ne e
    obtain ⟨e3, e4⟩ := ln19_ne (h0 e)
    exact ⟨e1, e3, e2.trans e4.symm⟩
  refine ⟨(h.row.set j _).congr (fun x hx => ?_), fun x hx e => ?_, fun x hx e => kp.rw_ (h.rows x hx (h0 e)) (h.ne x hx (h0 e)), fun x hx e => ?_, fun x y hx hy ex ey => h.inj x y hx hy (h0 ex) (h0 ey), fun x hx e => h.ne x hx (h0 e)⟩
  · by_cases e : x = j
    · subst e
      rw [if_pos rfl, if_pos (by omega), if_pos (by omega)]
      unfold ln19
      rw [if_pos (by omega)]
    · rw [if_neg e]
      unfold ln19
      by_cases e2 : x < j
      · rw [if_pos e2, if_pos e2, if_pos e2, if_pos (by omega), if_pos (by omega), if_pos (by omega)]
      · rw [if_neg e2, if_neg e2, if_neg e2, if_neg (by omega), if_neg (by omega), if_neg (by omega)]
  · obtain ⟨e1, e2, e3⟩ := h1 e
    (try dsimp only)
    rw [if_neg e1, if_neg e1]
    exact ⟨rfl, rfl⟩
  · obtain ⟨e1, e2, e3⟩ := h1 e
    rw [e3]
    exact h.le x hx (h0 e)
section
variable {w3 W W' : World} {go gb n T j : Nat} {Ba Ca Bb Cb : Nat → Nat} {Ga Gb : Nat → Nat → Nat}
theorem Mm19.step (h : Mm19 w3 W go gb n T j Ba Ca Ga Bb Cb Gb) (hj : j < n) : Mm19 w3 ((W.setCell ⟨w3.heap.size, j, none⟩ (.slice (some ⟨go, 0, none⟩) 0 T)).setCell ⟨gb, j, none⟩ (.slice none 0 0)) go gb n T (j + 1) Ba Ca Ga Bb Cb Gb := by
  have hgl := h.gl
  have k1 : Ke (fun x => x = w3.heap.size) W (W.setCell ⟨w3.heap.size, j, none⟩ (.slice (some ⟨go, 0, none⟩) 0 T)) := ((Kp.refl _ _).setCell _ _).ke
  have k2 : ∀ X : World, Ke (fun x => x = gb) X (X.setCell ⟨gb, j, none⟩ (.slice none 0 0)) := fun X => ((Kp.refl _ _).setCell _ _).ke
  refine ⟨(h.a.drop_ hj).ke (k2 _) (by omega) (fun x hx _ => by have := h.ba x hx; omega), (h.b.ke k1 (by omega) (fun x hx _ => by have := h.bb x hx; omega)).drop_ hj, h.go_, hgl, h.ba, h.bb, (h.bel.setCell (Nat.le_refl _) _).setCell (Nat.le_of_lt hgl) _⟩
theorem Mm19.fa (h : Mm19 w3 W go gb n T j Ba Ca Ga Bb Cb Gb) (hj : j < n) : (∃ z, W.cell? ⟨w3.heap.size, j, none⟩ = some z) ∧ W.frozen? ⟨w3.heap.size, j, none⟩ = false := ⟨⟨_, h.a.row.cell hj⟩, h.a.row.frozen j⟩
theorem Mm19.fb (h : Mm19 w3 W go gb n T j Ba Ca Ga Bb Cb Gb) (hj : j < n) : (∃ z, (W.setCell ⟨w3.heap.size, j, none⟩ (.slice (some ⟨go, 0, none⟩) 0 T)).cell? ⟨gb, j, none⟩ = some z) ∧ (W.setCell ⟨w3.heap.size, j, none⟩ (.slice (some ⟨go, 0, none⟩) 0 T)).frozen? ⟨gb, j, none⟩ = false := by
  have hgl := h.gl
  have k1 : Ke (fun x => x = w3.heap.size) W (W.setCell ⟨w3.heap.size, j, none⟩ (.slice (some ⟨go, 0, none⟩) 0 T)) := ((Kp.refl _ _).setCell _ _).ke
  have hb := h.b.ke k1 (by omega) (fun x hx _ => by have := h.bb x hx; omega)
  exact ⟨⟨_, hb.row.cell hj⟩, hb.row.frozen j⟩
end
/-- twin, twice. -/
theorem twins19 (gs n T go : Nat) (Bw : Nat → Nat) (V : Nat → Nat → Nat) (w3 : World) (hw : Lw19 w3 gs n Bw (fun _ => T) (fun _ => T) V) (hgo : go < w3.heap.size) (hn : n ≤ 256) (hT : T ≤ 64) :
    Calls Tryz.prog 9 #[.slice (some ⟨gs, 0, none⟩) n n] w3 fun e w4 => e = .returned (.slice (some ⟨w3.heap.size, 0, none⟩) n n) ∧
    Calls Tryz.prog 9 #[.slice (some ⟨gs, 0, none⟩) n n] w4 fun e w5 => ∃ gb Ba Ca Ga Bb Cb Gb, e = .returned (.slice (some ⟨gb, 0, none⟩) n n) ∧ Mm19 w3 w5 go gb n T 0 Ba Ca Ga Bb Cb Gb ∧ ∀ x, x < n → ∀ z, z < T → Ga x z = V x z ∧ Gb x z = V x z := by
  have hbig : n ≤ big := by unfold big; omega
  refine (twin19 _ n (fun _ => T) V w3 (hw.lb (Nat.le_refl _) hbig) (by omega) (fun i _ => by omega)).mono ?_
  rintro e w4 ⟨Ca, Ba, Ga, rfl, hF, hG⟩
  refine ⟨rfl, (twin19 _ n (fun _ => T) V w4 ((hw.below hF.bel).lb (Nat.le_refl _) hbig) (by omega) (fun i _ => by omega)).mono ?_⟩
  rintro e w5 ⟨Cb, Bb, Gb, rfl, hF2, hG2⟩
  have ha := (hF.lw19.below hF2.bel).lx
  have hb := hF2.lw19.lx
  have hl0 : ∀ x, ln19 T 0 x = T := fun x => if_neg (Nat.not_lt_zero _)
  have hlt : w3.heap.size < w4.heap.size := hF.lw19.row.lt
  have e0 : ln19 T 0 = fun _ => T := funext hl0
  refine ⟨w4.heap.size, Ba, Ca, Ga, Bb, Cb, Gb, rfl, ⟨?_, ?_, hgo, hlt, fun x hx => ?_, fun x hx => ?_, hF.bel.trans (hF2.bel.mono hF.bel.size)⟩, fun x hx z hz => ⟨hG x hx z hz, hG2 x hx z hz⟩⟩
  · rw [e0]
    exact ⟨ha.row.congr (fun x hx => by rw [if_neg (Nat.not_lt_zero _), if_neg (Nat.not_lt_zero _)]), fun x hx _ => ⟨if_neg (Nat.not_lt_zero _), if_neg (Nat.not_lt_zero _)⟩, ha.rows, ha.le, ha.inj, ha.ne⟩
  · rw [e0]
    exact ⟨hb.row.congr (fun x hx => by rw [if_neg (Nat.not_lt_zero _), if_neg (Nat.not_lt_zero _)]), fun x hx _ => ⟨if_neg (Nat.not_lt_zero _), if_neg (Nat.not_lt_zero _)⟩, hb.rows, hb.le, hb.inj, hb.ne⟩
  · obtain ⟨a1, a2, a3, a4⟩ := hF.rows x hx
    have := a4.lt
    exact ⟨by omega, this⟩
  · obtain ⟨a1, a2, a3, a4⟩ := hF2.rows x hx
    omega
end Go.Proofs.YthofhphlfgmklaaGreat
