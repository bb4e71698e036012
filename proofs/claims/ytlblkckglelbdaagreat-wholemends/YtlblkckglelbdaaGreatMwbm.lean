import Derived.Test.YtlblkckglelbdaaGreatMwbk
import Derived.Test.YtlblkckglelbdaaGreatMwbl
namespace Go.Proofs.YtlblkckglelbdaaGreat
open Go.RowKit Gf2
set_option linter.unusedVariables false

-- layer 19: turnsOf and Shards over a list of shards whose empty entries may be any slices
/-- a list of n shards in block sb: those that are not empty lie each in a block of its own. -/
structure Lh19 (W : World) (sb n : Nat) (R ln C : Nat → Nat) (va : Nat → Option Addr) (vc : Nat → Nat) (G : Nat → Nat → Nat) : Prop where
  row : RowH W sb 27 n (fun x => .slice (va x) (ln x) (vc x))
  sl : ∀ x, x < n → ln x ≠ 0 → va x = some ⟨R x, 0, none⟩ ∧ vc x = C x
  rows : ∀ x, x < n → ln x ≠ 0 → Rw W (R x) (C x) (G x)
  le : ∀ x, x < n → ln x ≠ 0 → ln x ≤ C x
  inj : ∀ x y, x < n → y < n → ln x ≠ 0 → ln y ≠ 0 → x ≠ y → R x ≠ R y
  ne : ∀ x, x < n → ln x ≠ 0 → R x ≠ sb
theorem Lh19.below {W W' : World} {sb n : Nat} {R ln C : Nat → Nat} {va : Nat → Option Addr} {vc : Nat → Nat} {G : Nat → Nat → Nat} (h : Lh19 W sb n R ln C va vc G) (hb : Below W.heap.size W W') : Lh19 W' sb n R ln C va vc G :=
  ⟨h.row.of_block (hb.block _ h.row.lt), h.sl, fun x hx h0 => rw_below (h.rows x hx h0) hb, h.le, h.inj, h.ne⟩
/-- the same where all rows are there. -/
structure Lwh19 (W : World) (sb n : Nat) (R ln C : Nat → Nat) (G : Nat → Nat → Nat) : Prop where
  row : RowH W sb 27 n (fun x => .slice (some ⟨R x, 0, none⟩) (ln x) (C x))
  rows : ∀ x, x < n → Rw W (R x) (C x) (G x)
  le : ∀ x, x < n → ln x ≤ C x
  inj : ∀ x y, x < n → y < n → x ≠ y → R x ≠ R y
  ne : ∀ x, x < n → R x ≠ sb
theorem Lwh19.below {W W' : World} {sb n : Nat} {R ln C : Nat → Nat} {G : Nat → Nat → Nat} (h : Lwh19 W sb n R ln C G) (hb : Below W.heap.size W W') : Lwh19 W' sb n R ln C G :=
  ⟨h.row.of_block (hb.block _ h.row.lt), fun x hx => rw_below (h.rows x hx) hb, h.le, h.inj, h.ne⟩
theorem Lwh19.lx {W : World} {sb n : Nat} {R ln C : Nat → Nat} {G : Nat → Nat → Nat} (h : Lwh19 W sb n R ln C G) : Lh19 W sb n R ln C (fun x => some ⟨R x, 0, none⟩) C G :=
  ⟨h.row, fun x _ _ => ⟨rfl, rfl⟩, fun x hx _ => h.rows x hx, fun x hx _ => h.le x hx, fun x y hx hy _ _ e => h.inj x y hx hy e, fun x hx _ => h.ne x hx⟩
theorem Lh19.lnb {W : World} {sb n : Nat} {R ln C : Nat → Nat} {va : Nat → Option Addr} {vc : Nat → Nat} {G : Nat → Nat → Nat} (h : Lh19 W sb n R ln C va vc G) {x : Nat} (hx : x < n) : ln x ≤ big := by
  by_cases h0 : ln x = 0
  · rw [h0]; exact Nat.zero_le _
  · exact Nat.le_trans (h.le x hx h0) (h.rows x hx h0).1
theorem Lh19.ln {W : World} {sb n : Nat} {R ln C : Nat → Nat} {va : Nat → Option Addr} {vc : Nat → Nat} {G : Nat → Nat → Nat} (h : Lh19 W sb n R ln C va vc G) {cs : Nat} (hn : n ≤ cs) (hn2 : n ≤ 281474976710656) (hc : cs ≤ big) : Ln W (.slice (some ⟨sb, 0, none⟩) n cs) n ln :=
  ⟨hn2, fun x hx => h.lnb hx, _, _, rfl, hn, hc, fun _ => ⟨sb, 0, rfl, h.row.lt, fun i hi => ⟨_, _, by rw [Nat.zero_add]; exact h.row.cell hi⟩⟩⟩
/-- the shards' bytes, noughts where there are none. -/
theorem ci_ofh19 {w w1 : World} {sb n k m f L : Nat} {R ln C : Nat → Nat} {va : Nat → Option Addr} {vc : Nat → Nat} {G : Nat → Nat → Nat} (h : Lh19 w sb n R ln C va vc G) (hb : Below w.heap.size w w1) (hk : 1 ≤ k) (hn : n = k + m) (hn2 : n ≤ 256) (hL : L ≤ 140737488351232) (hl : ∀ x, x < n → ln x = L ∨ ln x = 0) (hm : cnb (emp ln) n ≤ m) :
    Ci19 w1 sb 0 n (cnb (pre19 n ln) n) (cnb (emp ln) n) k f L (pk19 (pre19 n ln) n) (pk19 (emp ln) n) (pre19 n ln) (shx19 n ln C G) := by
  have hs := pre_emp19 n ln
  have pl : ∀ i, i < cnb (pre19 n ln) n → pk19 (pre19 n ln) n i < n ∧ ln (pk19 (pre19 n ln) n i) = L := fun i hi => by
    obtain ⟨a1, a2, -, -⟩ := pk19_get hi
    exact ⟨a1, (hl _ a1).resolve_right (pre19_iff.1 a2).2⟩
  refine ⟨fun i hi => (pl i hi).1, pk19_up _ _, fun j hj => (pk19_get hj).1, pk19_up _ _, fun x => ⟨fun e => pk19_all (pre19_iff.1 e).1 e, fun ⟨i, hi, e⟩ => e ▸ (pk19_get hi).2.1⟩, fun x hx => ?_, fun i j hi hj e => ?_, hn2, hk, by omega, by omega, by omega, hL, fun x hx => sc19_ne (by omega) (by omega), fun i hi z => ?_, fun i hi => ?_⟩
  · by_cases e : ln x = 0
    · refine .inr (pk19_all hx ?_)
      show (ln x == 0) = true
      simp [e]
    · exact .inl (pk19_all hx (pre19_iff.2 ⟨hx, e⟩))
  · have h1 := (pk19_get hi).2.1
    have h2 := (pk19_get hj).2.1
    rw [e] at h1
    have h3 : ln (pk19 (emp ln) n j) = 0 := by
      have h2 : (ln (pk19 (emp ln) n j) == 0) = true := h2
      simpa using h2
    exact (pre19_iff.1 h1).2 h3
  · unfold shx19
    split
    · rename_i h9
      exact (h.rows _ h9.1 h9.2.1).2.1 z h9.2.2
    · decide
  · obtain ⟨a1, a2⟩ := pl i hi
    refine ⟨R (pk19 (pre19 n ln) n i), 0, C (pk19 (pre19 n ln) n i), fun W hW => ?_⟩
    have hx := (h.below hb).below hW
    have a0 : ln (pk19 (pre19 n ln) n i) ≠ 0 := (pre19_iff.1 (pk19_get hi).2.1).2
    refine ⟨by rw [Nat.zero_add, hx.row.cell a1, a2, (hx.sl _ a1 a0).1, (hx.sl _ a1 a0).2], fun z hz => ?_⟩
    have hzc : z < C (pk19 (pre19 n ln) n i) := by have := h.le _ a1 a0; omega
    rw [Nat.zero_add, (hx.rows _ a1 a0).2.2.cell hzc]
    unfold shx19
    rw [if_pos ⟨a1, a0, hzc⟩]
theorem turnsOf_okh19 (f k m n L sb cs : Nat) (R ln C : Nat → Nat) (va : Nat → Option Addr) (vc : Nat → Nat) (G : Nat → Nat → Nat) (w : World) (hf : f ≤ 1) (hLw : Lh19 w sb n R ln C va vc G) (hcs : n ≤ cs) (hcb : cs ≤ big) (hple : ple f k m n ln = 0) (hplv : plv16 f k m n ln = L) (hpll : pll f k m n ln = cnb (emp ln) n) (h1 : 1 ≤ k) (hn : n = k + m) (hn2 : n ≤ 256) (hL : L ≤ 140737488351232) (hl : ∀ x, x < n → ln x = L ∨ ln x = 0) (hm : cnb (emp ln) n ≤ m) :
    Calls Tryz.prog 21 #[.int .i64 (f : Int), .int .i64 (k : Int), .int .i64 (m : Int), .slice (some ⟨sb, 0, none⟩) n cs] w fun e w' => ∃ w1, Below w.heap.size w w1 ∧ To19 w1 w' e f k n (cnb (pre19 n ln) n) L (pk19 (pre19 n ln) n) (pre19 n ln) (shx19 n ln C G) := by
  have hs := pre_emp19 n ln
  have c1 := partial16 f k m (.slice (some ⟨sb, 0, none⟩) n cs) n ln w (by unfold I64; omega) (hLw.ln hcs (by omega) hcb)
  refine turnsOf19 f k m n (cnb (emp ln) n) L sb 0 cs (pk19 (emp ln) n) (pre19 n ln) _ w hf hn (by omega) (fun x hx => ?_) (c1.mono ?_)
  · constructor
    · rintro e ⟨a, ha, rfl⟩
      have h2 := (pk19_get ha).2.1
      have h2 : (ln (pk19 (emp ln) n a) == 0) = true := h2
      exact (pre19_iff.1 e).2 (by simpa using h2)
    · intro e
      refine pre19_iff.2 ⟨hx, fun h0 => e (pk19_all hx ?_)⟩
      show (ln x == 0) = true
      simp [h0]
  · rintro e w1 ⟨u, rfl, hP⟩
    rw [hplv, hple]
    obtain ⟨a, c, rfl, hq⟩ := nat_pk19 hP.gi hpll
    exact ⟨a, c, rfl, hq, ci_ofh19 hLw hP.bel h1 hn hn2 hL hl hm, hP.bel⟩
end Go.Proofs.YtlblkckglelbdaaGreat
namespace Go.Proofs.YtlblkckglelbdaaGreat
open Go.RowKit Gf2
set_option linter.unusedVariables false

-- layer 19: Shards over a list whose empty entries may be any slices
/-- what Shards leaves and answers where all is well. -/
structure Okh19 (w w' : World) (v : Value) (f k m n L sb : Nat) (R ln C : Nat → Nat) (G F : Nat → Nat → Nat) : Prop where
  val : f ≤ 1 ∧ 1 ≤ k ∧ 1 ≤ m ∧ n = k + m ∧ n ≤ 256 ∧ 1 ≤ L
  lens : ∀ x, x < n → ln x = L ∨ ln x = 0
  few : cnb (emp ln) n ≤ m
  pol : ∀ z, z < L → Gf2.El 8 (F z) ∧ Dg (F z) k ∧ 2 * cnb (fun x => pre19 n ln x && decide (cv19 f k (F z) x ≠ G x z)) n ≤ m - cnb (emp ln) n
  told : ∃ P, Gj w.heap.size w' v (cnb P n) (fsel P (fun j => j) n) ∧ ∀ x, x < n → (P x = true ↔ ln x ≠ 0 ∧ ∃ z, z < L ∧ cv19 f k (F z) x ≠ G x z)
  list : ∃ R' C' G', Lwh19 w' sb n R' (fun _ => L) C' G' ∧ ∀ x, x < n → (∀ z, z < L → G' x z = cv19 f k (F z) x) ∧ (ln x ≠ 0 → R' x = R x ∧ C' x = C x ∧ ∀ z, L ≤ z → G' x z = G x z) ∧ (ln x = 0 → w.heap.size ≤ R' x ∧ C' x = L)
  ke : Ke (fun x => x = sb ∨ ∃ y, y < n ∧ ln y ≠ 0 ∧ x = R y) w w'
theorem shards_okh19 (f k m n L sb cs : Nat) (R ln C : Nat → Nat) (va : Nat → Option Addr) (vc : Nat → Nat) (G : Nat → Nat → Nat) (w : World) (hf : f ≤ 1) (hLw : Lh19 w sb n R ln C va vc G) (hcs : n ≤ cs) (hcb : cs ≤ big) (hple : ple f k m n ln = 0) (hplv : plv16 f k m n ln = L) (hpll : pll f k m n ln = cnb (emp ln) n) (h1 : 1 ≤ k) (h1m : 1 ≤ m) (hn : n = k + m) (hn2 : n ≤ 256) (hL1 : 1 ≤ L) (hL : L ≤ 140737488351232) (hl : ∀ x, x < n → ln x = L ∨ ln x = 0) (hm : cnb (emp ln) n ≤ m) :
    Calls Tryz.prog 5 #[.int .i64 (f : Int), .int .i64 (k : Int), .int .i64 (m : Int), .slice (some ⟨sb, 0, none⟩) n cs] w fun e w' => (∃ v F, e = .returned (.tuple #[v, .int .i64 0]) ∧ Okh19 w w' v f k m n L sb R ln C G F) ∨ (e = .returned (.tuple #[.slice none 0 0, .int .i64 190]) ∧ Below w.heap.size w w' ∧ ∃ z, z < L ∧ ∀ F, Gf2.El 8 F → Dg F k → m - cnb (emp ln) n < 2 * cnb (fun x => pre19 n ln x && decide (cv19 f k F x ≠ G x z)) n) := by
  have hs := pre_emp19 n ln
  have hkp : k ≤ cnb (pre19 n ln) n := by omega
  have hGb : ∀ x, x < n → ln x ≠ 0 → ∀ y, y < C x → G x y < 256 := fun x hx h0 y hy => (hLw.rows x hx h0).2.1 y hy
  obtain ⟨Sh, hSh⟩ : ∃ Sh : Nat → Nat → Nat, Sh = shx19 n ln C G := ⟨_, rfl⟩
  have hnr : ∀ z, z < L → ∀ F, Dg F k → cnb (fun i => decide (pe 285 (pk19 (pre19 n ln) n i) (cnb (pre19 n ln) n) F ≠ yv19 f k z (pk19 (pre19 n ln) n) Sh i)) (cnb (pre19 n ln) n) = cnb (fun x => pre19 n ln x && decide (cv19 f k F x ≠ G x z)) n := fun z hz F dF => by rw [hSh]; exact nr_cntx19 hkp hn2 dF hl hLw.le hz hGb
  have hc := turnsOf_okh19 f k m n L sb cs R ln C va vc G w hf hLw hcs hcb hple hplv hpll h1 hn hn2 hL hl hm
  rw [← hSh] at hc
  refine (shardsh19 f k m n L sb cs R ln C va vc G w (fun w3 v gt tb B T => ∃ F lo, Below w.heap.size w w3 ∧ Gj w.heap.size w3 v (cnb (tp19 tb ln) n) (fsel (tp19 tb ln) (fun j => j) n) ∧ Tq19 f k n (cnb (pre19 n ln) n) L (pk19 (pre19 n ln) n) (pre19 n ln) Sh F tb ∧ (∀ x, x < n → tb x = true → w.heap.size ≤ B x ∧ B x ≠ gt ∧ ∀ z, z < L → T x z = dw19 f k (cnb (pre19 n ln) n) z (pre19 n ln) Sh (F z) x) ∧ (∀ x y, x < n → y < n → tb x = true → tb y = true → x ≠ y → B x ≠ B y) ∧ gt < lo) (fun w3 z => z = 190 ∧ Below w.heap.size w w3 ∧ ∃ y, y < L ∧ ∀ F, Gf2.El 8 F → Dg F k → ¬ Nr19 (pk19 (pre19 n ln) n) (yv19 f k y (pk19 (pre19 n ln) n) Sh) (cnb (pre19 n ln) n) ((cnb (pre19 n ln) n - k) / 2) F) (by omega) (hc.mono ?_)).mono ?_
  · rintro e w2 ⟨w1, hb1, ⟨gt, lo, rfl, F, hF, hgt, hb2, hY⟩ | ⟨rfl, hno, hb2⟩⟩
    · obtain ⟨tb, B, T, hT, -, hX⟩ := hY.ex
      have b02 : Below w.heap.size w w2 := hb1.trans (hb2.mono hb1.size)
      have l2 := hLw.below b02
      refine ⟨_, _, _, rfl, (turned19 gt n L sb 0 cs tb B ln vc va w2 hT.row l2.row.lt (fun x hx => by rw [Nat.zero_add]; exact l2.row.cell hx) hn2).mono ?_⟩
      rintro e w3 ⟨v, rfl, hG, hb3⟩
      have l3 := l2.below hb3
      have t3 := hT.below hb3
      have hgw : w.heap.size ≤ gt := Nat.le_trans hb1.size hgt
      have hBw : ∀ x, x < n → tb x = true → w.heap.size ≤ B x := fun x hx e => by have := (hT.rows x hx e).1; have := hT.lt; omega
      have hRw : ∀ x, x < n → ln x ≠ 0 → R x < w.heap.size := fun x hx h0 => (hLw.rows x hx h0).lt
      refine ⟨v, rfl, .inl ⟨gt, tb, B, T, rfl, rfl, rfl, ⟨t3.row, fun j hj e => (t3.rows j hj e).2, l3.row.congr (fun x hx => by rw [if_neg (fun h9 => absurd h9.1 (Nat.not_lt_zero _))]), hLw.sl, fun x hx h0 => (l3.rows x hx h0).congr (fun z hz => by rw [if_neg (fun h9 => absurd h9.1.1 (Nat.not_lt_zero _))]), fun x hx => ⟨hLw.le x hx, hl x hx⟩, hLw.inj, fun x hx h0 => ⟨hLw.ne x hx h0, by have := hRw x hx h0; omega, fun j hj e => by have := hRw x hx h0; have := hBw j hj e; omega⟩, fun j hj e => by have := hLw.row.lt; have := hBw j hj e; omega, by have := hLw.row.lt; omega⟩, F, lo, b02.trans (hb3.mono b02.size), ?_, ⟨hF, fun x hx => ?_⟩, fun x hx e => ⟨hBw x hx e, by have := (hT.rows x hx e).1; have := hT.lt; omega, fun z hz => ?_⟩, fun x y hx hy ex ey hne => hT.inj x y hx hy ex ey hne, hT.lt⟩⟩
      · rcases hG with h | ⟨g, c, H, a1, a2, a3, a4, a5⟩
        · exact .inl h
        · exact .inr ⟨g, c, H, a1, a2, Nat.le_trans b02.size a3, a4, a5⟩
      · have h9 := hX x hx
        simp only [Bool.false_eq_true, if_false] at h9
        exact h9.iff_
      · have h9 := hX x hx
        simp only [Bool.false_eq_true, if_false] at h9
        rw [h9.val e z hz, if_pos hz]
    · have b02 : Below w.heap.size w w2 := hb1.trans (hb2.mono hb1.size)
      refine ⟨none, 0, 190, rfl, (turned_nil19 _ w2).mono ?_⟩
      rintro e w3 ⟨rfl, rfl⟩
      exact ⟨_, rfl, .inr ⟨rfl, rfl, rfl, b02, hno⟩⟩
  · rintro e w' (⟨gt, tb, B, T, w3, v, rfl, ⟨F, lo, hb3, hG, ⟨hF, htb⟩, hT, hinj, hlo⟩, hS, hk⟩ | ⟨z, rfl, rfl, hb, y, hy, hno⟩)
    · have hRw : ∀ x, x < n → ln x ≠ 0 → R x < w.heap.size := fun x hx h0 => (hLw.rows x hx h0).lt
      have hsw : sb < w.heap.size := hLw.row.lt
      have hdm : ∀ x, x < n → ln x = 0 → ∀ z, z < L → dw19 f k (cnb (pre19 n ln) n) z (pre19 n ln) Sh (F z) x = cv19 f k (F z) x := fun x hx h0 z hz => by
        have hp : ¬ pre19 n ln x = true := fun h9 => (pre19_iff.1 h9).2 h0
        rw [dw_cv19 hkp (hF z hz).2.1, if_neg hp, Nat.xor_zero]
      have hdp : ∀ x, x < n → ln x ≠ 0 → ∀ z, z < L → dw19 f k (cnb (pre19 n ln) n) z (pre19 n ln) Sh (F z) x = cv19 f k (F z) x ^^^ G x z := fun x hx h0 z hz => by
        have hzc : z < C x := by have := hl x hx; have := hLw.le x hx h0; omega
        rw [dw_cv19 hkp (hF z hz).2.1, if_pos (pre19_iff.2 ⟨hx, h0⟩), hSh]
        unfold shx19
        rw [if_pos ⟨hx, h0, hzc⟩]
      have hne0 : ∀ x, x < n → ln x ≠ 0 → (tb x = true ↔ ∃ z, z < L ∧ cv19 f k (F z) x ≠ G x z) := fun x hx h0 => by
        rw [htb x hx]
        constructor
        · rintro (⟨h9, -⟩ | ⟨z, hz, h9⟩)
          · exact absurd (pre19_iff.2 ⟨hx, h0⟩) h9
          · exact ⟨z, hz, fun e => h9 (by rw [hdp x hx h0 z hz, e, Nat.xor_self])⟩
        · rintro ⟨z, hz, h9⟩
          exact .inr ⟨z, hz, fun e => h9 (by rw [hdp x hx h0 z hz] at e; exact xor_zero19 e)⟩
      have htm : ∀ x, x < n → ln x = 0 → tb x = true := fun x hx h0 => (htb x hx).2 (.inl ⟨fun h9 => (pre19_iff.1 h9).2 h0, by omega⟩)
      have hGe : ∀ x, x < n → ln x ≠ 0 → ∀ z, z < L → (if tb x = true ∧ z < L then G x z ^^^ T x z else G x z) = cv19 f k (F z) x := fun x hx h0 z hz => by
        by_cases e : tb x = true
        · rw [if_pos ⟨e, hz⟩, (hT x hx e).2.2 z hz, hdp x hx h0 z hz, Nat.xor_comm (cv19 f k (F z) x), ← Nat.xor_assoc, Nat.xor_self, Nat.zero_xor]
        · rw [if_neg (fun h9 => e h9.1)]
          exact (Classical.byContradiction fun h9 => e ((hne0 x hx h0).2 ⟨z, hz, fun e9 => h9 e9.symm⟩))
      refine .inl ⟨v, F, rfl, ⟨hf, h1, h1m, hn, hn2, hL1⟩, hl, hm, fun z hz => ⟨(hF z hz).1, (hF z hz).2.1, ?_⟩, ⟨tp19 tb ln, hG.keep hk (fun x hx e => ?_), fun x hx => ?_⟩, ⟨fun x => if ln x = 0 then B x else R x, fun x => if ln x = 0 then L else C x, fun x z => if ln x = 0 then T x z else if tb x = true ∧ z < L then G x z ^^^ T x z else G x z, ⟨hS.row.congr (fun x hx => ?_), fun x hx => ?_, fun x hx => ?_, fun x y hx hy hxy => ?_, fun x hx => ?_⟩, fun x hx => ⟨fun z hz => ?_, fun h0 => ⟨if_neg h0, if_neg h0, fun z hz => ?_⟩, fun h0 => ⟨?_, if_pos h0⟩⟩⟩, (ke_below hb3 _).trans hk⟩
      · have h9 := (hF z hz).2.2
        unfold Nr19 at h9
        rw [hnr z hz (F z) (hF z hz).2.1] at h9
        omega
      · rcases e with e | ⟨y, hy, hy0, e⟩
        · omega
        · have := hRw y hy (by assumption); omega
      · unfold tp19
        rw [Bool.and_eq_true, decide_eq_true_iff]
        by_cases h0 : ln x = 0
        · exact ⟨fun h9 => absurd h9.2 (by omega), fun h9 => absurd h0 h9.1⟩
        · rw [hne0 x hx h0]
          exact ⟨fun h9 => ⟨h0, h9.1⟩, fun h9 => ⟨h9.2, by omega⟩⟩
      · by_cases h0 : ln x = 0
        · rw [if_pos ⟨hx, h0⟩, if_pos (htm x hx h0), if_pos h0, if_pos h0]
        · rw [if_neg (fun h9 => h0 h9.2), if_neg h0, if_neg h0, (hLw.sl x hx h0).1, (hLw.sl x hx h0).2, (hl x hx).resolve_right h0]
      · (try dsimp only)
        by_cases h0 : ln x = 0
        · simp only [if_pos h0]
          exact hS.trows x hx (htm x hx h0)
        · simp only [if_neg h0]
          refine (hS.rows x hx h0).congr (fun z hz => ?_)
          by_cases e : tb x = true ∧ z < L
          · rw [if_pos ⟨⟨hx, e.1, h0⟩, e.2⟩, if_pos e]
          · rw [if_neg (fun h9 => e ⟨h9.1.2.1, h9.2⟩), if_neg e]
      · (try dsimp only)
        by_cases h0 : ln x = 0
        · rw [if_pos h0]; exact Nat.le_refl _
        · rw [if_neg h0]; have := hl x hx; have := hLw.le x hx h0; omega
      · (try dsimp only)
        by_cases hx0 : ln x = 0
        · by_cases hy0 : ln y = 0
          · rw [if_pos hx0, if_pos hy0]; exact hinj x y hx hy (htm x hx hx0) (htm y hy hy0) hxy
          · rw [if_pos hx0, if_neg hy0]; have := (hT x hx (htm x hx hx0)).1; have := hRw y hy (by assumption); omega
        · by_cases hy0 : ln y = 0
          · rw [if_neg hx0, if_pos hy0]; have := (hT y hy (htm y hy hy0)).1; have := hRw x hx (by assumption); omega
          · rw [if_neg hx0, if_neg hy0]; exact hLw.inj x y hx hy hx0 hy0 hxy
      · (try dsimp only)
        by_cases h0 : ln x = 0
        · rw [if_pos h0]; exact hS.nb x hx (htm x hx h0)
        · rw [if_neg h0]; exact hLw.ne x hx h0
      · (try dsimp only)
        by_cases h0 : ln x = 0
        · rw [if_pos h0, (hT x hx (htm x hx h0)).2.2 z hz, hdm x hx h0 z hz]
        · rw [if_neg h0, hGe x hx h0 z hz]
      · (try dsimp only)
        rw [if_neg h0, if_neg (fun h9 => by omega)]
      · (try dsimp only)
        rw [if_pos h0]; exact (hT x hx (htm x hx h0)).1
    · refine .inr ⟨rfl, hb, y, hy, fun F eF dF => ?_⟩
      have h9 := hno F eF dF
      unfold Nr19 at h9
      rw [hnr y hy F dF] at h9
      omega
end Go.Proofs.YtlblkckglelbdaaGreat
namespace Go.Proofs.YtlblkckglelbdaaGreat
open Go.RowKit Gf2
set_option linter.unusedVariables false

-- layer 19, through the layers: shards in a list with room behind it
/-- a list of shards of T bytes or none, at or above w2's memory, which is as it was. -/
structure Rq19 (w2 : World) (sb : Nat) (W : World) (n T : Nat) (B ln C : Nat → Nat) (va : Nat → Option Addr) (vc : Nat → Nat) (G : Nat → Nat → Nat) : Prop where
  hs : w2.heap.size ≤ sb
  list : Lh19 W sb n B ln C va vc G
  lo : ∀ x, x < n → ln x ≠ 0 → w2.heap.size ≤ B x
  lens : ∀ x, x < n → ln x = T ∨ ln x = 0
  bel : Below w2.heap.size w2 W
section
variable {w2 W W' : World} {sb n T : Nat} {B ln C : Nat → Nat} {va : Nat → Option Addr} {vc : Nat → Nat} {G : Nat → Nat → Nat}
theorem Rq19.below (h : Rq19 w2 sb W n T B ln C va vc G) (hb : Below W.heap.size W W') : Rq19 w2 sb W' n T B ln C va vc G :=
  ⟨h.hs, h.list.below hb, h.lo, h.lens, h.bel.trans (hb.mono h.bel.size)⟩
theorem Rq19.drewN (h : Rq19 w2 sb W n T B ln C va vc G) (q : Nat) : Rq19 w2 sb (W.drewN q) n T B ln C va vc G := h.below (below_drewN (Below.refl _ _) q)
/-- a shard is lost. -/
theorem Rq19.lose (h : Rq19 w2 sb W n T B ln C va vc G) {a : Nat} (ha : a < n) : Rq19 w2 sb (W.setCell ⟨sb, a, none⟩ (.slice none 0 0)) n T B (fun x => if x = a then 0 else ln x) C (fun x => if x = a then none else va x) (fun x => if x = a then 0 else vc x) G := by
  have kp : Kp sb W (W.setCell ⟨sb, a, none⟩ (.slice none 0 0)) := (Kp.refl _ _).setCell _ _
  have h0 : ∀ {x}, (if x = a then 0 else ln x) ≠ 0 → ln x ≠ 0 := fun {x} e => by
    by_cases e2 : x = a
    · rw [if_pos e2] at e; exact absurd rfl e
    · rw [if_neg e2] at e; exact e
  have h1 : ∀ {x}, (if x = a then 0 else ln x) ≠ 0 → x ≠ a := fun {x} e e2 => by rw [if_pos e2] at e; exact e rfl
  refine ⟨h.hs, ⟨(h.list.row.set a _).congr (fun x hx => ?_), fun x hx e => ?_, fun x hx e => kp.rw_ (h.list.rows x hx (h0 e)) (h.list.ne x hx (h0 e)), fun x hx e => ?_, fun x y hx hy ex ey => h.list.inj x y hx hy (h0 ex) (h0 ey), fun x hx e => h.list.ne x hx (h0 e)⟩, fun x hx e => h.lo x hx (h0 e), fun x hx => ?_, h.bel.setCell h.hs _⟩
  · by_cases e : x = a
    · rw [if_pos e, if_pos e, if_pos e, if_pos e]
    · rw [if_neg e, if_neg e, if_neg e, if_neg e]
  · (try dsimp only)
    rw [if_neg (h1 e), if_neg (h1 e)]
    exact h.list.sl x hx (h0 e)
  · (try dsimp only)
    rw [if_neg (h1 e)]
    exact h.list.le x hx (h0 e)
  · (try dsimp only)
    by_cases e : x = a
    · rw [if_pos e]; exact .inr rfl
    · rw [if_neg e]; exact h.lens x hx
theorem Rq19.emp_ {a : Nat} (ha : a < n) (h0 : ln a ≠ 0) : cnb (emp (fun x => if x = a then 0 else ln x)) n = cnb (emp ln) n + 1 := by
  refine cnb_set (a := a) ?_ ?_ (fun x hx => ?_) n ha
  · show (ln a == 0) = false
    simp [h0]
  · show ((if a = a then 0 else ln a) == 0) = true
    simp
  · show (ln x == 0) = ((if x = a then 0 else ln x) == 0)
    rw [if_neg hx]
/-- a byte is turned. -/
theorem Rq19.turn (h : Rq19 w2 sb W n T B ln C va vc G) {a t y : Nat} (ha : a < n) (h0 : ln a ≠ 0) (hy : y < 256) : Rq19 w2 sb (W.setCell ⟨B a, t, none⟩ (.int .u8 (y : Nat))) n T B ln C va vc (fun x z => if x = a ∧ z = t then y else G x z) := by
  have kp : Kp (B a) W (W.setCell ⟨B a, t, none⟩ (.int .u8 (y : Nat))) := (Kp.refl _ _).setCell _ _
  refine ⟨h.hs, ⟨h.list.row.of_block (kp.2 _ h.list.row.lt (fun e => h.list.ne a ha h0 e.symm)), h.list.sl, fun x hx e => ?_, h.list.le, h.list.inj, h.list.ne⟩, h.lo, h.lens, h.bel.setCell (h.lo a ha h0) _⟩
  by_cases e2 : x = a
  · subst e2
    refine ((h.list.rows x hx e).set t y hy).congr (fun z hz => ?_)
    by_cases e3 : z = t
    · rw [if_pos e3, if_pos ⟨rfl, e3⟩]
    · rw [if_neg e3, if_neg (fun h9 => e3 h9.2)]
  · refine (kp.rw_ (h.list.rows x hx e) (h.list.inj x a hx ha e h0 e2)).congr (fun z hz => ?_)
    rw [if_neg (fun h9 => e2 h9.1)]
theorem Rq19.cell (h : Rq19 w2 sb W n T B ln C va vc G) {a : Nat} (ha : a < n) : W.cell? ⟨sb, a, none⟩ = some (.slice (va a) (ln a) (vc a)) := h.list.row.cell ha
theorem Rq19.full (h : Rq19 w2 sb W n T B ln C va vc G) {a : Nat} (ha : a < n) (h0 : ln a ≠ 0) : W.cell? ⟨sb, a, none⟩ = some (.slice (some ⟨B a, 0, none⟩) T (C a)) := by
  rw [h.cell ha, (h.list.sl a ha h0).1, (h.list.sl a ha h0).2, (h.lens a ha).resolve_right h0]
theorem Rq19.le (h : Rq19 w2 sb W n T B ln C va vc G) {a : Nat} (ha : a < n) (h0 : ln a ≠ 0) : T ≤ C a := by
  have := h.list.le a ha h0
  rwa [(h.lens a ha).resolve_right h0] at this
theorem Rq19.rb (h : Rq19 w2 sb W n T B ln C va vc G) {a : Nat} (ha : a < n) (h0 : ln a ≠ 0) : Rb W (.slice (some ⟨B a, 0, none⟩) T (C a)) T (G a) := (h.list.rows a ha h0).rb0.cut8 (h.le ha h0)
theorem Rq19.at_ (h : Rq19 w2 sb W n T B ln C va vc G) {a t : Nat} (ha : a < n) (h0 : ln a ≠ 0) (ht : t < T) : W.cell? ⟨B a, t, none⟩ = some (.int .u8 (G a t : Nat)) := (h.list.rows a ha h0).2.2.cell (Nat.lt_of_lt_of_le ht (h.le ha h0))
theorem Rq19.byte (h : Rq19 w2 sb W n T B ln C va vc G) {a t : Nat} (ha : a < n) (h0 : ln a ≠ 0) (ht : t < T) : G a t < 256 := (h.list.rows a ha h0).2.1 t (Nat.lt_of_lt_of_le ht (h.le ha h0))
end
end Go.Proofs.YtlblkckglelbdaaGreat
namespace Go.Proofs.YtlblkckglelbdaaGreat
open Go.RowKit Gf2
set_option linter.unusedVariables false

-- layer 19, through the layers: the near case
/-- a codeword V that lost few shards, wrong in no column at more than half of what is spare; P: where. -/
structure Nq19 (w2 : World) (sb : Nat) (W : World) (f k m n T : Nat) (B ln C : Nat → Nat) (va : Nat → Option Addr) (vc : Nat → Nat) (G V : Nat → Nat → Nat) (P : Nat → Bool) : Prop where
  rp : Rq19 w2 sb W n T B ln C va vc G
  val : f ≤ 1 ∧ 1 ≤ k ∧ 1 ≤ m ∧ n = k + m ∧ n ≤ 256 ∧ 1 ≤ T ∧ T ≤ 140737488351232
  few : cnb (emp ln) n ≤ m
  byt : ∀ z, z < T → ∀ x, x < n → V x z < 256
  cw : ∀ z, z < T → Cw19 f k n (fun x => V x z)
  cnt : ∀ z, z < T → 2 * cnb (fun x => pre19 n ln x && decide (V x z ≠ G x z)) n ≤ m - cnb (emp ln) n
  told : ∀ x, x < n → (P x = true ↔ ln x ≠ 0 ∧ ∃ z, z < T ∧ V x z ≠ G x z)
section
variable {w2 W : World} {sb f k m n T : Nat} {B ln C : Nat → Nat} {va : Nat → Option Addr} {vc : Nat → Nat} {G V : Nat → Nat → Nat} {P : Nat → Bool}
theorem Nq19.below {W' : World} (h : Nq19 w2 sb W f k m n T B ln C va vc G V P) (hb : Below W.heap.size W W') : Nq19 w2 sb W' f k m n T B ln C va vc G V P :=
  ⟨h.rp.below hb, h.val, h.few, h.byt, h.cw, h.cnt, h.told⟩
theorem Nq19.found {F : Nat → Nat} {z : Nat} (h : Nq19 w2 sb W f k m n T B ln C va vc G V P) (hz : z < T) (eF : Gf2.El 8 F) (dF : Dg F k) (h2 : 2 * cnb (fun x => pre19 n ln x && decide (cv19 f k F x ≠ G x z)) n ≤ m - cnb (emp ln) n) : ∀ x, x < n → cv19 f k F x = V x z := by
  obtain ⟨v1, v2, v3, v4, v5, v6, v7⟩ := h.val
  refine found19 (C := fun x => if ln x = 0 then 0 else C x) (G := G) v1 v2 v4 v5 h.few h.rp.lens (fun x hx => ?_) hz (fun x hx y hy => ?_) eF dF h2 (h.cw z hz) (h.byt z hz) (h.cnt z hz)
  · (try dsimp only)
    by_cases e : ln x = 0
    · rw [if_pos e]; omega
    · rw [if_neg e]; exact h.rp.list.le x hx e
  · (try dsimp only at hy)
    by_cases e : ln x = 0
    · rw [if_pos e] at hy; omega
    · rw [if_neg e] at hy; exact (h.rp.list.rows x hx e).2.1 y hy
theorem Nq19.same {Q : Nat → Bool} (h : Nq19 w2 sb W f k m n T B ln C va vc G V P) (hQ : ∀ x, x < n → (Q x = true ↔ ln x ≠ 0 ∧ ∃ z, z < T ∧ V x z ≠ G x z)) : cnb Q n = cnb P n ∧ fsel Q (fun j => j) n = fsel P (fun j => j) n := by
  have e : ∀ x, x < n → Q x = P x := fun x hx => by
    have h1 := hQ x hx
    have h2 := h.told x hx
    cases hq : Q x with
    | true => exact (h2.2 (h1.1 hq)).symm
    | false =>
      cases hp : P x with
      | false => rfl
      | true => rw [h1.2 (h2.1 hp)] at hq; cases hq
  exact ⟨cnb_congr e, fsel_congr e⟩
/-- Shards gives the codeword back. -/
theorem shards_nq19 {cs : Nat} (hcs : n ≤ cs) (hcb : cs ≤ big) (h : Nq19 w2 sb W f k m n T B ln C va vc G V P) :
    Calls Tryz.prog 5 #[.int .i64 (f : Int), .int .i64 (k : Int), .int .i64 (m : Int), .slice (some ⟨sb, 0, none⟩) n cs] W fun e W' => ∃ v, e = .returned (.tuple #[v, .int .i64 0]) ∧ Gj W.heap.size W' v (cnb P n) (fsel P (fun j => j) n) ∧ Below w2.heap.size w2 W' ∧ Ke (fun x => x = sb ∨ ∃ y, y < n ∧ ln y ≠ 0 ∧ x = B y) W W' ∧ ∃ R' C' G', Lwh19 W' sb n R' (fun _ => T) C' G' ∧ ∀ x, x < n → (∀ z, z < T → G' x z = V x z) ∧ (ln x ≠ 0 → R' x = B x ∧ C' x = C x) ∧ (ln x = 0 → W.heap.size ≤ R' x ∧ C' x = T) := by
  obtain ⟨v1, v2, v3, v4, v5, v6, v7⟩ := h.val
  obtain ⟨p1, p2, p3⟩ := part_yes19 v1 v2 v3 v4 v5 v6 h.rp.lens h.few
  refine (shards_okh19 f k m n T sb cs B ln C va vc G W v1 h.rp.list hcs hcb p1 p2 p3 v2 v3 v4 v5 v6 v7 h.rp.lens h.few).mono ?_
  rintro e W' (⟨v, F, rfl, hO⟩ | ⟨rfl, hb, y, hy, hno⟩)
  · have hcv : ∀ z, z < T → ∀ x, x < n → cv19 f k (F z) x = V x z := fun z hz => h.found hz (hO.pol z hz).1 (hO.pol z hz).2.1 (hO.pol z hz).2.2
    obtain ⟨Q, hG, hQ⟩ := hO.told
    obtain ⟨e1, e2⟩ := h.same (Q := Q) (fun x hx => by
      rw [hQ x hx]
      constructor
      · rintro ⟨h0, z, hz, h9⟩; exact ⟨h0, z, hz, by rw [← hcv z hz x hx]; exact h9⟩
      · rintro ⟨h0, z, hz, h9⟩; exact ⟨h0, z, hz, by rw [hcv z hz x hx]; exact h9⟩)
    rw [e1, e2] at hG
    obtain ⟨R', C', G', hL, hR⟩ := hO.list
    refine ⟨v, rfl, hG, h.rp.bel.trans (Ke.below hO.ke (fun x e => ?_) h.rp.bel.size), hO.ke, R', C', G', hL, fun x hx => ⟨fun z hz => by rw [(hR x hx).1 z hz, hcv z hz x hx], fun h0 => ⟨((hR x hx).2.1 h0).1, ((hR x hx).2.1 h0).2.1⟩, (hR x hx).2.2⟩⟩
    rcases e with e | ⟨y, hy, hy0, e⟩
    · have := h.rp.hs; omega
    · have := h.rp.lo y hy hy0; omega
  · exact absurd (beyond19 (f := f) (k := k) (m := m) (n := n) (z := y) (ln := ln) (G := G) (c := fun x => V x y) v1 v4 v5 hno (h.cw y hy) (h.byt y hy) (h.cnt y hy)) id
end
end Go.Proofs.YtlblkckglelbdaaGreat
