import Derived.Test.YtdaolpbpifppbaaGreatMjbz
namespace Go.Proofs.YtdaolpbpifppbaaGreat
open Go.RowKit Gf2
set_option linter.unusedVariables false

-- layer 17: McodeTells
/-- the flip at place x. -/
def fv17 (n : Nat) (F : Nat → Nat) (x : Nat) : Nat := if x < n ∧ F x ≠ 0 then F x else 1
/-- the shards behind j flips. -/
def fl17 (P : Nat → Bool) (n : Nat) (F : Nat → Nat) (at_ : Nat) (S : Nat → Nat → Nat) (j a t : Nat) : Nat := if t = at_ ∧ a < j ∧ P a = true then S a t ^^^ fv17 n F (ems P a).length else S a t
/-- what is added. -/
def fe17 (P : Nat → Bool) (n : Nat) (F : Nat → Nat) (at_ a t : Nat) : Nat := if t = at_ ∧ P a = true then fv17 n F (ems P a).length else 0
theorem fv17_ne {n : Nat} {F : Nat → Nat} {x : Nat} : fv17 n F x ≠ 0 := by
  unfold fv17
  split
  case isTrue h => exact h.2
  case isFalse h => decide
theorem fl17_fe {P : Nat → Bool} {n : Nat} {F : Nat → Nat} {at_ : Nat} {S : Nat → Nat → Nat} {j a t : Nat} (h : a < j) : fl17 P n F at_ S j a t = S a t ^^^ fe17 P n F at_ a t := by
  unfold fl17 fe17
  by_cases e : t = at_ ∧ P a = true
  · rw [if_pos ⟨e.1, h, e.2⟩, if_pos e]
  · rw [if_neg (fun x => e ⟨x.1, x.2.2⟩), if_neg e, Nat.xor_zero]
/-- Encode makes a codeword. -/
theorem enc_cw17 {f : Int} {k m l : Nat} {S : Nat → Nat → Nat} : Cw17 f k m 0 l (enc17 f k 0 l S) := fun r hr j h1 h2 => by
  show (if k ≤ k + r ∧ 0 ≤ j ∧ j < l then ks (par11 f k (k + r - k)) S k j else S (k + r) j) = _
  rw [if_pos ⟨by omega, by omega, h2⟩, show k + r - k = r by omega]
  refine ks_congr k (fun i hi => ⟨rfl, ?_⟩)
  show _ = if k ≤ i ∧ 0 ≤ j ∧ j < l then _ else S i j
  rw [if_neg (by omega)]
/-- what the four Verifies answer. -/
theorem tells_all17 {f : Int} {k m l at_ n : Nat} {S : Nat → Nat → Nat} {P : Nat → Bool} {F : Nat → Nat} (hf : f = 0 ∨ f = 1) (hk : 1 ≤ k) (hs : k + m ≤ 256) (hF : ∀ x, x < n → F x < 256) (hc : Cw17 f k m 0 l S) (hat : at_ < l) (hP : (ems P (k + m)).length ≤ m) (h1 : 1 ≤ (ems P (k + m)).length) :
    ¬ Cw17 f k m 0 l (fl17 P n F at_ S (k + m)) ∧ ¬ Cw17 f k m at_ (at_ + 1) (fl17 P n F at_ S (k + m)) ∧ Cw17 f k m 0 at_ (fl17 P n F at_ S (k + m)) ∧ Cw17 f k m (at_ + 1) l (fl17 P n F at_ S (k + m)) := by
  have hno : ¬ ∀ r, r < m → fl17 P n F at_ S (k + m) (k + r) at_ = ks (par11 f k r) (fl17 P n F at_ S (k + m)) k at_ := fun h => by
    refine tells17 (E := fe17 P n F at_) (t := at_) hf hs (fun r hr => hc r hr at_ (Nat.zero_le _) hat) (fun i hi => ?_) hP h1 (fun i hi hp => ?_) (fun i hi hp => ?_) (fun r hr => ?_)
    · unfold fe17 fv17
      split
      · split
        case isTrue hh => exact hF _ hh.1
        case isFalse hh => decide
      · decide
    · unfold fe17
      rw [if_neg (fun x => by rw [hp] at x; cases x.2)]
    · unfold fe17
      rw [if_pos ⟨rfl, hp⟩]
      exact fv17_ne
    · have := h r hr
      rw [fl17_fe (by omega)] at this
      rw [this]
      exact ks_congr k (fun i hi => ⟨rfl, fl17_fe (by omega)⟩)
  have hyes : ∀ j, j < l → j ≠ at_ → ∀ r, r < m → fl17 P n F at_ S (k + m) (k + r) j = ks (par11 f k r) (fl17 P n F at_ S (k + m)) k j := fun j hj hne r hr => by
    have e : ∀ a, fl17 P n F at_ S (k + m) a j = S a j := fun a => if_neg (fun x => hne x.1)
    rw [e, hc r hr j (Nat.zero_le _) hj]
    exact ks_congr k (fun i hi => ⟨rfl, (e i).symm⟩)
  exact ⟨fun h => hno (fun r hr => h r hr at_ (Nat.zero_le _) hat), fun h => hno (fun r hr => h r hr at_ (Nat.le_refl _) (Nat.lt_succ_self _)), fun r hr j h1 h2 => hyes j (by omega) (by omega) r hr, fun r hr j h1 h2 => hyes j h2 (by omega) r hr⟩
/-- what there is behind the first Verify. -/
structure Tl17 (W w2 w5 : World) (c : Nat) (f : Int) (k m b l : Nat) : Prop where
  cs : ∃ C B S, Cs w2.heap.size w5.heap.size w5 (.slice (some ⟨w2.heap.size, 0, none⟩) (k + m) (k + m)) (k + m) (fun _ => l) C B S ∧ Cw17 f k m 0 l S
  co : ∃ Fp, Cd w5 c Fp f k m b 0 [] ∧ ∀ x, Fp x → x < w2.heap.size
  bel : Below W.heap.size W w5
theorem wrap_sum17 {a b : Nat} (h : a + b ≤ 1000) : wrap64 ((a : Int) + (b : Int)) = ((a + b : Nat) : Int) := by unfold wrap64; omega
theorem wrap_pred17 {a : Nat} (h1 : 1 ≤ a) (h : a ≤ 1000) : wrap64 ((a : Int) - 1) = ((a - 1 : Nat) : Int) := by unfold wrap64; omega
set_option maxHeartbeats 1000000 in
set_option maxRecDepth 100000 in
theorem tells17_any (nF nB nK nM : Int) (da : Option Addr) (dn dc : Nat) (pa : Option Addr) (pn pc : Nat) (fa : Option Addr) (fn fc : Nat) (W : World) (hd : ∃ D, Rb W (.slice da dn dc) dn D) (hdn : dn ≤ 140737488351232) (hp : ∃ G, Qi W (.slice pa pn pc) pn G) (hfl : ∃ Fl, Rb W (.slice fa fn fc) fn Fl) (hfn : fn ≤ 140737488351232) :
    Calls Tryz.prog 6 #[.agg #[.int .i64 nF, .int .i64 nB, .int .i64 nK, .int .i64 nM], .slice da dn dc, .slice pa pn pc, .slice fa fn fc] W fun e w' => e = .returned (.bool true) ∧ Below W.heap.size W w' := by
  obtain ⟨D, hD⟩ := hd
  obtain ⟨G, hG⟩ := hp
  obtain ⟨Fl, hF⟩ := hfl
  have i1 := ino17_in (n := nK) (lo := 1) (hi := 20) (by decide) (by decide)
  have i2 := ino17_in (n := nM) (lo := 1) (hi := 12) (by decide) (by decide)
  have i3 := ino17_in (n := nF) (lo := 0) (hi := 1) (by decide) (by decide)
  obtain ⟨x, hx⟩ : ∃ x, x = W.alloc (.cells #[.int .i64 nF, .int .i64 nB, .int .i64 nK, .int .i64 nM] 23) := ⟨_, rfl⟩
  have hb0 : Below W.heap.size W x := by rw [hx]; exact (Below.refl _ _).alloc (Nat.le_refl _) _
  have hblk : x.heap[W.heap.size]? = some (.cells #[.int .i64 nF, .int .i64 nB, .int .i64 nK, .int .i64 nM] 23 (0, 0)) := by rw [hx]; exact heap_alloc_new _ _
  have HX : Hid (W.alloc (.cells #[.int .i64 nF, .int .i64 nB, .int .i64 nK, .int .i64 nM] 23) = x) := hx.symm
  have c1 := made17 nF nB nK nM x
  have z0 : x.cell? ⟨W.heap.size, 0, none⟩ = some (.int .i64 nF) := by rw [cell_of_row _ _ 0 _ _ _ hblk]; rfl
  have z1 : x.cell? ⟨W.heap.size, 1, none⟩ = some (.int .i64 nB) := by rw [cell_of_row _ _ 1 _ _ _ hblk]; rfl
  have z2 : x.cell? ⟨W.heap.size, 2, none⟩ = some (.int .i64 nK) := by rw [cell_of_row _ _ 2 _ _ _ hblk]; rfl
  have z3 : x.cell? ⟨W.heap.size, 3, none⟩ = some (.int .i64 nM) := by rw [cell_of_row _ _ 3 _ _ _ hblk]; rfl
  have hfam : (((ino17 nF 0 1 : Nat) : Int) = 0 ∨ ((ino17 nF 0 1 : Nat) : Int) = 1) := by omega
  generalize ino17 nK 1 20 = k at *
  generalize ino17 nM 1 12 = m at *
  generalize ((ino17 nF 0 1 : Nat) : Int) = f at *
  generalize ino17 nB 0 2 = b at *
  obtain ⟨l, hl⟩ : ∃ l, l = cul17 dn k := ⟨_, rfl⟩
  have hl2 := cul17_in dn k
  rw [← hl] at hl2
  -- the calls, one behind another
  have HC : Hid (∀ w1 c, Md17 x w1 c f k m b → ∀ w2, Below w1.heap.size w1 w2 →
      Calls Tryz.prog 12 #[.slice da dn dc, .int .i64 (k : Int), .int .i64 (m : Int), .int .i64 60] w2 fun e w3 => e = .returned (.slice (some ⟨w2.heap.size, 0, none⟩) (k + m) (k + m)) ∧
      Calls Tryz.prog 14 #[.pointer (some ⟨c, 0, none⟩), .slice (some ⟨w2.heap.size, 0, none⟩) (k + m) (k + m)] w3 fun e w4 => e = .returned (.int .i64 0) ∧
      Calls Tryz.prog 21 #[.pointer (some ⟨c, 0, none⟩), .slice (some ⟨w2.heap.size, 0, none⟩) (k + m) (k + m)] w4 fun e w5 => e = .returned (.tuple #[.bool true, .int .i64 0]) ∧ Tl17 W w2 w5 c f k m b l) := fun w1 c hM w2 b12 => by
    obtain ⟨⟨Fp, ⟨FT, p, lo, hi, rows, t, hC⟩, hFp⟩, b1⟩ := hM
    have bW1 := hb0.trans (b1.mono hb0.size)
    have bW2 := bW1.trans (b12.mono bW1.size)
    refine (cut17 (.slice da dn dc) dn k m D w2 (hD.below bW2) i1.1 (by omega) hdn).mono ?_
    rintro e w3 ⟨rfl, hT⟩
    refine ⟨rfl, ?_⟩
    rw [← hl] at hT
    have hcs := hT.cs (by unfold big; omega)
    have hz12 := b12.size
    have hd3 : ∀ y, Pb17 k m (fun i => w2.heap.size + 1 + i) y → ¬ Fp y := fun y ⟨r, hr, e⟩ hy => by
      have e' : y = w2.heap.size + 1 + (k + r) := e
      have := hFp y hy
      omega
    have hC3 := (hC.below b12).below hT.bel
    refine (Encode17 hC3 hcs hd3 hl2.1).mono ?_
    rintro e w4 ⟨rfl, hE⟩
    refine ⟨rfl, ?_⟩
    have hC4 := hC3.ke hE.ke hd3
    refine (Verify17 hC4 hE.cs.lb hl2.1 (by omega)).mono ?_
    rintro e w5 ⟨bo, rfl, hV⟩
    have hbo : bo = true := hV.yes.2 enc_cw17
    subst hbo
    refine ⟨rfl, ?_⟩
    have bW3 := bW2.trans (hT.bel.mono bW2.size)
    have hsW := bW2.size
    have bW4 := bW3.trans (hE.ke.below (B := W.heap.size) (fun y ⟨r, hr, e⟩ => by
      have e' : y = w2.heap.size + 1 + (k + r) := e
      omega) bW3.size)
    exact ⟨⟨_, _, _, (hE.cs.below hV.bel).wide (Nat.le_refl _) (Nat.le_trans hE.ke.size hV.bel.size) (Nat.le_refl _), enc_cw17⟩, ⟨Fp, ⟨_, _, _, _, _, _, hC4.below hV.bel⟩, fun y hy => by have := hFp y hy; omega⟩, bW4.trans (hV.bel.mono bW4.size)⟩
  have HI : Hid (1 ≤ k ∧ k ≤ 20 ∧ 1 ≤ m ∧ m ≤ 12 ∧ (f = 0 ∨ f = 1) ∧ 1 ≤ l ∧ l ≤ 60 ∧ Below W.heap.size W x ∧ Qi W (.slice pa pn pc) pn G ∧ Rb W (.slice fa fn fc) fn Fl ∧ fn ≤ 140737488351232 ∧ pn ≤ big) := ⟨i1.1, i1.2, i2.1, i2.2, hfam, hl2.1, hl2.2, hb0, hG, hF, hfn, hG.1⟩
  have c2 := fun w => awake17 w
  obtain ⟨km, hkm⟩ : ∃ km, km = k + m := ⟨_, rfl⟩
  obtain ⟨l1, hl1⟩ : ∃ l1, l1 = l - 1 := ⟨_, rfl⟩
  have HKm : Hid (km = k + m) := hkm
  have HL1 : Hid (l1 = l - 1) := hl1
  have c6 : ∀ y, Calls Tryz.prog 18 #[.int .i64 (pn : Int), .int .i64 1, .int .i64 (m : Int)] y fun e w' => e = .returned (.int .i64 (ino17 (pn : Int) 1 m : Nat)) ∧ w' = y := fun y => into17 (pn : Int) 1 m y i2.1 (by omega)
  have c8 : ∀ y, Calls Tryz.prog 18 #[.int .i64 (fn : Int), .int .i64 0, .int .i64 (l1 : Int)] y fun e w' => e = .returned (.int .i64 (ino17 (fn : Int) 0 l1 : Nat)) ∧ w' = y := fun y => into17 (fn : Int) 0 l1 y (Nat.zero_le _) (by omega)
  have HK : Hid (∀ w2 w5 c, Tl17 W w2 w5 c f k m b l → Calls Tryz.prog 17 #[.int .i64 (km : Int), .int .i64 (ino17 (pn : Int) 1 m : Nat), .slice pa pn pc] w5 fun e w' => e = .returned (.slice (some ⟨w5.heap.size, 0, none⟩) km km) ∧ w'.rowIs w5.heap.size 4 km (fun i => .bool (pk17 km (pg17 pn G) (ino17 (pn : Int) 1 m) i)) ∧ Below w5.heap.size w5 w') := fun w2 w5 c hT => by
    have h1 := ino17_in (n := (pn : Int)) (lo := 1) (hi := m) i2.1 (by omega)
    exact pick17 km (ino17 (pn : Int) 1 m) pn G (.slice pa pn pc) w5 (hG.below hT.bel) (by omega) (by omega) (by omega)
  have HQ : Hid (∀ w2 w5 c, Tl17 W w2 w5 c f k m b l → ∀ w6, Below w5.heap.size w5 w6 → ∃ B0 C0, w6.cell? ⟨w2.heap.size, 0, none⟩ = some (.slice (some ⟨B0, 0, none⟩) l C0)) := fun w2 w5 c hT w6 hb => by
    obtain ⟨C, B, S, h, -⟩ := hT.cs
    exact ⟨_, _, (h.below hb).at_ (i := 0) (by omega)⟩
  have hi0 : (0 : Int) < (k : Int) + (m : Int) := by omega
  have hs1 : k + m ≤ 1000 := by omega
  have hs2 : l ≤ 1000 := by omega
  have W2 : wrap64 ((k : Int) + (m : Int)) = (km : Int) := by rw [hkm]; exact wrap_sum17 hs1
  have HWk : Hid (wrap64 ((k : Int) + (m : Int)) = (km : Int)) := W2
  have W3 : wrap64 ((l : Int) - 1) = (l1 : Int) := by rw [hl1]; exact wrap_pred17 hl2.1 hs2
  clear hs1 hs2
  clear i1 i2 i3 hfam hl hl2 hb0 hblk hx hD hG hF hdn hfn hkm hl1
  go_enter Tryz.func6, Tryz.ntmps6
  go_wp2_with (first
    | (go_at_call 10; rw [HX.out]; (with_reducible refine c1.mono ?_); rintro e w1 ⟨c, rfl, hM⟩; clear c1 z0 z1 z2 z3)
    | (go_at_call 11; (with_reducible refine (c2 _).mono ?_); rintro e w2 ⟨rfl, hb2⟩; clear c2; have c3 := HC.out w1 c hM w2 hb2; have HW2 : Hid (W.heap.size ≤ w2.heap.size) := Nat.le_trans HI.out.2.2.2.2.2.2.2.1.size (Nat.le_trans hM.bel.size hb2.size); clear HC hM hb2)
    | (go_at_call 12; (with_reducible refine c3.mono ?_); rintro e w3 ⟨rfl, c4⟩; clear c3)
    | (go_at_call 14; (with_reducible refine c4.mono ?_); rintro e w4 ⟨rfl, c5⟩; clear c4)
    | (go_at_call 21; (with_reducible refine c5.mono ?_); rintro e w5 ⟨rfl, hT⟩; clear c5; have HT : Hid _ := hT; clear hT)
    | (go_at_call 18; (with_reducible refine (c6 _).mono ?_); rintro e w9 ⟨rfl, hw9⟩; have hw9 := hw9.symm; subst hw9; clear c6; have c7 := HK.out _ _ _ HT.out)
    | (go_at_call 17; (with_reducible refine c7.mono ?_); rintro e w6 ⟨rfl, hrow6, hb6⟩; clear c7; obtain ⟨B0, C0, q0⟩ := HQ.out _ _ _ HT.out w6 hb6; have HR6 : Hid (w6.rowIs w5.heap.size 4 km (fun i => .bool (pk17 km (pg17 pn G) (ino17 (pn : Int) 1 m) i)) ∧ Below w5.heap.size w5 w6) := ⟨hrow6, hb6⟩; clear hrow6 hb6)
    | (go_at_call 18; (with_reducible refine (c8 _).mono ?_); rintro e w9 ⟨rfl, hw9⟩; have hw9 := hw9.symm; subst hw9; clear c8 q0))
  clear W2 W3 hi0
  obtain ⟨at_, hat⟩ : ∃ at_, at_ = ino17 (fn : Int) 0 l1 := ⟨_, rfl⟩
  rw [← hat]
  have Hat : Hid (at_ < l) := by
    show at_ < l
    have := ino17_in (n := (fn : Int)) (lo := 0) (hi := l1) (Nat.zero_le _) (by have := HI.out; have := HL1.out; omega)
    have := HI.out
    have := HL1.out
    omega
  clear hat
  obtain ⟨P, hP⟩ : ∃ P, P = pk17 km (pg17 pn G) (ino17 (pn : Int) 1 m) := ⟨_, rfl⟩
  have HP : Hid (1 ≤ (ems P (k + m)).length ∧ (ems P (k + m)).length ≤ m) := by
    show 1 ≤ (ems P (k + m)).length ∧ (ems P (k + m)).length ≤ m
    have h1 := ino17_in (n := (pn : Int)) (lo := 1) (hi := m) HI.out.2.2.1 (by have := HI.out; omega)
    have h2 := HKm.out
    have h3 := HI.out
    rw [← h2, hP, pk17_len (by omega) _ (by omega)]
    exact h1
  rw [← hP] at HR6
  clear hP
  obtain ⟨⟨C, B, S, hcs5, hcw⟩, ⟨Fp, ⟨FT, p, lo, hi, rows, t, hCo5⟩, hFp⟩, bW5⟩ := HT.out
  have hcs6 := hcs5.below HR6.out.2
  have HS : Hid (Cs w2.heap.size w5.heap.size w6 (.slice (some ⟨w2.heap.size, 0, none⟩) (k + m) (k + m)) (k + m) (fun _ => l) C B S ∧ Cw17 f k m 0 l S ∧ Co w6 c Fp FT p lo hi rows t f k m b 0 [] ∧ (∀ x, Fp x → x < w2.heap.size) ∧ Below W.heap.size W w6 ∧ w2.heap.size ≤ w5.heap.size ∧ W.heap.size ≤ w2.heap.size) := ⟨hcs6, hcw, hCo5.below HR6.out.2, hFp, bW5.trans (HR6.out.2.mono bW5.size), by
    have := hcs5.at17 (by have := HI.out; omega)
    obtain ⟨g', cap', e, -, -, h1, h2, -⟩ := this
    omega, HW2.out⟩
  clear hcs5 hcw hCo5 hFp bW5 hcs6 HT HK HQ
  go_loopw [17, 18, 19] (fun s17 s18 s19 wr => ∃ j : Nat, j ≤ k + m ∧ s17 = .int .i64 ((ems P j).length : Nat) ∧ s18 = .int .i64 j ∧ Cs w2.heap.size w5.heap.size wr (.slice (some ⟨w2.heap.size, 0, none⟩) (k + m) (k + m)) (k + m) (fun _ => l) C B (fl17 P fn Fl at_ S j) ∧ Ke (fun x => ∃ i, i < k + m ∧ x = B i) w6 wr) (fun _ s18 _ _ => k + m - (intOf s18).toNat)
  case atStart => exact ⟨0, Nat.zero_le _, rfl, rfl, HS.out.1.congr (fun i hi t _ => by unfold fl17; rw [if_neg (fun x => Nat.not_lt_zero _ x.2.1)]), Ke.refl _ _⟩
  case round =>
    obtain ⟨j, hj, rfl, rfl, hcs, hke⟩ := hrel
    have hBin : ∀ x, (∃ i, i < k + m ∧ x = B i) → w2.heap.size ≤ x ∧ x < w5.heap.size := fun x ⟨i, hi, e⟩ => by
      obtain ⟨h1, h2, -⟩ := HS.out.1.row i hi
      subst e
      exact ⟨h1, h2⟩
    have bWr : Below W.heap.size W wr := HS.out.2.2.2.2.1.trans (hke.below (fun x e => by have := hBin x e; have := HS.out.2.2.2.2.2; omega) HS.out.2.2.2.2.1.size)
    by_cases hlt : j < k + m
    · have ib : ((j : Nat) : Int) < (km : Int) := by have := HKm.out; omega
      have ib2 : ((j : Nat) : Int) < (k : Int) + (m : Int) := by omega
      have HJ : Hid (j < k + m ∧ k + m ≤ 256) := ⟨hlt, by have := HI.out; omega⟩
      have qo : wr.cell? ⟨w5.heap.size, j, none⟩ = some (.bool (P j)) := (hke.cell HR6.out.1.lt (fun e => by have := hBin _ e; omega)).trans (HR6.out.1.cell (by have := HKm.out; omega))
      cases hPj : P j
      · rw [hPj] at qo
        have HE : Hid (Cs w2.heap.size w5.heap.size wr (.slice (some ⟨w2.heap.size, 0, none⟩) (k + m) (k + m)) (k + m) (fun _ => l) C B (fl17 P fn Fl at_ S (j + 1)) ∧ Ke (fun x => ∃ i, i < k + m ∧ x = B i) w6 wr) := ⟨hcs.congr (fun i hi t _ => by
          unfold fl17
          by_cases e : t = at_ ∧ i < j ∧ P i = true
          · rw [if_pos e, if_pos ⟨e.1, by omega, e.2.2⟩]
          · rw [if_neg e, if_neg (fun x => by
              rcases Nat.lt_or_ge i j with h | h
              · exact e ⟨x.1, h, x.2.2⟩
              · have hij : i = j := by omega
                rw [hij, hPj] at x
                cases x.2.2)]), hke⟩
        have HQ : Hid ((ems P (j + 1)).length = (ems P j).length) := by show _ = _; rw [ems_no hPj]
        have W1 := wrap_succ8 (j := j) (by have := HJ.out; unfold big; omega)
        clear hcs hke hPj bWr hBin
        have W2 : wrap64 ((k : Int) + (m : Int)) = (km : Int) := HWk.out
        go_wp2
        go_roundw
        case rel => exact ⟨j + 1, HJ.out.1, by rw [HQ.out], by first | rfl | (rw [W1]; rfl), HE.out.1, HE.out.2⟩
        case measure => first | exact meas_lt8 HJ.out.1 | (rw [W1]; exact meas_lt8 HJ.out.1)
      · rw [hPj] at qo
        obtain ⟨xq, hxq⟩ : ∃ xq, xq = (ems P j).length := ⟨_, rfl⟩
        have hxj : xq ≤ j := by rw [hxq]; exact ems_le P j
        have q1 := hcs.at_ hlt
        have hat := Hat.out
        have hrow := (hcs.row j hlt).2.2.2
        have hlC := (hcs.row j hlt).2.2.1
        have q2 := hrow.2.2.cell (i := at_) (by have : l ≤ C j := hlC; omega)
        have q3 := hrow.2.2.frozen at_
        have q2' : fl17 P fn Fl at_ S j j at_ = S j at_ := if_neg (fun x => Nat.lt_irrefl _ x.2.1)
        have hS256 : S j at_ < 256 := by rw [← q2']; exact hrow.2.1 _ (by have : l ≤ C j := hlC; omega)
        rw [q2'] at q2
        have ia : ((at_ : Nat) : Int) < (l : Int) := by omega
        have HQ : Hid ((ems P (j + 1)).length = xq + 1) := by show _ = _; rw [ems_len_yes hPj, hxq]
        have HEv : Hid (∀ y, y = fv17 fn Fl xq → y < 256 → Cs w2.heap.size w5.heap.size (wr.setCell ⟨B j, at_, none⟩ (.int .u8 ((S j at_ ^^^ y : Nat) : Int))) (.slice (some ⟨w2.heap.size, 0, none⟩) (k + m) (k + m)) (k + m) (fun _ => l) C B (fl17 P fn Fl at_ S (j + 1)) ∧ Ke (fun x => ∃ i, i < k + m ∧ x = B i) w6 (wr.setCell ⟨B j, at_, none⟩ (.int .u8 ((S j at_ ^^^ y : Nat) : Int)))) := fun y hy hy256 => by
          refine ⟨(hcs.set hlt at_ (S j at_ ^^^ y) (Nat.xor_lt_two_pow (n := 8) hS256 hy256)).congr (fun i hi t _ => ?_), hke.trans ((((Only.refl (B j) wr).setCell at_ _).kp.ke).mono (fun x _ e => ⟨j, hlt, e⟩))⟩
          show (if i = j ∧ t = at_ then S j at_ ^^^ y else fl17 P fn Fl at_ S j i t) = fl17 P fn Fl at_ S (j + 1) i t
          unfold fl17
          by_cases e : i = j ∧ t = at_
          · rw [if_pos e, if_pos ⟨e.2, by omega, by rw [e.1]; exact hPj⟩, e.1, e.2, ← hxq, hy]
          · rw [if_neg e]
            by_cases e2 : t = at_ ∧ i < j ∧ P i = true
            · rw [if_pos e2, if_pos ⟨e2.1, by omega, e2.2.2⟩]
            · rw [if_neg e2, if_neg (fun x => by
                rcases Nat.lt_or_ge i j with h | h
                · exact e2 ⟨x.1, h, x.2.2⟩
                · exact e ⟨by omega, x.1⟩)]
        rw [← hxq]
        obtain ⟨sv, hsv⟩ : ∃ sv, sv = S j at_ := ⟨_, rfl⟩
        rw [← hsv] at q2 hS256 HEv
        have HW1 : Hid _ := wrap_succ8 (j := j) (by have := HJ.out; unfold big; omega)
        have HWx : Hid _ := wrap_succ8 (j := xq) (by have := HJ.out; unfold big; omega)
        obtain ⟨-, hF256, a', c', e', -, -, h4⟩ := HI.out.2.2.2.2.2.2.2.2.2.1.below bWr
        cases e'
        clear hcs hke hPj hBin hxq hrow hlC q2' hsv hat
        by_cases hx1 : xq < fn
        · obtain ⟨fb, fo, rfl, -, hfc⟩ := h4 (by omega)
          have qf := hfc xq hx1
          have ix : ((xq : Nat) : Int) < (fn : Int) := by omega
          by_cases hx2 : Fl xq = 0
          · have HE := HEv.out 1 (by unfold fv17; rw [if_neg (fun x => x.2 hx2)]) (by decide)
            have X1 : bits .xor .u8 (sv : Int) 1 = ((sv ^^^ 1 : Nat) : Int) := u8_xor_nat sv 1 hS256 (by decide)
            rw [hx2] at qf
            clear HEv h4 hfc hF256 hx2 bWr
            have HH : Hid _ := HE
            clear HE hS256
            have W1 := HW1.out
            have Wx := HWx.out
            have W2 : wrap64 ((k : Int) + (m : Int)) = (km : Int) := HWk.out
            go_wp2
            go_roundw
            case rel => exact ⟨j + 1, HJ.out.1, by rw [HQ.out]; first | rfl | (rw [Wx]; rfl), by first | rfl | (rw [W1]; rfl), by first | exact HH.out.1 | (rw [X1]; exact HH.out.1), by first | exact HH.out.2 | (rw [X1]; exact HH.out.2)⟩
            case measure => first | exact meas_lt8 HJ.out.1 | (rw [W1]; exact meas_lt8 HJ.out.1)
          · have HE := HEv.out (Fl xq) (by unfold fv17; rw [if_pos ⟨hx1, hx2⟩]) (hF256 xq hx1)
            have X1 := u8_xor_nat sv (Fl xq) hS256 (hF256 xq hx1)
            have hx3 : ¬ (Fl xq = 0) := hx2
            have hx4 : ((Fl xq : Nat) : Int) ≠ 0 := by omega
            have hx5 : (((Fl xq : Nat) : Int) != 0) = true := bne_iff_ne.2 hx4
            clear HEv h4 hfc hF256 bWr
            have HH : Hid _ := HE
            clear HE hS256
            have W1 := HW1.out
            have Wx := HWx.out
            have W2 : wrap64 ((k : Int) + (m : Int)) = (km : Int) := HWk.out
            go_wp2
            go_roundw
            case rel => exact ⟨j + 1, HJ.out.1, by rw [HQ.out]; first | rfl | (rw [Wx]; rfl), by first | rfl | (rw [W1]; rfl), by first | exact HH.out.1 | (rw [X1]; exact HH.out.1), by first | exact HH.out.2 | (rw [X1]; exact HH.out.2)⟩
            case measure => first | exact meas_lt8 HJ.out.1 | (rw [W1]; exact meas_lt8 HJ.out.1)
        · have HE := HEv.out 1 (by unfold fv17; rw [if_neg (fun x => hx1 x.1)]) (by decide)
          have X1 : bits .xor .u8 (sv : Int) 1 = ((sv ^^^ 1 : Nat) : Int) := u8_xor_nat sv 1 hS256 (by decide)
          clear HEv h4 hF256 bWr
          have HH : Hid _ := HE
          clear HE hS256
          have W1 := HW1.out
          have Wx := HWx.out
          have W2 : wrap64 ((k : Int) + (m : Int)) = (km : Int) := HWk.out
          go_wp2
          go_roundw
          case rel => exact ⟨j + 1, HJ.out.1, by rw [HQ.out]; first | rfl | (rw [Wx]; rfl), by first | rfl | (rw [W1]; rfl), by first | exact HH.out.1 | (rw [X1]; exact HH.out.1), by first | exact HH.out.2 | (rw [X1]; exact HH.out.2)⟩
          case measure => first | exact meas_lt8 HJ.out.1 | (rw [W1]; exact meas_lt8 HJ.out.1)
    · obtain rfl : j = k + m := by omega
      have hends := tells_all17 (n := fn) (F := Fl) HI.out.2.2.2.2.1 HI.out.1 (by have := HI.out; omega) HI.out.2.2.2.2.2.2.2.2.2.1.2.1 HS.out.2.1 Hat.out HP.out.2 HP.out.1
      have hCo : Co wr c Fp FT p lo hi rows t f k m b 0 [] := HS.out.2.2.1.ke hke (fun x e hx => by have := hBin x e; have := HS.out.2.2.2.1 x hx; omega)
      have hl60 : l ≤ 140737488351232 := by have := HI.out; omega
      have d1 : Calls Tryz.prog 21 #[.pointer (some ⟨c, 0, none⟩), .slice (some ⟨w2.heap.size, 0, none⟩) (k + m) (k + m)] wr fun e w' => e = .returned (.tuple #[.bool false, .int .i64 0]) ∧ Below wr.heap.size wr w' := (Verify17 hCo hcs.lb HI.out.2.2.2.2.2.1 hl60).mono (fun e w' ⟨bo, he, hV⟩ => by
        cases bo with
        | true => exact absurd (hV.yes.1 rfl) hends.1
        | false => exact ⟨he, hV.bel⟩)
      have d2 : ∀ y, Below wr.heap.size wr y → Calls Tryz.prog 22 #[.pointer (some ⟨c, 0, none⟩), .slice (some ⟨w2.heap.size, 0, none⟩) (k + m) (k + m), .agg #[.int .i64 (at_ : Int), .int .i64 ((at_ : Int) + 1)]] y fun e w' => e = .returned (.tuple #[.bool false, .int .i64 0]) ∧ Below wr.heap.size wr w' := fun y hb => (VerifySpan17 (fr := at_) (tq := at_ + 1) (hCo.below hb) (hcs.lb.below hb) HI.out.2.2.2.2.2.1 hl60 (Nat.le_succ _) Hat.out).mono (fun e w' ⟨bo, he, hV⟩ => by
        cases bo with
        | true => exact absurd (hV.yes.1 rfl) hends.2.1
        | false => exact ⟨he, hb.trans (hV.bel.mono hb.size)⟩)
      have d3 : ∀ y, Below wr.heap.size wr y → Calls Tryz.prog 22 #[.pointer (some ⟨c, 0, none⟩), .slice (some ⟨w2.heap.size, 0, none⟩) (k + m) (k + m), .agg #[.int .i64 0, .int .i64 (at_ : Int)]] y fun e w' => e = .returned (.tuple #[.bool true, .int .i64 0]) ∧ Below wr.heap.size wr w' := fun y hb => (VerifySpan17 (fr := 0) (tq := at_) (hCo.below hb) (hcs.lb.below hb) HI.out.2.2.2.2.2.1 hl60 (Nat.zero_le _) (Nat.le_of_lt Hat.out)).mono (fun e w' ⟨bo, he, hV⟩ => by
        cases bo with
        | true => exact ⟨he, hb.trans (hV.bel.mono hb.size)⟩
        | false => exact absurd (hV.yes.2 hends.2.2.1) (by decide))
      have d4 : ∀ y, Below wr.heap.size wr y → Calls Tryz.prog 22 #[.pointer (some ⟨c, 0, none⟩), .slice (some ⟨w2.heap.size, 0, none⟩) (k + m) (k + m), .agg #[.int .i64 ((at_ : Int) + 1), .int .i64 (l : Int)]] y fun e w' => e = .returned (.tuple #[.bool true, .int .i64 0]) ∧ Below wr.heap.size wr w' := fun y hb => (VerifySpan17 (fr := at_ + 1) (tq := l) (hCo.below hb) (hcs.lb.below hb) HI.out.2.2.2.2.2.1 hl60 Hat.out (Nat.le_refl _)).mono (fun e w' ⟨bo, he, hV⟩ => by
        cases bo with
        | true => exact ⟨he, hb.trans (hV.bel.mono hb.size)⟩
        | false => exact absurd (hV.yes.2 hends.2.2.2) (by decide))
      have qz := hcs.at_ (i := 0) (by have := HI.out; omega)
      have Hqz : Hid (∀ y, Below wr.heap.size wr y → y.cell? ⟨w2.heap.size, 0, none⟩ = some (.slice (some ⟨B 0, 0, none⟩) l (C 0))) := fun y hb => (hcs.below hb).at_ (i := 0) (by have := HI.out; omega)
      have HB : Hid (Below W.heap.size W wr) := bWr
      have hi0 : (0 : Int) < (k : Int) + (m : Int) := by have := HI.out; omega
      have hn0 : ¬ ((k : Int) + (m : Int) < (km : Int)) := by have := HKm.out; omega
      have htn : ¬ ((k + m : Nat) : Int) < (km : Int) := by have := HKm.out; omega
      have W1 := wrap_succ8 (j := at_) (by have := Hat.out; have := HI.out; unfold big; omega)
      clear hcs hke hBin hCo bWr hends qz
      have W2 : wrap64 ((k : Int) + (m : Int)) = (km : Int) := HWk.out
      go_wp2_with (first
        | (go_at_call 21; (with_reducible refine d1.mono ?_); rintro e y1 ⟨rfl, hb1⟩; clear d1)
        | (go_at_call 22; (with_reducible refine (d2 _ hb1).mono ?_); rintro e y2 ⟨rfl, hb2⟩; clear d2 hb1)
        | (go_at_call 22; (with_reducible refine (d3 _ hb2).mono ?_); rintro e y3 ⟨rfl, hb3⟩; clear d3 hb2; have q0 := Hqz.out y3 hb3)
        | (go_at_call 22; (with_reducible refine (d4 _ hb3).mono ?_); rintro e y4 ⟨rfl, hb4⟩; clear d4 hb3 q0))
      go_ret
      exact ⟨rfl, HB.out.trans (hb4.mono HB.out.size)⟩
end Go.Proofs.YtdaolpbpifppbaaGreat
