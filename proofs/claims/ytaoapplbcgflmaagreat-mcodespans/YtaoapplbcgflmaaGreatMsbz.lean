import Derived.Test.YtaoapplbcgflmaaGreatMsbx
import Derived.Test.YtaoapplbcgflmaaGreatMsby
import Derived.Test.YtaoapplbcgflmaaGreatMsbw
namespace Go.Proofs.YtaoapplbcgflmaaGreat
open Go.RowKit Gf2
set_option linter.unusedVariables false

-- layer 17: McodeSpans, what is laid
structure Sm17 (W w2 w3 w4 w5 w6 w9 w10 w11 : World) (c : Nat) (f : Int) (k m b l at_ : Nat) (S0 : Nat → Nat → Nat) : Prop where
  ss : ∃ C B, Cs w2.heap.size w3.heap.size w11 (.slice (some ⟨w2.heap.size, 0, none⟩) (k + m) (k + m)) (k + m) (fun _ => l) C B S0
  lo : Sp17 w11 w3.heap.size 0 at_
  hi : Sp17 w11 w4.heap.size at_ l
  aa : ∃ C B T, Cs w5.heap.size w6.heap.size w11 (.slice (some ⟨w5.heap.size, 0, none⟩) (k + m) (k + m)) (k + m) (fun _ => l) C B T ∧ (∀ i, i < k + m → ∀ t, t < l → T i t = S0 i t) ∧ w11.rowIs w5.heap.size 27 (k + m) (fun i => .slice (some ⟨B i, 0, none⟩) l (C i))
  fr : Ll (fun x => x < w6.heap.size ∨ w9.heap.size ≤ x) w11 (.slice (some ⟨w6.heap.size, 0, none⟩) k k) k (fun i => if decide (i = k - 1) = true then l else 0) (fun _ => S0 k)
  uu : ∃ C B T, Cs w9.heap.size w10.heap.size w11 (.slice (some ⟨w9.heap.size, 0, none⟩) (k + m) (k + m)) (k + m) (fun _ => l) C B T ∧ ∀ i, i < k + m → ∀ t, t < l → T i t = S0 i t
  vv : ∃ C B T, Cs w10.heap.size w11.heap.size w11 (.slice (some ⟨w10.heap.size, 0, none⟩) (k + m) (k + m)) (k + m) (fun _ => l) C B T ∧ ∀ i, i < k + m → ∀ t, t < l → T i t = S0 i t
  co : ∃ Fp, Cd w11 c Fp f k m b 0 [] ∧ ∀ x, Fp x → W.heap.size ≤ x ∧ x < w2.heap.size
  bel : Below W.heap.size W w11
  sz : W.heap.size ≤ w2.heap.size ∧ w2.heap.size ≤ w3.heap.size ∧ w4.heap.size = w3.heap.size + 1 ∧ w5.heap.size = w4.heap.size + 1 ∧ w5.heap.size ≤ w6.heap.size ∧ w6.heap.size < w9.heap.size ∧ w9.heap.size ≤ w10.heap.size ∧ w10.heap.size ≤ w11.heap.size
set_option maxHeartbeats 4000000 in
theorem spans_a17 {W x w1 w2 : World} {c : Nat} {f : Int} {k m b l at_ kp : Nat} {da : Option Addr} {dn dc : Nat} {D : Nat → Nat} (hb0 : Below W.heap.size W x) (hD : Rb W (.slice da dn dc) dn D) (hdn : dn ≤ 140737488351232)
    (k1 : 1 ≤ k) (k2 : k ≤ 20) (m1 : 1 ≤ m) (m2 : m ≤ 12) (hl : l = cul17 dn k) (hkp : kp = k - 1) (hM : Md17 x w1 c f k m b) (b12 : Below w1.heap.size w1 w2) :
    Calls Tryz.prog 11 #[.slice da dn dc, .int .i64 (k : Int), .int .i64 (m : Int), .int .i64 60] w2 fun e w3 => e = .returned (.slice (some ⟨w2.heap.size, 0, none⟩) (k + m) (k + m)) ∧ (∃ g, w3.cell? ⟨w2.heap.size, 0, none⟩ = some (.slice (some ⟨g, 0, none⟩) l l)) ∧
    ∀ w4, w3.alloc (.cells #[.int .i64 0, .int .i64 (at_ : Int)] 48) = w4 → ∀ w5, w4.alloc (.cells #[.int .i64 (at_ : Int), .int .i64 (l : Int)] 48) = w5 →
    Calls Tryz.prog 12 #[.slice (some ⟨w2.heap.size, 0, none⟩) (k + m) (k + m)] w5 fun e w6 => e = .returned (.slice (some ⟨w5.heap.size, 0, none⟩) (k + m) (k + m)) ∧
    ∀ w7, w6.alloc (.cells (madeCells #[.slice none 0 0] k) 27) = w7 →
    w7.heap.size = w6.heap.size + 1 ∧ ∃ gk ck w8 g cf, (w7.alloc (.cells #[] 5)).cell? ⟨w2.heap.size, k, none⟩ = some (.slice (some ⟨gk, 0, none⟩) l ck) ∧
      (Builtin.append_ #[27, 27] 27 #[.slice (some ⟨w7.heap.size, 0, none⟩) 0 0, .slice (some ⟨gk, 0, none⟩) l ck]).run Tryz.prog (w7.alloc (.cells #[] 5)) = .ok (.slice (some ⟨g, 0, none⟩) l cf) w8 ∧
      w8.cell? ⟨w6.heap.size, kp, none⟩ = some (.slice none 0 0) ∧ w8.frozen? ⟨w6.heap.size, kp, none⟩ = false ∧
      ∀ w9, w8.setCell ⟨w6.heap.size, kp, none⟩ (.slice (some ⟨g, 0, none⟩) l cf) = w9 →
    Calls Tryz.prog 12 #[.slice (some ⟨w2.heap.size, 0, none⟩) (k + m) (k + m)] w9 fun e w10 => e = .returned (.slice (some ⟨w9.heap.size, 0, none⟩) (k + m) (k + m)) ∧
    Calls Tryz.prog 12 #[.slice (some ⟨w2.heap.size, 0, none⟩) (k + m) (k + m)] w10 fun e w11 => e = .returned (.slice (some ⟨w10.heap.size, 0, none⟩) (k + m) (k + m)) ∧ Sm17 W w2 w3 w4 w5 w6 w9 w10 w11 c f k m b l at_ (cuv17 dn k D) := by
  obtain ⟨⟨Fp, ⟨FT, p, lo, hi, rows, t, hC⟩, hFp⟩, b1⟩ := hM
  have hl2 := cul17_in dn k
  rw [← hl] at hl2
  have bW1 := hb0.trans (b1.mono hb0.size)
  have bW2 := bW1.trans (b12.mono bW1.size)
  have hz12 := b12.size
  have hsW := bW2.size
  have hzb := hb0.size
  refine (cut17 (.slice da dn dc) dn k m D w2 (hD.below bW2) k1 (by omega) hdn).mono ?_
  rintro e w3 ⟨rfl, hT⟩
  rw [← hl] at hT
  have hcs := hT.cs (by unfold big; omega)
  refine ⟨rfl, ⟨_, hcs.at_ (by omega)⟩, fun w4 hw4 w5 hw5 => ?_⟩
  have bW3 := bW2.trans (hT.bel.mono bW2.size)
  have h23 := hT.bel.size
  have hs4 := sp17_new w3 0 at_
  have e4 : w3.alloc (.cells #[.int .i64 (0 : Int), .int .i64 (at_ : Int)] 48) = w4 := hw4
  rw [e4] at hs4
  have h34 : w4.heap.size = w3.heap.size + 1 := by rw [← hw4]; simp
  have hs5 := sp17_new w4 at_ l
  rw [hw5] at hs5
  have h45 : w5.heap.size = w4.heap.size + 1 := by rw [← hw5]; simp
  have b35 := hs4.2.trans (hs5.2.mono (by omega))
  have bW5 := bW3.trans (b35.mono bW3.size)
  have hcs5 := hcs.below b35
  have hC5 := ((hC.below b12).below hT.bel).below b35
  refine (copied17 _ (k + m) (fun _ => l) (cuv17 dn k D) w5 hcs5.lb (by omega) (fun _ _ => by show l ≤ _; omega)).mono ?_
  rintro e w6 ⟨rfl, hQ6⟩
  refine ⟨rfl, fun w7 hw7 => ?_⟩
  obtain ⟨Ca, Ba, Ta, ha6, ha6e, ha6r⟩ := hQ6.cs
  have h56 := hQ6.bel.size
  have bW6 := bW5.trans (hQ6.bel.mono bW5.size)
  have b67 : Below w6.heap.size w6 w7 := by rw [← hw7]; exact (Below.refl _ _).alloc (Nat.le_refl _) _
  have h67 : w7.heap.size = w6.heap.size + 1 := by rw [← hw7]; simp
  have hf7 : w7.rowIs w6.heap.size 27 k (fun _ => .slice none 0 0) := by rw [← hw7]; exact World.rowIs_made w6 (.slice none 0 0) k 27
  have hx6 := hcs5.below hQ6.bel
  have hx7 := hx6.below b67
  have hxr := hx7.row k (by omega)
  have hxa := hx7.at_ (i := k) (by omega)
  have hrk : Rb w7 (.slice (some ⟨w2.heap.size + 1 + k, 0, none⟩) l l) l (cuv17 dn k D k) := (hxr.2.2.2.re (E := fun _ => False) hxr.2.2.1 hxr.2.2.1 hxr.2.2.2.1 (fun e => e)).rb
  obtain ⟨w8, g, cf, F, hrun, hC8, hg, hg1, hR, hF, hb8⟩ := copy_app w7 hrk (by omega)
  have hf8 := hf7.of_block (hb8.block _ (by omega))
  have hbx : Below w7.heap.size w7 (w7.alloc (.cells #[] 5)) := (Below.refl _ _).alloc (Nat.le_refl _) _
  refine ⟨h67, _, _, w8, g, cf, (hbx.cell (p := ⟨w2.heap.size, k, none⟩) (by show w2.heap.size < _; omega)).trans hxa, hrun, hf8.cell (by omega), hf8.frozen _, fun w9 hw9 => ?_⟩
  have o9 : Only w6.heap.size w8 w9 := by rw [← hw9]; exact (Only.refl _ _).setCell _ _
  have h78 := hb8.size
  have h89 := o9.2.1
  have hf9 : w9.rowIs w6.heap.size 27 k (fun i => if i = kp then .slice (some ⟨g, 0, none⟩) l cf else .slice none 0 0) := by rw [← hw9]; exact hf8.set kp _
  have hR9 := o9.rw_ hR (by omega)
  have gl := hR9.lt
  have k69 : Ke (fun x => x = w6.heap.size) w6 w9 := ((ke_below b67 _).trans (ke_below hb8 _)).trans o9.kp.ke
  have bW9 := bW6.trans (k69.below (B := W.heap.size) (fun x e => by omega) bW6.size)
  have hx9 := hx6.keep k69 (fun x a b e => by omega)
  have ha9 := ha6.keep k69 (fun x a b e => by omega)
  have har9 := ha6r.of_block (k69.2 _ ha6r.lt (by have := ha6r.lt; omega))
  have hC9 := (hC5.below hQ6.bel).ke k69 (fun x e hx => by have := hFp x hx; omega)
  have lo9 := ((hs4.1.below hs5.2).below hQ6.bel).ke k69 (fun e => by omega)
  have hi9 := (hs5.1.below hQ6.bel).ke k69 (fun e => by omega)
  have hfr : Ll (fun x => x < w6.heap.size ∨ w9.heap.size ≤ x) w9 (.slice (some ⟨w6.heap.size, 0, none⟩) k k) k (fun i => if decide (i = k - 1) = true then l else 0) (fun _ => cuv17 dn k D k) := by
    refine ⟨_, ⟨by unfold big; omega, _, _, rfl, Nat.le_refl _, by unfold big; omega, fun _ => ⟨_, _, rfl, ⟨hf9.lt, fun e => by omega⟩, fun i hi => by rw [Nat.zero_add]; exact hf9.cell hi⟩⟩, fun i hi => ?_⟩
    dsimp only
    by_cases e : i = kp
    · rw [if_pos e, if_pos (decide_eq_true (by omega))]
      exact (hR9.re hC8 hC8 hR9.1 (by omega)).congr (fun t ht => hF t ht)
    · rw [if_neg e, if_neg (by simp; omega)]
      exact ⟨by unfold big; omega, fun t ht => absurd ht (Nat.not_lt_zero _), _, _, rfl, Nat.le_refl _, by unfold big; omega, fun h0 => absurd h0 (Nat.lt_irrefl _)⟩
  refine (copied17 _ (k + m) (fun _ => l) (cuv17 dn k D) w9 hx9.lb (by omega) (fun _ _ => by show l ≤ _; omega)).mono ?_
  rintro e w10 ⟨rfl, hQ10⟩
  refine ⟨rfl, ?_⟩
  obtain ⟨Cu, Bu, Tu, hu10, hu10e, -⟩ := hQ10.cs
  have h910 := hQ10.bel.size
  have hx10 := hx9.below hQ10.bel
  refine (copied17 _ (k + m) (fun _ => l) (cuv17 dn k D) w10 hx10.lb (by omega) (fun _ _ => by show l ≤ _; omega)).mono ?_
  rintro e w11 ⟨rfl, hQ11⟩
  obtain ⟨Cv, Bv, Tv, hv11, hv11e, -⟩ := hQ11.cs
  have h1011 := hQ11.bel.size
  have b911 := hQ10.bel.trans (hQ11.bel.mono h910)
  have kf : Ke (fun x => x < w6.heap.size ∨ w9.heap.size ≤ x) w9 w11 := ke_below b911 _
  exact ⟨rfl, ⟨_, _, hx10.below hQ11.bel⟩, lo9.below b911, hi9.below b911, ⟨_, _, _, ha9.below b911, ha6e, har9.of_block (b911.block _ har9.lt)⟩, hfr.ke kf, ⟨_, _, _, hu10.below hQ11.bel, hu10e⟩, ⟨_, _, _, hv11, hv11e⟩, ⟨Fp, ⟨_, _, _, _, _, _, hC9.below b911⟩, fun x hx => by have := hFp x hx; exact ⟨by omega, by omega⟩⟩, bW9.trans (b911.mono bW9.size), by omega, h23, h34, h45, h56, by omega, h910, h1011⟩
end Go.Proofs.YtaoapplbcgflmaaGreat
namespace Go.Proofs.YtaoapplbcgflmaaGreat
open Go.RowKit Gf2
set_option linter.unusedVariables false

-- layer 17: McodeSpans, Encode and Update by spans
theorem enc_congr17 {f : Int} {k fr tq n l : Nat} {S T : Nat → Nat → Nat} (hk : k ≤ n) (h : ∀ i, i < n → ∀ t, t < l → T i t = S i t) {i t : Nat} (hi : i < n) (ht : t < l) : enc17 f k fr tq T i t = enc17 f k fr tq S i t := by
  unfold enc17
  rw [h i hi t ht, ks_congr k (fun a ha => ⟨rfl, h a (by omega) t ht⟩)]
theorem upx_congr17 {f : Int} {k fr tq n l x : Nat} {Q : Nat → Bool} {S T Fr Gr : Nat → Nat → Nat} (hk : k ≤ n) (h : ∀ i, i < n → ∀ t, t < l → T i t = S i t) (hF : ∀ i, i < k → ∀ t, t < l → Fr i t = Gr i t) (hx : x ≤ (ems Q k).length) {i t : Nat} (hi : i < n) (ht : t < l) : upx17 f k fr tq Q T Fr x i t = upx17 f k fr tq Q S Gr x i t := by
  unfold upx17
  rw [h i hi t ht, uq_congr17 f k Q T S Fr Gr (i - k) t (fun a ha _ => ⟨h a (by omega) t ht, hF a ha t ht⟩) _ hx]
/-- what there is ahead of the loop that takes shards away. -/
structure Sn17 (W w2 w3 w4 w5 w6 y6 x7 : World) (c : Nat) (f : Int) (k m b l at_ : Nat) (S0 : Nat → Nat → Nat) (P : Nat → Bool) : Prop where
  ss : ∃ C B, Cs w2.heap.size w3.heap.size x7 (.slice (some ⟨w2.heap.size, 0, none⟩) (k + m) (k + m)) (k + m) (fun _ => l) C B (enc17 f k 0 l S0)
  lo : Sp17 x7 w3.heap.size 0 at_
  hi : Sp17 x7 w4.heap.size at_ l
  aa : ∃ C B T, Cs w5.heap.size w6.heap.size x7 (.slice (some ⟨w5.heap.size, 0, none⟩) (k + m) (k + m)) (k + m) (fun _ => l) C B T ∧ (∀ i, i < k + m → ∀ t, t < l → T i t = enc17 f k 0 l S0 i t) ∧ x7.rowIs w5.heap.size 27 (k + m) (fun i => .slice (some ⟨B i, 0, none⟩) l (C i))
  pp : x7.rowIs y6.heap.size 4 (k + m) (fun i => .bool (P i))
  co : ∃ Fp, Cd x7 c Fp f k m b 0 [] ∧ ∀ x, Fp x → W.heap.size ≤ x ∧ x < w2.heap.size
  bel : Below W.heap.size W x7
  sz : W.heap.size ≤ w2.heap.size ∧ w2.heap.size ≤ w3.heap.size ∧ w4.heap.size = w3.heap.size + 1 ∧ w5.heap.size = w4.heap.size + 1 ∧ w5.heap.size ≤ w6.heap.size ∧ w6.heap.size ≤ y6.heap.size ∧ y6.heap.size < x7.heap.size
set_option maxHeartbeats 4000000 in
theorem spans_b17 {W w2 w3 w4 w5 w6 w9 w10 w11 : World} {c : Nat} {f : Int} {k m b l at_ cp : Nat} {pa : Option Addr} {pn pc : Nat} {G : Nat → Int} {S0 : Nat → Nat → Nat} (h : Sm17 W w2 w3 w4 w5 w6 w9 w10 w11 c f k m b l at_ S0) (hG : Qi W (.slice pa pn pc) pn G)
    (k1 : 1 ≤ k) (k2 : k ≤ 20) (m1 : 1 ≤ m) (m2 : m ≤ 12) (l1 : 1 ≤ l) (l2 : l ≤ 60) (hat : at_ ≤ l) (hcp : cp ≤ k + m) :
    Calls Tryz.prog 13 #[.pointer (some ⟨c, 0, none⟩), .slice (some ⟨w2.heap.size, 0, none⟩) (k + m) (k + m)] w11 fun e x1 => e = .returned (.int .i64 0) ∧ Sp17 x1 w4.heap.size at_ l ∧
    Calls Tryz.prog 21 #[.pointer (some ⟨c, 0, none⟩), .slice (some ⟨w5.heap.size, 0, none⟩) (k + m) (k + m), .agg #[.int .i64 (at_ : Int), .int .i64 (l : Int)]] x1 fun e x2 => e = .returned (.int .i64 0) ∧ Sp17 x2 w3.heap.size 0 at_ ∧
    Calls Tryz.prog 21 #[.pointer (some ⟨c, 0, none⟩), .slice (some ⟨w5.heap.size, 0, none⟩) (k + m) (k + m), .agg #[.int .i64 0, .int .i64 (at_ : Int)]] x2 fun e x3 => e = .returned (.int .i64 0) ∧
    Calls Tryz.prog 14 #[.slice (some ⟨w5.heap.size, 0, none⟩) (k + m) (k + m), .slice (some ⟨w2.heap.size, 0, none⟩) (k + m) (k + m)] x3 fun e y3 => e = .returned (.bool true) ∧
    Calls Tryz.prog 22 #[.pointer (some ⟨c, 0, none⟩), .slice (some ⟨w9.heap.size, 0, none⟩) (k + m) (k + m), .slice (some ⟨w6.heap.size, 0, none⟩) k k] y3 fun e x4 => e = .returned (.int .i64 0) ∧ Sp17 x4 w3.heap.size 0 at_ ∧
    Calls Tryz.prog 23 #[.pointer (some ⟨c, 0, none⟩), .slice (some ⟨w10.heap.size, 0, none⟩) (k + m) (k + m), .slice (some ⟨w6.heap.size, 0, none⟩) k k, .agg #[.int .i64 0, .int .i64 (at_ : Int)]] x4 fun e x5 => e = .returned (.int .i64 0) ∧ Sp17 x5 w4.heap.size at_ l ∧
    Calls Tryz.prog 23 #[.pointer (some ⟨c, 0, none⟩), .slice (some ⟨w10.heap.size, 0, none⟩) (k + m) (k + m), .slice (some ⟨w6.heap.size, 0, none⟩) k k, .agg #[.int .i64 (at_ : Int), .int .i64 (l : Int)]] x5 fun e x6 => e = .returned (.int .i64 0) ∧
    Calls Tryz.prog 14 #[.slice (some ⟨w9.heap.size, 0, none⟩) (k + m) (k + m), .slice (some ⟨w10.heap.size, 0, none⟩) (k + m) (k + m)] x6 fun e y6 => e = .returned (.bool true) ∧
    Calls Tryz.prog 16 #[.int .i64 ((k : Int) + (m : Int)), .int .i64 (cp : Int), .slice pa pn pc] y6 fun e x7 => e = .returned (.slice (some ⟨y6.heap.size, 0, none⟩) (k + m) (k + m)) ∧ Sn17 W w2 w3 w4 w5 w6 y6 x7 c f k m b l at_ S0 (pk17 (k + m) (pg17 pn G) cp) := by
  obtain ⟨⟨Cs0, Bs, hs⟩, hlo, hhi, ⟨Ca, Ba, Ta, ha, hae, har⟩, hfr, ⟨Cu, Bu, Tu, hu, hue⟩, ⟨Cv, Bv, Tv, hv, hve⟩, ⟨Fp, ⟨FT, p, lo, hi, rows, t, hC⟩, hFp⟩, bW, z1, z2, z3, z4, z5, z6, z7, z8⟩ := h
  have hkm : k ≤ k + m := Nat.le_add_right _ _
  have ps : ∀ x, Pb17 k m Bs x → w2.heap.size ≤ x ∧ x < w3.heap.size := fun x ⟨r, hr, e⟩ => by
    obtain ⟨r1, r2, -⟩ := hs.row (k + r) (by omega)
    rw [e]; exact ⟨r1, r2⟩
  have pa_ : ∀ x, Pb17 k m Ba x → w5.heap.size ≤ x ∧ x < w6.heap.size := fun x ⟨r, hr, e⟩ => by
    obtain ⟨r1, r2, -⟩ := ha.row (k + r) (by omega)
    rw [e]; exact ⟨r1, r2⟩
  have pan : ∀ x, Pb17 k m Ba x → x ≠ w5.heap.size := fun x ⟨r, hr, e⟩ => by
    rw [e]; exact ha.ne (by omega)
  have pu : ∀ x, Pb17 k m Bu x → w9.heap.size ≤ x ∧ x < w10.heap.size := fun x ⟨r, hr, e⟩ => by
    obtain ⟨r1, r2, -⟩ := hu.row (k + r) (by omega)
    rw [e]; exact ⟨r1, r2⟩
  have pv : ∀ x, Pb17 k m Bv x → w10.heap.size ≤ x ∧ x < w11.heap.size := fun x ⟨r, hr, e⟩ => by
    obtain ⟨r1, r2, -⟩ := hv.row (k + r) (by omega)
    rw [e]; exact ⟨r1, r2⟩
  have ds : ∀ x, Pb17 k m Bs x → ¬ Fp x := fun x e hx => by have := ps x e; have := hFp x hx; omega
  have da : ∀ x, Pb17 k m Ba x → ¬ Fp x := fun x e hx => by have := pa_ x e; have := hFp x hx; omega
  have du : ∀ x, Pb17 k m Bu x → ¬ Fp x := fun x e hx => by have := pu x e; have := hFp x hx; omega
  have dv : ∀ x, Pb17 k m Bv x → ¬ Fp x := fun x e hx => by have := pv x e; have := hFp x hx; omega
  -- s
  refine (Encode17 hC hs ds l1).mono ?_
  rintro e x1 ⟨rfl, hE1⟩
  have hC1 := hC.ke hE1.ke ds
  have ha1 := ha.keep hE1.ke (fun x a b e => by have := ps x e; omega)
  have har1 := har.of_block (hE1.ke.2 _ har.lt (fun e => by have := ps _ e; omega))
  have hu1 := hu.keep hE1.ke (fun x a b e => by have := ps x e; omega)
  have hv1 := hv.keep hE1.ke (fun x a b e => by have := ps x e; omega)
  have hf1 := hfr.ke (hE1.ke.mono (fun x _ e => .inl (by have := ps x e; omega)))
  have lo1 := hlo.ke hE1.ke (fun e => by have := ps _ e; omega)
  have hi1 := hhi.ke hE1.ke (fun e => by have := ps _ e; omega)
  have bW1 := bW.trans (hE1.ke.below (B := W.heap.size) (fun x e => by have := ps x e; omega) bW.size)
  refine ⟨rfl, hi1, ?_⟩
  -- a, high
  refine (EncodeSpan17 (fr := at_) (tq := l) hC1 ha1 da l1 hat (Nat.le_refl _)).mono ?_
  rintro e x2 ⟨rfl, hE2⟩
  have hC2 := hC1.ke hE2.ke da
  have hs2 := hE1.cs.keep hE2.ke (fun x a b e => by have := pa_ x e; omega)
  have har2 := har1.of_block (hE2.ke.2 _ har1.lt (fun e => pan _ e rfl))
  have hu2 := hu1.keep hE2.ke (fun x a b e => by have := pa_ x e; omega)
  have hv2 := hv1.keep hE2.ke (fun x a b e => by have := pa_ x e; omega)
  have hf2 := hf1.ke (hE2.ke.mono (fun x _ e => .inl (by have := pa_ x e; omega)))
  have lo2 := lo1.ke hE2.ke (fun e => by have := pa_ _ e; omega)
  have hi2 := hi1.ke hE2.ke (fun e => by have := pa_ _ e; omega)
  have bW2 := bW1.trans (hE2.ke.below (B := W.heap.size) (fun x e => by have := pa_ x e; omega) bW1.size)
  refine ⟨rfl, lo2, ?_⟩
  -- a, low
  refine (EncodeSpan17 (fr := 0) (tq := at_) hC2 hE2.cs da l1 (Nat.zero_le _) hat).mono ?_
  rintro e x3 ⟨rfl, hE3⟩
  have hC3 := hC2.ke hE3.ke da
  have hs3 := hs2.keep hE3.ke (fun x a b e => by have := pa_ x e; omega)
  have har3 := har2.of_block (hE3.ke.2 _ har2.lt (fun e => pan _ e rfl))
  have hu3 := hu2.keep hE3.ke (fun x a b e => by have := pa_ x e; omega)
  have hv3 := hv2.keep hE3.ke (fun x a b e => by have := pa_ x e; omega)
  have hf3 := hf2.ke (hE3.ke.mono (fun x _ e => .inl (by have := pa_ x e; omega)))
  have lo3 := lo2.ke hE3.ke (fun e => by have := pa_ _ e; omega)
  have hi3 := hi2.ke hE3.ke (fun e => by have := pa_ _ e; omega)
  have bW3 := bW2.trans (hE3.ke.below (B := W.heap.size) (fun x e => by have := pa_ x e; omega) bW2.size)
  have hcs3 := hE3.cs
  refine ⟨rfl, ?_⟩
  have e3 : ∀ i, i < k + m → ∀ t, t < l → enc17 f k 0 at_ (enc17 f k at_ l Ta) i t = enc17 f k 0 l S0 i t := fun i hi t ht => (enc_both17 hat i t).trans (enc_congr17 hkm hae hi ht)
  refine (alike17 _ _ (k + m) _ (enc17 f k 0 l S0) _ (hcs3.lb.congr e3) hs3.lb (by omega) (fun _ _ => by show l ≤ _; omega)).mono ?_
  rintro e y3 ⟨rfl, q3, rfl⟩
  have b3 : Below x3.heap.size x3 (x3.drewN q3) := below_drewN (Below.refl _ _) _
  have hCy := hC3.below b3
  refine ⟨rfl, ?_⟩
  -- u
  refine (Update17 (Q := fun i => decide (i = k - 1)) (Fr := fun _ => S0 k) hCy (hu3.below b3) du l1 (by omega) _ ((hf3.ke (ke_below b3 _)).mono (fun x _ e => .inr (by have := pu x e; omega)))).mono ?_
  rintro e x4 ⟨rfl, hU4⟩
  have k4 : Ke (Pb17 k m Bu) x3 x4 := (ke_below b3 _).trans hU4.ke
  have hC4 := hC3.ke k4 du
  have hs4 := hs3.keep k4 (fun x a b e => by have := pu x e; omega)
  have ha4 := hcs3.keep k4 (fun x a b e => by have := pu x e; omega)
  have har4 := har3.of_block (k4.2 _ har3.lt (fun e => by have := pu _ e; omega))
  have hv4 := hv3.keep k4 (fun x a b e => by have := pu x e; omega)
  have hf4 := hf3.ke (k4.mono (fun x _ e => .inr (by have := pu x e; omega)))
  have lo4 := lo3.ke k4 (fun e => by have := pu _ e; omega)
  have hi4 := hi3.ke k4 (fun e => by have := pu _ e; omega)
  have bW4 := bW3.trans (k4.below (B := W.heap.size) (fun x e => by have := pu x e; omega) bW3.size)
  refine ⟨rfl, lo4, ?_⟩
  -- v, low
  refine (UpdateSpan17 (Q := fun i => decide (i = k - 1)) (Fr := fun _ => S0 k) (fr := 0) (tq := at_) hC4 hv4 dv l1 (by omega) (Nat.zero_le _) hat _ (hf4.mono (fun x _ e => .inr (by have := pv x e; omega)))).mono ?_
  rintro e x5 ⟨rfl, hU5⟩
  have k5 := hU5.ke
  have hC5 := hC4.ke k5 dv
  have hs5 := hs4.keep k5 (fun x a b e => by have := pv x e; omega)
  have ha5 := ha4.keep k5 (fun x a b e => by have := pv x e; omega)
  have har5 := har4.of_block (k5.2 _ har4.lt (fun e => by have := pv _ e; omega))
  have hu5 := hU4.cs.keep k5 (fun x a b e => by have := pv x e; omega)
  have hf5 := hf4.ke (k5.mono (fun x _ e => .inr (by have := pv x e; omega)))
  have lo5 := lo4.ke k5 (fun e => by have := pv _ e; omega)
  have hi5 := hi4.ke k5 (fun e => by have := pv _ e; omega)
  have bW5 := bW4.trans (k5.below (B := W.heap.size) (fun x e => by have := pv x e; omega) bW4.size)
  refine ⟨rfl, hi5, ?_⟩
  -- v, high
  refine (UpdateSpan17 (Q := fun i => decide (i = k - 1)) (Fr := fun _ => S0 k) (fr := at_) (tq := l) hC5 hU5.cs dv l1 (by omega) hat (Nat.le_refl _) _ (hf5.mono (fun x _ e => .inr (by have := pv x e; omega)))).mono ?_
  rintro e x6 ⟨rfl, hU6⟩
  have k6 := hU6.ke
  have hC6 := hC5.ke k6 dv
  have hs6 := hs5.keep k6 (fun x a b e => by have := pv x e; omega)
  have ha6 := ha5.keep k6 (fun x a b e => by have := pv x e; omega)
  have har6 := har5.of_block (k6.2 _ har5.lt (fun e => by have := pv _ e; omega))
  have hu6 := hu5.keep k6 (fun x a b e => by have := pv x e; omega)
  have lo6 := lo5.ke k6 (fun e => by have := pv _ e; omega)
  have hi6 := hi5.ke k6 (fun e => by have := pv _ e; omega)
  have bW6 := bW5.trans (k6.below (B := W.heap.size) (fun x e => by have := pv x e; omega) bW5.size)
  refine ⟨rfl, ?_⟩
  have eu : ∀ i, i < k + m → ∀ t, t < l → upx17 f k 0 l (fun i => decide (i = k - 1)) Tu (fun _ => S0 k) (ems (fun i => decide (i = k - 1)) k).length i t = upx17 f k 0 l (fun i => decide (i = k - 1)) S0 (fun _ => S0 k) (ems (fun i => decide (i = k - 1)) k).length i t := fun i hi t ht => upx_congr17 hkm hue (fun _ _ _ _ => rfl) (Nat.le_refl _) hi ht
  have ev : ∀ i, i < k + m → ∀ t, t < l → upx17 f k at_ l (fun i => decide (i = k - 1)) (upx17 f k 0 at_ (fun i => decide (i = k - 1)) Tv (fun _ => S0 k) (ems (fun i => decide (i = k - 1)) k).length) (fun _ => S0 k) (ems (fun i => decide (i = k - 1)) k).length i t = upx17 f k 0 l (fun i => decide (i = k - 1)) S0 (fun _ => S0 k) (ems (fun i => decide (i = k - 1)) k).length i t := fun i hi t ht => (upx_both17 hat i t).trans (upx_congr17 hkm hve (fun _ _ _ _ => rfl) (Nat.le_refl _) hi ht)
  refine (alike17 _ _ (k + m) _ _ _ (hu6.lb.congr eu) (hU6.cs.lb.congr ev) (by omega) (fun _ _ => by show l ≤ _; omega)).mono ?_
  rintro e y6 ⟨rfl, q6, rfl⟩
  have b6 : Below x6.heap.size x6 (x6.drewN q6) := below_drewN (Below.refl _ _) _
  have bWy := bW6.trans (b6.mono bW6.size)
  refine ⟨rfl, ?_⟩
  refine (pick17 (k + m) cp pn G (.slice pa pn pc) (x6.drewN q6) (hG.below bWy) (by omega) (by omega) hcp).mono ?_
  rintro e x7 ⟨rfl, hp7, b67⟩
  have b7 := b6.trans (b67.mono b6.size)
  have z9 : w11.heap.size ≤ x6.heap.size := by
    have a1 := hE1.ke.size
    have a2 := hE2.ke.size
    have a3 := hE3.ke.size
    have a4 := k4.size
    have a5 := k5.size
    have a6 := k6.size
    omega
  have z10 : x6.heap.size = (x6.drewN q6).heap.size := rfl
  exact ⟨rfl, ⟨_, _, hs6.below b7⟩, lo6.below b7, hi6.below b7, ⟨_, _, _, ha6.below b7, e3, har6.of_block (b7.block _ har6.lt)⟩, hp7, ⟨Fp, ⟨_, _, _, _, _, _, hC6.below b7⟩, hFp⟩, bW6.trans (b7.mono bW6.size), z1, z2, z3, z4, z5, by omega, hp7.lt⟩
end Go.Proofs.YtaoapplbcgflmaaGreat
namespace Go.Proofs.YtaoapplbcgflmaaGreat
open Go.RowKit Gf2
set_option linter.unusedVariables false

-- layer 17: McodeSpans' mathematics: what is filled, what Verify says
/-- what is given back of a codeword is the codeword's. -/
theorem giv_code17 {f : Int} {k m : Nat} {S : Nat → Nat → Nat} {t : Nat} {P : Nat → Bool} (hf : f = 0 ∨ f = 1) (hs : k + m ≤ 256) (hc : ∀ r, r < m → S (k + r) t = ks (par11 f k r) S k t) (hb : ∀ i, i < k → S i t < 256) (hP : (ems P (k + m)).length ≤ m) {r : Nat} (hr : r < (ems P (k + m)).length) :
    ks (dec17 f k m P r) (fun a => S (eN (fun i => !P i) (k + m) a)) k t = S (eN P (k + m) r) t := by
  have hbo := ems_both P (k + m)
  rw [ks_mm]
  have e1 : mm k (dec17 f k m P) (fun a => S (eN (fun i => !P i) (k + m) a)) r t = mm k (fun i j => tg17 f k m (eN P (k + m) i) j) (mm k (sol k (fun i j => tg17 f k m (eN (fun i => !P i) (k + m) i) j) idm) (fun a => S (eN (fun i => !P i) (k + m) a))) r t := by
    unfold dec17
    rw [mm_assoc]
  have e2 : mm k (fun i j => tg17 f k m (eN P (k + m) i) j) (mm k (sol k (fun i j => tg17 f k m (eN (fun i => !P i) (k + m) i) j) idm) (fun a => S (eN (fun i => !P i) (k + m) a))) r t = mm k (fun i j => tg17 f k m (eN P (k + m) i) j) S r t :=
    mm_congr (fun _ _ => rfl) (fun a ha => (back17 hf hs hc hb (R := eN (fun i => !P i) (k + m)) (fun i hi => (eN_mem (by omega)).1) (fun i j a b e => by have := eN_inj (P := fun i => !P i) (n := k + m) (by omega) (by omega) e; omega) ha).symm)
  rw [e1, e2]
  exact gen17 hc hb (eN_mem hr).1
theorem enc_code17 {f : Int} {k m l : Nat} {S0 : Nat → Nat → Nat} {t : Nat} (ht : t < l) : ∀ r, r < m → enc17 f k 0 l S0 (k + r) t = ks (par11 f k r) (enc17 f k 0 l S0) k t := fun r hr => by
  have e1 : enc17 f k 0 l S0 (k + r) t = ks (par11 f k (k + r - k)) S0 k t := if_pos ⟨by omega, Nat.zero_le _, ht⟩
  rw [e1, Nat.add_sub_cancel_left]
  exact ks_congr k (fun a ha => ⟨rfl, (enc_data17 ha).symm⟩)
/-- the missing rows filled, low first, then high. -/
theorem fil_both17 {f : Int} {k m l at_ : Nat} {E A : Nat → Nat → Nat} {P : Nat → Bool} (hf : f = 0 ∨ f = 1) (hs : k + m ≤ 256) (hat : at_ ≤ l) (hc : ∀ t, t < l → ∀ r, r < m → E (k + r) t = ks (par11 f k r) E k t) (hb : ∀ t, t < l → ∀ i, i < k → E i t < 256) (hP : (ems P (k + m)).length ≤ m)
    (hA : ∀ i, i < k + m → P i = false → ∀ t, t < l → A i t = E i t) : ∀ i, i < k + m → ∀ t, t < l → fil17 f k m P at_ l (fil17 f k m P 0 at_ A) i t = E i t := fun i hi t ht => by
  have hbo := ems_both P (k + m)
  have hz : ∀ (B : Nat → Nat → Nat), (∀ i, i < k + m → P i = false → ∀ t, t < l → B i t = E i t) → P i = true → ks (dec17 f k m P (ems P i).length) (fun a => B (eN (fun i => !P i) (k + m) a)) k t = E i t := fun B hB hp => by
    obtain ⟨e1, e2⟩ := eN_at hi hp
    have h1 := giv_code17 hf hs (hc t ht) (hb t ht) hP e1
    rw [e2] at h1
    rw [← h1]
    refine ks_congr k (fun a ha => ⟨rfl, ?_⟩)
    obtain ⟨a1, a2⟩ := eN_mem (P := fun i => !P i) (n := k + m) (i := a) (by omega)
    exact hB _ a1 (by simpa using a2) t ht
  have hA2 : ∀ i, i < k + m → P i = false → ∀ t, t < l → fil17 f k m P 0 at_ A i t = E i t := fun i hi hp t ht => by
    unfold fil17
    rw [if_neg (fun x => by rw [hp] at x; exact Bool.noConfusion x.1)]
    exact hA i hi hp t ht
  cases hp : P i
  · show (if P i = true ∧ at_ ≤ t ∧ t < l then _ else fil17 f k m P 0 at_ A i t) = _
    rw [if_neg (fun x => by rw [hp] at x; exact Bool.noConfusion x.1)]
    exact hA2 i hi hp t ht
  · by_cases h1 : at_ ≤ t
    · show (if P i = true ∧ at_ ≤ t ∧ t < l then _ else fil17 f k m P 0 at_ A i t) = _
      rw [if_pos ⟨hp, h1, ht⟩]
      exact hz _ hA2 hp
    · show (if P i = true ∧ at_ ≤ t ∧ t < l then _ else fil17 f k m P 0 at_ A i t) = _
      rw [if_neg (fun x => h1 x.2.1)]
      show (if P i = true ∧ 0 ≤ t ∧ t < at_ then _ else A i t) = _
      rw [if_pos ⟨hp, Nat.zero_le _, by omega⟩]
      exact hz _ hA hp
/-- the codeword with one bit turned. -/
def tu17 (E : Nat → Nat → Nat) (i t : Nat) : Nat := if i = 0 ∧ t = 0 then E 0 0 ^^^ 1 else E i t
theorem tu_no17 {f : Int} {k m fr tq l : Nat} {E : Nat → Nat → Nat} (h : ¬ (fr = 0 ∧ 0 < tq)) (hq : tq ≤ l) (k1 : 1 ≤ k) (hc : ∀ t, t < l → ∀ r, r < m → E (k + r) t = ks (par11 f k r) E k t) : Cw17 f k m fr tq (tu17 E) := by
  intro r hr j h1 h2
  have hj : j ≠ 0 := by omega
  have e : ∀ i, tu17 E i j = E i j := fun i => if_neg (fun x => hj x.2)
  rw [e, hc j (by omega) r hr]
  exact ks_congr k (fun a ha => ⟨rfl, (e a).symm⟩)
theorem tu_yes17 {f : Int} {k m fr tq l : Nat} {E : Nat → Nat → Nat} (h : fr = 0 ∧ 0 < tq) (hq : tq ≤ l) (hf : f = 0 ∨ f = 1) (hs : k + m ≤ 256) (k1 : 1 ≤ k) (m1 : 1 ≤ m) (hc : ∀ t, t < l → ∀ r, r < m → E (k + r) t = ks (par11 f k r) E k t) : ¬ Cw17 f k m fr tq (tu17 E) := fun hcw => by
  have hp : ems (fun i => decide (i = 0)) (k + m) = [0] := by
    obtain ⟨n, hn⟩ : ∃ n, k + m = n + 1 := ⟨k + m - 1, by omega⟩
    rw [hn]
    clear hn
    unfold ems
    induction n with
    | zero => rfl
    | succ n ih =>
      rw [List.range_succ, List.filter_append, ih]
      rfl
  refine tells17 (P := fun i => decide (i = 0)) (E := fun i _ => if i = 0 then 1 else 0) (t := 0) hf hs (hc 0 (by omega)) (fun i _ => by show (if i = 0 then 1 else 0) < 256; split <;> decide) (by rw [hp]; exact m1) (by rw [hp]; exact Nat.le_refl _) (fun i _ e => ?_) (fun i _ e => ?_) (fun r hr => ?_)
  · have : i ≠ 0 := by simpa using e
    exact if_neg this
  · have : i = 0 := by simpa using e
    show (if i = 0 then 1 else 0) ≠ 0
    rw [if_pos this]
    decide
  · have e1 : ∀ i, tu17 E i 0 = E i 0 ^^^ (if i = 0 then 1 else 0) := fun i => by
      unfold tu17
      by_cases c : i = 0
      · rw [if_pos ⟨c, rfl⟩, if_pos c, c]
      · rw [if_neg (fun x => c x.1), if_neg c, Nat.xor_zero]
    have h3 := hcw r hr 0 (by omega) h.2
    rw [e1] at h3
    rw [h3]
    exact ks_congr k (fun a ha => ⟨rfl, e1 a⟩)
end Go.Proofs.YtaoapplbcgflmaaGreat
namespace Go.Proofs.YtaoapplbcgflmaaGreat
open Go.RowKit Gf2
set_option linter.unusedVariables false

-- layer 17: McodeSpans, the calls behind its loop
/-- the list of shards, from the second on. -/
theorem tailL17 (b n : Nat) (hn : 1 < n) (W : World) : (Instr.slice 33 (.slice (some ⟨b, 0, none⟩) n n) (some (.int .i64 1)) none none).run Tryz.prog W = .ok (.slice (some ⟨b, 1, none⟩) (n - 1) (n - 1)) W := by
  have h := fromL17 b 0 n n 1 (by omega) (Nat.le_refl _) (by omega) W
  rw [Nat.zero_add] at h
  exact h
theorem Lb.tail1 {w : World} {b n : Nat} {len : Nat → Nat} {S : Nat → Nat → Nat} (h : Lb w (.slice (some ⟨b, 0, none⟩) n n) n len S) (hn : 1 < n) : Lb w (.slice (some ⟨b, 1, none⟩) (n - 1) (n - 1)) (n - 1) (fun i => len (1 + i)) (fun i => S (1 + i)) := by
  obtain ⟨q, rfl⟩ : ∃ q, n = 1 + q := ⟨n - 1, by omega⟩
  have h2 := h.tail17 (by omega)
  rw [Nat.zero_add] at h2
  rw [Nat.add_sub_cancel_left] at h2 ⊢
  exact h2
/-- what there is behind the last Fill. -/
def Sq17 (W w2 w3 w4 w5 : World) (c k m l at_ : Nat) (p5 : World) : Prop := ∃ g cg v, p5.cell? ⟨w2.heap.size, 0, none⟩ = some (.slice (some ⟨g, 0, none⟩) l cg) ∧ p5.cell? ⟨g, 0, none⟩ = some (.int .u8 ((v : Nat) : Int)) ∧ v < 256 ∧ p5.frozen? ⟨g, 0, none⟩ = false ∧
    ∀ p6, p5.setCell ⟨g, 0, none⟩ (.int .u8 ((v ^^^ 1 : Nat) : Int)) = p6 → Sp17 p6 w3.heap.size 0 at_ ∧
    Calls Tryz.prog 26 #[.pointer (some ⟨c, 0, none⟩), .slice (some ⟨w2.heap.size, 0, none⟩) (k + m) (k + m), .agg #[.int .i64 0, .int .i64 (at_ : Int)]] p6 fun e p7 => e = .returned (.tuple #[.bool (decide (at_ = 0)), .int .i64 0]) ∧ Sp17 p7 w4.heap.size at_ l ∧
    Calls Tryz.prog 26 #[.pointer (some ⟨c, 0, none⟩), .slice (some ⟨w2.heap.size, 0, none⟩) (k + m) (k + m), .agg #[.int .i64 (at_ : Int), .int .i64 (l : Int)]] p7 fun e p8 => e = .returned (.tuple #[.bool (decide (0 < at_)), .int .i64 0]) ∧
    Calls Tryz.prog 20 #[.pointer (some ⟨c, 0, none⟩), .slice (some ⟨w2.heap.size, 0, none⟩) (k + m) (k + m)] p8 fun e p9 => e = .returned (.tuple #[.bool false, .int .i64 0]) ∧ Below W.heap.size W p9 ∧
    ∀ q, Calls Tryz.prog 14 #[.slice (some ⟨w2.heap.size, 1, none⟩) (k + m - 1) (k + m - 1), .slice (some ⟨w5.heap.size, 1, none⟩) (k + m - 1) (k + m - 1)] (p9.drewN q) fun e w' => e = .returned (.bool true) ∧ ∃ j, w' = (p9.drewN q).drewN j
theorem dec_of17 {bo : Bool} {p q : Prop} [Decidable q] (h : bo = true ↔ p) (hq : p ↔ q) : bo = decide q := by
  cases bo
  · exact (decide_eq_false (fun x => Bool.noConfusion (h.2 (hq.2 x)))).symm
  · exact (decide_eq_true (hq.1 (h.1 rfl))).symm
theorem spans_d17 {W w2 w3 w4 w5 p5 : World} {c : Nat} {Fp FT : Nat → Prop} {p : Addr} {lo hi : Nat} {rows : Value} {t : Nat} {f : Int} {k m b N : Nat} {L : List (Nat × Ent)} {l at_ alo ahi : Nat} {C B Ca Ba : Nat → Nat} {E A : Nat → Nat → Nat} (hC : Co p5 c Fp FT p lo hi rows t f k m b N L)
    (hs : Cs w2.heap.size w3.heap.size p5 (.slice (some ⟨w2.heap.size, 0, none⟩) (k + m) (k + m)) (k + m) (fun _ => l) C B E) (ha : Cs alo ahi p5 (.slice (some ⟨w5.heap.size, 0, none⟩) (k + m) (k + m)) (k + m) (fun _ => l) Ca Ba A)
    (hae : ∀ i, i < k + m → ∀ t, t < l → A i t = E i t) (hc : ∀ t, t < l → ∀ r, r < m → E (k + r) t = ks (par11 f k r) E k t) (hlo : Sp17 p5 w3.heap.size 0 at_) (hhi : Sp17 p5 w4.heap.size at_ l)
    (hF : ∀ x, Fp x → x < w2.heap.size ∨ w3.heap.size ≤ x) (hal : w3.heap.size ≤ alo) (h4 : w3.heap.size ≤ w4.heap.size) (bW : Below W.heap.size W p5) (hW : W.heap.size ≤ w2.heap.size)
    (k1 : 1 ≤ k) (k2 : k ≤ 20) (m1 : 1 ≤ m) (m2 : m ≤ 12) (l1 : 1 ≤ l) (l2 : l ≤ 60) (hat : at_ ≤ l) : Sq17 W w2 w3 w4 w5 c k m l at_ p5 := by
  obtain ⟨g1, cp1, e1, -, -, ga1, ga2, gn, gc⟩ := hs.at17 (by omega)
  cases e1
  obtain ⟨r1, r2, r3, r4⟩ := hs.row 0 (by omega)
  have r3' : l ≤ C 0 := r3
  refine ⟨B 0, C 0, E 0 0, gc 0 (by omega), r4.2.2.cell (by omega), r4.2.1 0 (by omega), r4.2.2.frozen 0, fun p6 hp6 => ?_⟩
  have o6 : Only (B 0) p5 p6 := by rw [← hp6]; exact (Only.refl _ _).setCell _ _
  have k6 := o6.kp.ke
  have hx1 : E 0 0 ^^^ 1 < 256 := by
    have := r4.2.1 0 (by omega)
    exact Nat.xor_lt_two_pow (n := 8) this (by decide)
  have hC6 := hC.ke k6 (fun x e hx => by have := hF x hx; have e' : x = B 0 := e; omega)
  have ha6 := ha.keep k6 (fun x a b e => by have e' : x = B 0 := e; omega)
  have lo6 := hlo.ke k6 (fun e => by have e' : w3.heap.size = B 0 := e; omega)
  have hi6 := hhi.ke k6 (fun e => by have e' : w4.heap.size = B 0 := e; omega)
  have hs6 : Cs w2.heap.size w3.heap.size p6 (.slice (some ⟨w2.heap.size, 0, none⟩) (k + m) (k + m)) (k + m) (fun _ => l) C B (tu17 E) := by
    refine hs.turn (k6.mono (fun x _ e => ⟨0, by omega, e⟩)) (fun i hi => ?_)
    by_cases c0 : i = 0
    · subst c0
      have q : Rw p6 (B 0) (C 0) (fun z => if z = 0 then E 0 0 ^^^ 1 else E 0 z) := by rw [← hp6]; exact r4.set 0 _ hx1
      refine q.congr (fun z hz => ?_)
      unfold tu17
      by_cases c1 : z = 0
      · rw [if_pos c1, if_pos ⟨rfl, c1⟩]
      · rw [if_neg c1, if_neg (fun x => c1 x.2)]
    · exact (k6.rw_ (hs.row i hi).2.2.2 (fun e => c0 (hs.inj i 0 hi (by omega) e))).congr (fun z hz => (if_neg (fun x => c0 x.1)).symm)
  have bW6 := bW.trans (k6.below (B := W.heap.size) (fun x e => by have e' : x = B 0 := e; omega) bW.size)
  refine ⟨lo6, (VerifySpan17 (fr := 0) (tq := at_) hC6 hs6.lb l1 (by omega) (Nat.zero_le _) hat).mono ?_⟩
  rintro e p7 ⟨bo, rfl, hV7⟩
  have e7 : bo = decide (at_ = 0) := dec_of17 hV7.yes ⟨fun x => Classical.byContradiction (fun h0 => tu_yes17 (l := l) ⟨rfl, by omega⟩ hat hC.hf hC.hs k1 m1 hc x), fun x => tu_no17 (l := l) (by omega) hat k1 hc⟩
  refine ⟨by rw [e7], hi6.below hV7.bel, ?_⟩
  refine (VerifySpan17 (fr := at_) (tq := l) (hC6.below hV7.bel) (hs6.lb.below hV7.bel) l1 (by omega) hat (Nat.le_refl _)).mono ?_
  rintro e p8 ⟨bo8, rfl, hV8⟩
  have e8 : bo8 = decide (0 < at_) := dec_of17 hV8.yes ⟨fun x => Classical.byContradiction (fun h0 => tu_yes17 (l := l) ⟨by omega, by omega⟩ (Nat.le_refl _) hC.hf hC.hs k1 m1 hc x), fun x => tu_no17 (l := l) (by omega) (Nat.le_refl _) k1 hc⟩
  refine ⟨by rw [e8], ?_⟩
  have b8 := hV7.bel.trans (hV8.bel.mono hV7.bel.size)
  refine (Verify17 (hC6.below b8) (hs6.lb.below b8) l1 (by omega)).mono ?_
  rintro e p9 ⟨bo9, rfl, hV9⟩
  have e9 : bo9 = false := by
    cases hb : bo9
    · rfl
    · exact absurd (hV9.yes.1 hb) (tu_yes17 (l := l) ⟨rfl, by omega⟩ (Nat.le_refl _) hC.hf hC.hs k1 m1 hc)
  have b9 := b8.trans (hV9.bel.mono b8.size)
  refine ⟨by rw [e9], bW6.trans (b9.mono bW6.size), fun q => ?_⟩
  have bq : Below p6.heap.size p6 (p9.drewN q) := below_drewN b9 q
  refine alike17 _ _ (k + m - 1) _ (fun i => E (1 + i)) _ (((hs6.lb.below bq).tail1 (by omega)).congr (fun i hi t ht => ?_)) (((ha6.lb.below bq).tail1 (by omega)).congr (fun i hi t ht => hae (1 + i) (by omega) t ht)) (by omega) (fun _ _ => by show l ≤ _; omega)
  exact if_neg (fun x => by omega)
end Go.Proofs.YtaoapplbcgflmaaGreat
namespace Go.Proofs.YtaoapplbcgflmaaGreat
open Go.RowKit Gf2
set_option linter.unusedVariables false

-- layer 17: McodeSpans, the plan and what it fills
/-- what there is behind the first Fill. -/
structure So17 (W w2 w3 w4 w5 p1 p3 : World) (c k m l at_ : Nat) (P : Nat → Bool) (mv : Value) (ma : Option Addr) (mn mc : Nat) (ua : Option Addr) (un uc : Nat) (da : Option Addr) (dn dc : Nat) : Prop where
  bx : p3.heap[p1.heap.size]? = some (.cells #[.slice ma mn mc, .slice ua un uc, .slice da dn dc, .slice none 0 0] 54 (0, 0))
  hi : Sp17 p3 w4.heap.size at_ l
  mq : Qi p3 mv (ems P (k + m)).length (emz P (k + m))
  ar : ∃ (C B : Nat → Nat), (∀ i, i < k + m → p3.cell? ⟨w5.heap.size, i, none⟩ = some (.slice (some ⟨B i, 0, none⟩) l (C i))) ∧ ∀ i, i < k + m → P i = true → ∀ t, at_ ≤ t → t < l → p3.cell? ⟨B i, t, none⟩ = some (.int .u8 0)
  nx : Calls Tryz.prog 25 #[.pointer (some ⟨c, 0, none⟩), .agg #[.slice ma mn mc, .slice ua un uc, .slice da dn dc, .slice none 0 0], .slice (some ⟨w5.heap.size, 0, none⟩) (k + m) (k + m), .agg #[.int .i64 (at_ : Int), .int .i64 (l : Int)]] p3 fun e p4 => e = .returned (.int .i64 0) ∧
    Calls Tryz.prog 14 #[.slice (some ⟨w5.heap.size, 0, none⟩) (k + m) (k + m), .slice (some ⟨w2.heap.size, 0, none⟩) (k + m) (k + m)] p4 fun e y4 => e = .returned (.bool true) ∧ y4.heap[p1.heap.size]? = some (.cells #[.slice ma mn mc, .slice ua un uc, .slice da dn dc, .slice none 0 0] 54 (0, 0)) ∧
    Calls Tryz.prog 25 #[.pointer (some ⟨c, 0, none⟩), .agg #[.slice ma mn mc, .slice ua un uc, .slice da dn dc, .slice none 0 0], .slice (some ⟨w5.heap.size, 0, none⟩) (k + m) (k + m), .agg #[.int .i64 (at_ : Int), .int .i64 ((l : Int) + 1)]] y4 fun e p5 => e = .returned (.int .i64 7) ∧ Sq17 W w2 w3 w4 w5 c k m l at_ p5
set_option maxHeartbeats 4000000 in
theorem spans_c17 {W w2 w3 w4 w5 w6 y6 x7 wr : World} {c : Nat} {f : Int} {k m b l at_ : Nat} {S0 T9 : Nat → Nat → Nat} {P : Nat → Bool} {C9 B9 NB : Nat → Nat} {mv : Value} (h : Sn17 W w2 w3 w4 w5 w6 y6 x7 c f k m b l at_ S0 P)
    (ha : Cs w5.heap.size w6.heap.size x7 (.slice (some ⟨w5.heap.size, 0, none⟩) (k + m) (k + m)) (k + m) (fun _ => l) C9 B9 T9) (hae : ∀ i, i < k + m → ∀ t, t < l → T9 i t = enc17 f k 0 l S0 i t) (hM : Ms17 x7 wr w5.heap.size (k + m) l P C9 B9 (k + m) mv NB)
    (k1 : 1 ≤ k) (k2 : k ≤ 20) (m1 : 1 ≤ m) (m2 : m ≤ 12) (l1 : 1 ≤ l) (l2 : l ≤ 60) (hat : at_ ≤ l) (n1 : 1 ≤ (ems P (k + m)).length) (n2 : (ems P (k + m)).length ≤ m) :
    Calls Tryz.prog 24 #[.pointer (some ⟨c, 0, none⟩), mv] wr fun e p1 => ∃ ma mn mc ua un uc da dn dc, e = .returned (.tuple #[.agg #[.slice ma mn mc, .slice ua un uc, .slice da dn dc, .slice none 0 0], .int .i64 0]) ∧
    ∀ p2, p1.alloc (.cells #[.slice ma mn mc, .slice ua un uc, .slice da dn dc, .slice none 0 0] 54) = p2 → p2.heap[p1.heap.size]? = some (.cells #[.slice ma mn mc, .slice ua un uc, .slice da dn dc, .slice none 0 0] 54 (0, 0)) ∧ Sp17 p2 w3.heap.size 0 at_ ∧
    Calls Tryz.prog 25 #[.pointer (some ⟨c, 0, none⟩), .agg #[.slice ma mn mc, .slice ua un uc, .slice da dn dc, .slice none 0 0], .slice (some ⟨w5.heap.size, 0, none⟩) (k + m) (k + m), .agg #[.int .i64 0, .int .i64 (at_ : Int)]] p2 fun e p3 => e = .returned (.int .i64 0) ∧ So17 W w2 w3 w4 w5 p1 p3 c k m l at_ P mv ma mn mc ua un uc da dn dc := by
  obtain ⟨⟨Cs0, Bs, hs⟩, hlo, hhi, -, -, ⟨Fp, ⟨FT, p, lo, hi, rows, t, hC⟩, hFp⟩, bW, z1, z2, z3, z4, z5, z6, z7⟩ := h
  have kr := hM.ke
  have hzr := kr.size
  have hsr := hs.keep kr (fun x a b e => by omega)
  have hCr := hC.ke kr (fun x e hx => by have := hFp x hx; omega)
  have lor := hlo.ke kr (fun e => by omega)
  have hir := hhi.ke kr (fun e => by omega)
  have bWr := bW.trans (kr.below (B := W.heap.size) (fun x e => by omega) bW.size)
  have har := hM.now ha (by omega)
  obtain ⟨C', hC'⟩ : ∃ C' : Nat → Nat, C' = (fun i => if P i = true then l else C9 i) := ⟨_, rfl⟩
  obtain ⟨B', hB'⟩ : ∃ B' : Nat → Nat, B' = (fun i => if P i = true then NB i else B9 i) := ⟨_, rfl⟩
  obtain ⟨A, hA⟩ : ∃ A : Nat → Nat → Nat, A = (fun i => if P i = true then (fun _ => 0) else T9 i) := ⟨_, rfl⟩
  rw [← hC', ← hB', ← hA] at har
  have hmq := hM.mi.qi
  have hMb : ∀ x, Mb17 k m P B' x → x7.heap.size ≤ x ∧ x < wr.heap.size := fun x ⟨r, hr, e⟩ => by
    have e' : x = B' (eN P (k + m) r) := e
    obtain ⟨q1, q2⟩ := eN_mem hr
    rw [hB'] at e'
    have e2 : x = NB (eN P (k + m) r) := e'.trans (if_pos q2)
    obtain ⟨a1, a2⟩ := hM.ar _ q1 q2
    rw [e2]
    exact ⟨a1, a2.lt⟩
  have hE : ∀ i, i < k + m → P i = false → ∀ t, t < l → A i t = enc17 f k 0 l S0 i t := fun i hi hp t ht => by
    rw [hA]
    show (if P i = true then (fun _ => 0) else T9 i) t = _
    rw [if_neg (by rw [hp]; decide)]
    exact hae i hi t ht
  refine (plan17_room hCr P n1 n2 mv hmq (fun b x hx => by cases hx) (by show 0 < 16; decide) (Nat.zero_le _)).mono ?_
  rintro e p1 ⟨pl, rfl, hP⟩
  obtain ⟨Fp', N', L', gm, Cm, gu, Cu, dlo, dhi, d, DC, DB, hpm, ⟨FT', q, lo', hi', rows', t', hC1⟩, -, hFp', ⟨g1, g2, g3⟩, hdis⟩ := hP.ex
  obtain ⟨gd, cd, hde, -⟩ := hpm.dr.at17 n1
  subst hde
  have hpl := hpm.eq
  subst hpl
  refine ⟨_, _, _, _, _, _, _, _, _, rfl, fun p2 hp2 => ?_⟩
  have kp1 := hP.ke
  have hz1 := kp1.size
  have hnF : ∀ x, w2.heap.size ≤ x → ¬ Fp x := fun x hx e => by have := hFp x e; omega
  have hs1 := hsr.keep kp1 (fun x a b e => hnF x a e)
  have ha1 := har.keep kp1 (fun x a b e => hnF x (by omega) e)
  have lo1 := lor.ke kp1 (hnF _ (by omega))
  have hi1 := hir.ke kp1 (hnF _ (by omega))
  have bW1 := bWr.trans (kp1.below (B := W.heap.size) (fun x e => by have := hFp x e; omega) bWr.size)
  have b2 : Below p1.heap.size p1 p2 := by rw [← hp2]; exact (Below.refl _ _).alloc (Nat.le_refl _) _
  have hz2 : p2.heap.size = p1.heap.size + 1 := by rw [← hp2]; simp
  have hbx : p2.heap[p1.heap.size]? = some (.cells #[.slice (some ⟨gm, 0, none⟩) (ems P (k + m)).length Cm, .slice (some ⟨gu, 0, none⟩) k Cu, .slice (some ⟨gd, 0, none⟩) (ems P (k + m)).length cd, .slice none 0 0] 54 (0, 0)) := by rw [← hp2]; exact heap_alloc_new _ _
  have hd : ∀ y, Mb17 k m P B' y → ¬ Fp' y ∧ ¬ Pk17 gm gu dlo dhi y := fun y e => by
    have := hMb y e
    refine ⟨fun x => ?_, fun x => ?_⟩
    · rcases hFp' y x with x | x
      · have := hFp y x; omega
      · omega
    · rcases x with x | x | x <;> omega
  refine ⟨hbx, lo1.below b2, ?_⟩
  refine (Fill17 (fr := 0) (tq := at_) (hC1.below b2) (hpm.below b2) (ha1.below b2) hd l1 (by omega) n1 n2 (Nat.zero_le _) hat).mono ?_
  rintro e p3 ⟨rfl, hF3⟩
  refine ⟨rfl, ?_⟩
  have k3 : Ke (Mb17 k m P B') p1 p3 := (ke_below b2 _).trans hF3.ke
  have hz3 := hF3.ke.size
  have hC3 := hC1.ke k3 (fun x e => (hd x e).1)
  have hpm3 := hpm.ke k3 (fun x e e2 => (hd x e2).2 e)
  have hs3 := hs1.keep k3 (fun x a b e => by have := hMb x e; omega)
  have lo3 := lo1.ke k3 (fun e => by have := hMb _ e; omega)
  have hi3 := hi1.ke k3 (fun e => by have := hMb _ e; omega)
  have bx3 := (hF3.ke.2 _ (by omega) (fun e => by have := hMb _ e; omega)).trans hbx
  have bW3 := bW1.trans (k3.below (B := W.heap.size) (fun x e => by have := hMb x e; omega) bW1.size)
  have hmq3 : Qi p3 mv (ems P (k + m)).length (emz P (k + m)) := by
    rcases hM.mi with ⟨e0, -⟩ | ⟨gv, Cv, Fv, rfl, a2, a3, a4, a5⟩
    · omega
    · have q1 := a4.ke kp1 (hnF _ (by omega))
      have q2 := q1.ke k3 (fun ⟨r, hr, e⟩ => by
        have e' : gv = B' (eN P (k + m) r) := e
        obtain ⟨r1, r2⟩ := eN_mem hr
        rw [hB'] at e'
        have e2 : gv = NB (eN P (k + m) r) := e'.trans (if_pos r2)
        have r3 := (hM.ar _ r1 r2).2
        rw [← e2] at r3
        exact ri_rw17 a4 r3)
      exact ri_qi17 q2 a2 a5
  refine ⟨bx3, hi3, hmq3, ⟨C', B', fun i hi => ?_, fun i hi hp t h1 h2 => ?_⟩, ?_⟩
  · obtain ⟨g', cap', e, -, -, -, -, -, gc⟩ := hF3.cs.at17 (by omega)
    cases e
    exact gc i hi
  · obtain ⟨r1, r2, r3, r4⟩ := hF3.cs.row i hi
    have r3' : l ≤ C' i := r3
    have q := r4.2.2.cell (i := t) (by omega)
    have e : fil17 f k m P 0 at_ A i t = 0 := by
      unfold fil17
      rw [if_neg (fun x => by omega), hA]
      show (if P i = true then (fun _ => 0) else T9 i) t = 0
      rw [if_pos hp]
    rw [e] at q
    exact q
  · refine (Fill17 (fr := at_) (tq := l) hC3 hpm3 hF3.cs hd l1 (by omega) n1 n2 hat (Nat.le_refl _)).mono ?_
    rintro e p4 ⟨rfl, hF4⟩
    have k4 := hF4.ke
    have hC4 := hC3.ke k4 (fun x e => (hd x e).1)
    have hs4 := hs3.keep k4 (fun x a b e => by have := hMb x e; omega)
    have lo4 := lo3.ke k4 (fun e => by have := hMb _ e; omega)
    have hi4 := hi3.ke k4 (fun e => by have := hMb _ e; omega)
    have bx4 := (k4.2 _ (by omega) (fun e => by have := hMb _ e; omega)).trans bx3
    have bW4 := bW3.trans (k4.below (B := W.heap.size) (fun x e => by have := hMb x e; omega) bW3.size)
    have hb256 : ∀ t, t < l → ∀ i, i < k → enc17 f k 0 l S0 i t < 256 := fun t ht i hi => by
      obtain ⟨r1, r2, r3, r4⟩ := hs.row i (by omega)
      have r3' : l ≤ Cs0 i := r3
      exact r4.2.1 t (by omega)
    have e4 := fil_both17 (A := A) hC.hf hC.hs hat (fun t ht => enc_code17 (m := m) ht) hb256 n2 hE
    refine ⟨rfl, ?_⟩
    refine (alike17 _ _ (k + m) _ (enc17 f k 0 l S0) p4 (hF4.cs.lb.congr e4) hs4.lb (by omega) (fun _ _ => by show l ≤ _; omega)).mono ?_
    rintro e y4 ⟨rfl, q4, rfl⟩
    have b4 : Below p4.heap.size p4 (p4.drewN q4) := below_drewN (Below.refl _ _) _
    refine ⟨rfl, bx4, ?_⟩
    refine (Fill17_range (fr := at_) (tq := l + 1) (l := l) (hC4.below b4) _ _ _ _ (fun _ => l) _ (hF4.cs.lb.below b4) l1 (fun _ _ => rfl) (by omega) (Nat.lt_succ_self _)).mono ?_
    rintro e p5 ⟨rfl, b5⟩
    have b45 := b4.trans (b5.mono b4.size)
    refine ⟨rfl, ?_⟩
    refine spans_d17 (hC4.below b45) (hs4.below b45) (hF4.cs.below b45) e4 (fun t ht => enc_code17 (m := m) ht) (lo4.below b45) (hi4.below b45) (fun x hx => ?_) (by omega) (by omega) (bW4.trans (b45.mono bW4.size)) z1 k1 k2 m1 m2 l1 l2 hat
    rcases hFp' x hx with e | e
    · exact .inl (hFp x e).2
    · exact .inr (by omega)
end Go.Proofs.YtaoapplbcgflmaaGreat
