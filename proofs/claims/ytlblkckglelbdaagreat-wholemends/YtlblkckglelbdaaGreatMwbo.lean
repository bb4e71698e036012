import Derived.Test.YtlblkckglelbdaaGreatMwbm
import Derived.Test.YtlblkckglelbdaaGreatMwbn
import Derived.Test.YtlblkckglelbdaaGreatMwbk
namespace Go.Proofs.YtlblkckglelbdaaGreat
open Go.RowKit Gf2
set_option linter.unusedVariables false

-- the top's own apart
theorem info_intT : (Tryz.prog.info? 3).map (fun i => (i.zero, i.size, i.bytes)) = some (some (.int .i64 0), 1, 8) := by kernel_rfl
theorem made_riT (w : World) (n : Nat) (hn : n ≤ big) : Ri (w.alloc (.cells (madeCells #[.int .i64 0] n) 3)) w.heap.size n (fun _ => 0) := ⟨hn, trivial, World.rowIs_made _ _ _ _⟩
theorem make_intsT (n : Nat) (hn : 8 * n ≤ 140737488355328) (w : World) : (Instr.makeSlice 23 (.int .i64 (n : Int)) (.int .i64 (n : Int))).run Tryz.prog w = .ok (.slice (some ⟨w.heap.size, 0, none⟩) n n) (w.alloc (.cells (madeCells #[.int .i64 0] n) 3)) :=
  run_make_row' 23 3 (.int .i64 0) 8 Tryz.underlying23 info_intT rfl .i64 .i64 n (by omega) (by omega) w
/-- how many rows differ at a column: x rows whole, of the next one t columns. -/
def cu (D : Nat → Nat → Bool) (x t z : Nat) : Nat := cnb (fun y => D y z) x + (if z < t ∧ D x z = true then 1 else 0)
theorem cu_zero (D : Nat → Nat → Bool) (x z : Nat) : cu D x 0 z = cnb (fun y => D y z) x := by unfold cu; rw [if_neg (by omega)]; omega
theorem cu_end {D : Nat → Nat → Bool} {x t z : Nat} (h : z < t ∨ D x z = false) : cu D x t z = cu D (x + 1) 0 z := by
  rw [cu_zero]
  unfold cu
  cases e : D x z with
  | true =>
    have hz : z < t := by
      rcases h with h | h
      · exact h
      · rw [e] at h; cases h
    rw [cnb_yes (P := fun y => D y z) e, if_pos ⟨hz, rfl⟩]
  | false =>
    rw [cnb_no (P := fun y => D y z) e, if_neg (by rintro ⟨-, h9⟩; cases h9)]
    omega
theorem cu_hit {D : Nat → Nat → Bool} {x t : Nat} (h : D x t = true) (z : Nat) : cu D x (t + 1) z = if z = t then cu D x t t + 1 else cu D x t z := by
  unfold cu
  by_cases e : z = t
  · subst e
    rw [if_pos rfl, if_pos ⟨by omega, h⟩, if_neg (by omega)]
  · rw [if_neg e]
    by_cases e2 : z < t
    · by_cases e3 : D x z = true
      · rw [if_pos ⟨by omega, e3⟩, if_pos ⟨e2, e3⟩]
      · rw [if_neg (fun h => e3 h.2), if_neg (fun h => e3 h.2)]
    · rw [if_neg (by omega), if_neg (by omega)]
theorem cu_miss {D : Nat → Nat → Bool} {x t : Nat} (h : D x t = false) (z : Nat) : cu D x (t + 1) z = cu D x t z := by
  unfold cu
  by_cases e3 : D x z = true
  · by_cases e2 : z < t
    · rw [if_pos ⟨by omega, e3⟩, if_pos ⟨e2, e3⟩]
    · have : z ≠ t := fun e => by rw [e, h] at e3; cases e3
      rw [if_neg (by omega), if_neg (by omega)]
  · rw [if_neg (fun h => e3 h.2), if_neg (fun h => e3 h.2)]
theorem cu_le (D : Nat → Nat → Bool) (x t z : Nat) : cu D x t z ≤ x + 1 := by
  unfold cu
  have := cnb_le (fun y => D y z) x
  split <;> omega
theorem Ri.of_below {w w' : World} {g N base : Nat} {F : Nat → Int} (h : Ri w g N F) (hb : Below base w w') (hg : g < base) : Ri w' g N F := ⟨h.1, h.2.1, h.2.2.of_block (hb.block g hg)⟩
structure Ap (w W : World) (gc lo T q : Nat) (D : Nat → Nat → Bool) (P : Nat → Bool) (v : Value) (b : Bool) (x t : Nat) : Prop where
  row : Ri W gc T (fun z => ((cu D x t z : Nat) : Int))
  list : Gj lo W v (cnb P x) (fsel P (fun j => j) x)
  near : b = true ↔ ∀ z, z < T → cu D x t z ≤ q
  bel : Below w.heap.size w W
  nums : w.heap.size ≤ gc ∧ gc < lo ∧ lo ≤ W.heap.size
section
variable {w W : World} {gc lo T q x t : Nat} {D : Nat → Nat → Bool} {P : Nat → Bool} {v : Value} {b : Bool}
theorem Ap.miss (h : Ap w W gc lo T q D P v b x t) (e : D x t = false) : Ap w W gc lo T q D P v b x (t + 1) :=
  ⟨h.row.congr (fun z _ => by rw [cu_miss e]), h.list, by rw [h.near]; constructor <;> intro h9 z hz <;> have := h9 z hz <;> rw [cu_miss e] at * <;> exact this, h.bel, h.nums⟩
theorem Ap.hit (h : Ap w W gc lo T q D P v b x t) (ht : t < T) (e : D x t = true) {b' : Bool} (hb : b' = (b && decide ((((cu D x t t + 1 : Nat) : Int)) ≤ (q : Int)))) : Ap w (W.setCell ⟨gc, t, none⟩ (.int .i64 ((cu D x t t + 1 : Nat) : Int))) gc lo T q D P v b' x (t + 1) := by
  have kp : Kp gc W (W.setCell ⟨gc, t, none⟩ (.int .i64 ((cu D x t t + 1 : Nat) : Int))) := (Kp.refl _ _).setCell _ _
  refine ⟨(h.row.set t _).congr (fun z hz => ?_), h.list.keep kp.ke (fun y hy e => by have := h.nums; omega), ?_, h.bel.setCell h.nums.1 _, ⟨h.nums.1, h.nums.2.1, by simpa using h.nums.2.2⟩⟩
  · rw [cu_hit e]
    by_cases e2 : z = t
    · rw [if_pos e2, if_pos e2]
    · rw [if_neg e2, if_neg e2]
  · subst hb
    rw [Bool.and_eq_true, decide_eq_true_iff, h.near]
    constructor
    · rintro ⟨h1, h2⟩ z hz
      rw [cu_hit e]
      split
      · omega
      · exact h1 z hz
    · intro h1
      have h2 := h1 t ht
      rw [cu_hit e, if_pos rfl] at h2
      refine ⟨fun z hz => ?_, by omega⟩
      have h3 := h1 z hz
      rw [cu_hit e] at h3
      split at h3
      · rename_i e2; subst e2; omega
      · exact h3
theorem Ap.next (h : Ap w W gc lo T q D P v b x t) (he : ∀ z, z < T → z < t ∨ D x z = false) (hp : P x = false) : Ap w W gc lo T q D P v b (x + 1) 0 :=
  ⟨h.row.congr (fun z hz => by rw [cu_end (he z hz)]), by rw [cnb_no hp, fsel_no hp]; exact h.list, by
    rw [h.near]
    constructor <;> intro h9 z hz <;> have := h9 z hz <;> rw [cu_end (he z hz)] at * <;> exact this, h.bel, h.nums⟩
theorem Ap.told (h : Ap w W gc lo T q D P v b x t) (he : ∀ z, z < T → z < t ∨ D x z = false) (hp : P x = true) (hx : x < 256) :
    ∃ w' v', (Builtin.append_ #[23, 23] 23 #[v, .slice (some ⟨W.heap.size, 0, none⟩) 1 1]).run Tryz.prog (W.alloc (.cells #[.int .i64 (x : Int)] 3)) = .ok v' w' ∧ Ap w w' gc lo T q D P v' b (x + 1) 0 := by
  have hc := cnb_le P x
  obtain ⟨w', v', hrun, hG, hb⟩ := app_gj h.list h.nums.2.2 (x : Int) (by omega)
  have hbl : Below w.heap.size w w' := h.bel.trans (hb.mono (by have := h.nums; omega))
  refine ⟨w', v', hrun, ⟨(h.row.of_below hb h.nums.2.1).congr (fun z hz => by rw [cu_end (he z hz)]), ?_, ?_, hbl, h.nums.1, h.nums.2.1, Nat.le_trans h.nums.2.2 hb.size⟩⟩
  · rw [cnb_yes hp, fsel_yes hp]
    exact hG
  · rw [h.near]
    constructor <;> intro h9 z hz <;> have := h9 z hz <;> rw [cu_end (he z hz)] at * <;> exact this
end
end Go.Proofs.YtlblkckglelbdaaGreat
namespace Go.Proofs.YtlblkckglelbdaaGreat
open Go.RowKit Gf2
set_option linter.unusedVariables false

-- the top's own apart, walked
/-- where a shard is there and its byte another one. -/
def Dv (n : Nat) (ln : Nat → Nat) (V G : Nat → Nat → Nat) (x z : Nat) : Bool := pre19 n ln x && decide (V x z ≠ G x z)
theorem dv_true {n : Nat} {ln : Nat → Nat} {V G : Nat → Nat → Nat} {x z : Nat} (hx : x < n) (h0 : ln x ≠ 0) (h : G x z ≠ V x z) : Dv n ln V G x z = true := by
  unfold Dv
  rw [pre19_iff.2 ⟨hx, h0⟩, Bool.true_and]
  exact decide_eq_true (fun e => h e.symm)
theorem dv_same {n : Nat} {ln : Nat → Nat} {V G : Nat → Nat → Nat} {x z : Nat} (h : G x z = V x z) : Dv n ln V G x z = false := by
  unfold Dv
  rw [Bool.and_eq_false_iff]
  exact .inr (decide_eq_false (fun e => e h.symm))
theorem dv_empty {n : Nat} {ln : Nat → Nat} {V G : Nat → Nat → Nat} {x z : Nat} (h : ln x = 0) : Dv n ln V G x z = false := by
  unfold Dv
  rw [Bool.and_eq_false_iff]
  refine .inl ?_
  cases e : pre19 n ln x with
  | false => rfl
  | true => exact absurd h (pre19_iff.1 e).2
def Apo (n T q : Nat) (ln : Nat → Nat) (G V : Nat → Nat → Nat) (P : Nat → Bool) (w w' : World) (e : Ending) : Prop := ∃ b v lo, w.heap.size ≤ lo ∧ e = .returned (.tuple #[.bool b, v]) ∧ (b = true ↔ ∀ z, z < T → cnb (fun y => Dv n ln V G y z) n ≤ q) ∧ Gj lo w' v (cnb P n) (fsel P (fun j => j) n) ∧ Below w.heap.size w w'
set_option maxHeartbeats 8000000 in
set_option maxRecDepth 100000 in
theorem apart_v (n T q : Nat) (aS : Option Addr) (cS : Nat) (aV : Option Addr) (cV : Nat) (ln : Nat → Nat) (G V : Nat → Nat → Nat) (P : Nat → Bool) (w : World) (hn1 : 1 ≤ n) (hn : n ≤ 256) (hT1 : 1 ≤ T) (hT : T ≤ 1048576) (hS : Lb w (.slice aS n cS) n ln G) (hV : Lb w (.slice aV n cV) n (fun _ => T) V) (hl : ∀ x, x < n → ln x = T ∨ ln x = 0) (hP : ∀ x, x < n → (P x = true ↔ ln x ≠ 0 ∧ ∃ z, z < T ∧ V x z ≠ G x z)) :
    Calls Tryz.prog 12 #[.slice aS n cS, .slice aV n cV, .int .i64 (q : Int)] w fun e w' => Apo n T q ln G V P w w' e := by
  obtain ⟨xu, cu_, hU⟩ := lb_all8 hS
  obtain ⟨xv, cv, hW⟩ := lb_all8 hV
  have HU : Hid (∀ W, Below w.heap.size w W → (∀ x, x < n → ∃ b o, aS = some ⟨b, o, none⟩ ∧ W.cell? ⟨b, o + x, none⟩ = some (.slice (xu x) (ln x) (cu_ x))) ∧ ∀ x, x < n → Rb W (.slice (xu x) (ln x) (cu_ x)) (ln x) (G x)) := hU
  have HV : Hid (∀ W, Below w.heap.size w W → (∀ x, x < n → ∃ b o, aV = some ⟨b, o, none⟩ ∧ W.cell? ⟨b, o + x, none⟩ = some (.slice (xv x) T (cv x))) ∧ ∀ x, x < n → Rb W (.slice (xv x) T (cv x)) T (V x)) := hW
  obtain ⟨vb, vo, rfl, q0⟩ := (HV.out w (Below.refl _ _)).1 0 (by omega)
  simp only [Nat.add_zero] at q0
  have HN : Hid (1 ≤ n ∧ n ≤ 256 ∧ 1 ≤ T ∧ T ≤ 1048576 ∧ (∀ x, x < n → ln x = T ∨ ln x = 0) ∧ ∀ x, x < n → (P x = true ↔ ln x ≠ 0 ∧ ∃ z, z < T ∧ V x z ≠ G x z)) := ⟨hn1, hn, hT1, hT, hl, hP⟩
  have n0 : (0 : Int) < (n : Int) := by omega
  have n0N : 0 < n := by omega
  have hmk := make_intsT T (by omega)
  obtain ⟨gc, hgc⟩ : ∃ gc, Hid (w.heap.size = gc) := ⟨_, rfl⟩
  obtain ⟨w1, hw1⟩ : ∃ w1, Hid (w.alloc (.cells (madeCells #[.int .i64 0] T) 3) = w1) := ⟨_, rfl⟩
  have HA : Hid (Ap w w1 gc w1.heap.size T q (Dv n ln V G) P (.slice none 0 0) true 0 0) := by
    have r0 := made_riT w T (by unfold big; omega)
    have b0 : Below w.heap.size w (w.alloc (.cells (madeCells #[.int .i64 0] T) 3)) := (Below.refl _ _).alloc (Nat.le_refl _) _
    have s0 : (w.alloc (.cells (madeCells #[.int .i64 0] T) 3)).heap.size = w.heap.size + 1 := by simp
    rw [hw1.out] at r0 b0 s0
    rw [hgc.out] at r0
    have h9 := hgc.out
    refine ⟨r0.congr (fun z _ => by rw [cu_zero]; rfl), Gj.start _ _ _, ⟨fun _ z _ => by rw [cu_zero]; exact Nat.zero_le _, fun _ => rfl⟩, b0, by omega, by omega, Nat.le_refl _⟩
  clear hS hV hn1 hn hT1 hT hl hP hU hW
  go_enter Tryz.func12, Tryz.ntmps12
  go_wp2
  rw [hw1.out, hgc.out]
  clear hmk hw1 hgc q0 n0 n0N
  go_loopw [8, 10, 23] (fun v b s wr => ∃ (x : Nat) (bb : Bool), x ≤ n ∧ s = .int .i64 (x : Int) ∧ b = .bool bb ∧ Ap w wr gc w1.heap.size T q (Dv n ln V G) P v bb x 0) (fun _ _ s _ => n - (intOf s).toNat)
  case atStart => exact ⟨0, true, Nat.zero_le _, rfl, rfl, HA.out⟩
  case round =>
    obtain ⟨x, bb, hx, rfl, rfl, hA⟩ := hrel
    clear HA
    by_cases hlt : x < n
    · have ib : ((x : Nat) : Int) < (n : Int) := Int.ofNat_lt.2 hlt
      have HWx : Hid (wrap64 ((x : Int) + 1) = (x : Int) + 1) := wrap_lt8 (j := x) (b := n) hlt (by have := HN.out; omega)
      obtain ⟨sb, so, rfl, q1⟩ := (HU.out wr hA.bel).1 x hlt
      have HX : Hid (x < n ∧ Ap w wr gc w1.heap.size T q (Dv n ln V G) P u8 bb x 0) := ⟨hlt, hA⟩
      obtain ⟨l, hl⟩ : ∃ l, Hid (ln x = l) := ⟨_, rfl⟩
      rw [hl.out] at q1
      obtain ⟨w3, hw3⟩ : ∃ w3, Hid (wr = w3) := ⟨_, rfl⟩
      rw [hw3.out] at HX
      clear hA hlt hx
      go_wp2
      rw [hw3.out]
      clear hw3 q1
      have HR : Hid (∀ W, Below w.heap.size w W → ∀ t, t < l → l = T ∧ ∃ b1 o1 b2 o2, xu x = some ⟨b1, o1, none⟩ ∧ W.cell? ⟨b1, o1 + t, none⟩ = some (.int .u8 ((G x t : Nat) : Int)) ∧ W.cell? ⟨vb, vo + x, none⟩ = some (.slice (some ⟨b2, o2, none⟩) T (cv x)) ∧ W.cell? ⟨b2, o2 + t, none⟩ = some (.int .u8 ((V x t : Nat) : Int))) := fun W hW t ht => by
        have hx := HX.out.1
        have e1 : l = T := by
          rcases HN.out.2.2.2.2.1 x hx with e | e
          · rw [← hl.out, e]
          · rw [hl.out] at e; omega
        obtain ⟨b1, o1, e2, c2⟩ := rb_at8 (i := t) ((HU.out W hW).2 x hx) (by rw [hl.out]; exact ht)
        obtain ⟨b9, o9, e9, c9⟩ := (HV.out W hW).1 x hx
        cases e9
        obtain ⟨b3, o3, e3, c3⟩ := rb_at8 (i := t) ((HV.out W hW).2 x hx) (by omega)
        rw [e3] at c9
        exact ⟨e1, b1, o1, b3, o3, e2, c2, c9, c3⟩
      go_loopw [10, 13, 30] (fun b i s wr => ∃ (t ii : Nat) (bb : Bool), t ≤ l ∧ s = .int .i64 (t : Int) ∧ b = .bool bb ∧ i = .int .i64 (ii : Int) ∧ (ii = 1 ∧ (∃ z, z < t ∧ Dv n ln V G x z = true) ∨ ii = 0 ∧ ∀ z, z < t → Dv n ln V G x z = false) ∧ Ap w wr gc w1.heap.size T q (Dv n ln V G) P u8 bb x t) (fun _ _ s _ => l - (intOf s).toNat)
      case atStart => exact ⟨0, 0, _, Nat.zero_le _, rfl, rfl, rfl, .inr ⟨rfl, fun z h => absurd h (Nat.not_lt_zero _)⟩, HX.out.2⟩
      case round =>
        obtain ⟨t, ii, bb, ht, rfl, rfl, rfl, hii, hA⟩ := hrel
        by_cases htl : t < l
        · have it : ((t : Nat) : Int) < (l : Int) := Int.ofNat_lt.2 htl
          obtain ⟨elT, b1, o1, b2, o2, ex, c1, c2, c3⟩ := HR.out wr hA.bel t htl
          subst elT
          have HWt : Hid (wrap64 ((t : Int) + 1) = (t : Int) + 1) := wrap_succ8 (j := t) (by have := HN.out; unfold big; omega)
          by_cases e : G x t = V x t
          · have hD : Dv n ln V G x t = false := dv_same e
            rw [e] at c1
            have HY : Hid (t < l ∧ (ii = 1 ∧ (∃ z, z < t + 1 ∧ Dv n ln V G x z = true) ∨ ii = 0 ∧ ∀ z, z < t + 1 → Dv n ln V G x z = false) ∧ Ap w wr gc w1.heap.size l q (Dv n ln V G) P u8 bb x (t + 1)) := ⟨htl, by
              rcases hii with ⟨e1, z, hz, h9⟩ | ⟨e1, h9⟩
              · exact .inl ⟨e1, z, by omega, h9⟩
              · refine .inr ⟨e1, fun z hz => ?_⟩
                by_cases e2 : z = t
                · rw [e2]; exact hD
                · exact h9 z (by omega), hA.miss hD⟩
            generalize V x t = vv at *
            clear hA htl hii hD ht e
            rw [ex]
            go_wp2
            go_roundw
            case rel => exact ⟨t + 1, ii, bb, HY.out.1, by first | rfl | (rw [HWt.out]; rfl), rfl, rfl, HY.out.2.1, HY.out.2.2⟩
            case measure => first | exact meas_lt8 HY.out.1 | (rw [HWt.out]; exact meas_lt8 HY.out.1)
          · have hD : Dv n ln V G x t = true := dv_true HX.out.1 (by rw [hl.out]; omega) e
            have hne : (((G x t : Nat) : Int) != ((V x t : Nat) : Int)) = true := by simp; omega
            have c4 : wr.cell? ⟨gc, t, none⟩ = some (.int .i64 ((cu (Dv n ln V G) x t t : Nat) : Int)) := hA.row.2.2.cell htl
            have c5 := hA.row.2.2.frozen t
            have hcl := cu_le (Dv n ln V G) x t t
            have W1 : wrap64 (((cu (Dv n ln V G) x t t : Nat) : Int) + 1) = ((cu (Dv n ln V G) x t t + 1 : Nat) : Int) := by have := HX.out.1; have := HN.out; unfold wrap64; omega
            have HII : Hid (∃ z, z < t + 1 ∧ Dv n ln V G x z = true) := ⟨t, by omega, hD⟩
            cases bb with
            | true =>
              by_cases h9 : cu (Dv n ln V G) x t t + 1 ≤ q
              · have d9 : (((cu (Dv n ln V G) x t t + 1 : Nat) : Int)) ≤ (q : Int) := by omega
                have d8 : decide ((((cu (Dv n ln V G) x t t + 1 : Nat) : Int)) ≤ (q : Int)) = true := decide_eq_true d9
                have HY : Hid (t < l ∧ Ap w (wr.setCell ⟨gc, t, none⟩ (.int .i64 ((cu (Dv n ln V G) x t t + 1 : Nat) : Int))) gc w1.heap.size l q (Dv n ln V G) P u8 true x (t + 1)) := ⟨htl, hA.hit htl hD (by rw [d8]; rfl)⟩
                generalize cu (Dv n ln V G) x t t + 1 = c' at *
                generalize cu (Dv n ln V G) x t t = c at *
                generalize G x t = gv at *
                generalize V x t = vv at *
                clear hA hii hD ht e hcl h9
                rw [ex]
                go_wp2
                go_roundw
                case rel => exact ⟨t + 1, 1, true, HY.out.1, by first | rfl | (rw [HWt.out]; rfl), by first | rfl | (rw [d8]), rfl, .inl ⟨rfl, HII.out⟩, HY.out.2⟩
                case measure => first | exact meas_lt8 HY.out.1 | (rw [HWt.out]; exact meas_lt8 HY.out.1)
              · have d9 : ¬ (((cu (Dv n ln V G) x t t + 1 : Nat) : Int)) ≤ (q : Int) := by omega
                have d8 : decide ((((cu (Dv n ln V G) x t t + 1 : Nat) : Int)) ≤ (q : Int)) = false := decide_eq_false d9
                have HY : Hid (t < l ∧ Ap w (wr.setCell ⟨gc, t, none⟩ (.int .i64 ((cu (Dv n ln V G) x t t + 1 : Nat) : Int))) gc w1.heap.size l q (Dv n ln V G) P u8 false x (t + 1)) := ⟨htl, hA.hit htl hD (by rw [d8]; rfl)⟩
                generalize cu (Dv n ln V G) x t t + 1 = c' at *
                generalize cu (Dv n ln V G) x t t = c at *
                generalize G x t = gv at *
                generalize V x t = vv at *
                clear hA hii hD ht e hcl h9
                rw [ex]
                go_wp2
                go_roundw
                case rel => exact ⟨t + 1, 1, false, HY.out.1, by first | rfl | (rw [HWt.out]; rfl), by first | rfl | (rw [d8]), rfl, .inl ⟨rfl, HII.out⟩, HY.out.2⟩
                case measure => first | exact meas_lt8 HY.out.1 | (rw [HWt.out]; exact meas_lt8 HY.out.1)
            | false =>
              have HY : Hid (t < l ∧ Ap w (wr.setCell ⟨gc, t, none⟩ (.int .i64 ((cu (Dv n ln V G) x t t + 1 : Nat) : Int))) gc w1.heap.size l q (Dv n ln V G) P u8 false x (t + 1)) := ⟨htl, hA.hit htl hD rfl⟩
              generalize cu (Dv n ln V G) x t t + 1 = c' at *
              generalize cu (Dv n ln V G) x t t = c at *
              generalize G x t = gv at *
              generalize V x t = vv at *
              clear hA hii hD ht e hcl
              rw [ex]
              go_wp2
              go_roundw
              case rel => exact ⟨t + 1, 1, false, HY.out.1, by first | rfl | (rw [HWt.out]; rfl), rfl, rfl, .inl ⟨rfl, HII.out⟩, HY.out.2⟩
              case measure => first | exact meas_lt8 HY.out.1 | (rw [HWt.out]; exact meas_lt8 HY.out.1)
        · have it : ¬ ((t : Nat) : Int) < (l : Int) := by omega
          have htl2 : t = l := by omega
          subst htl2
          have hx := HX.out.1
          have hend : ∀ z, z < T → z < t ∨ Dv n ln V G x z = false := fun z hz => by
            rcases HN.out.2.2.2.2.1 x hx with e | e
            · rw [hl.out] at e; exact .inl (by omega)
            · exact .inr (dv_empty e)
          have hle : t ≤ T := by
            rcases HN.out.2.2.2.2.1 x hx with e | e <;> rw [hl.out] at e <;> omega
          have hPx := HN.out.2.2.2.2.2 x hx
          rcases hii with ⟨rfl, z, hz, h9⟩ | ⟨rfl, h9⟩
          · have hp : P x = true := hPx.2 ⟨by rw [hl.out]; omega, z, by omega, fun e => by rw [dv_same e.symm] at h9; cases h9⟩
            obtain ⟨w', v', hrun, hA2⟩ := hA.told hend hp (by have := HN.out; omega)
            have HY : Hid (Ap w w' gc w1.heap.size T q (Dv n ln V G) P v' bb (x + 1) 0) := hA2
            clear hA hend hPx hp hA2 ht htl h9 hz hx hle
            go_wp2_with (at_builtin; refine Lib.wpList_append_run _ rfl _ _ _ _ rfl _ _ rfl rfl _ _ hrun ?_; clear hrun)
            go_roundw
            case rel => exact ⟨x + 1, bb, HX.out.1, by first | rfl | (rw [HWx.out]; rfl), rfl, HY.out⟩
            case measure => first | exact meas_lt8 HX.out.1 | (rw [HWx.out]; exact meas_lt8 HX.out.1)
          · have hp : P x = false := by
              cases e : P x with
              | false => rfl
              | true =>
                obtain ⟨h0, z, hz, hne⟩ := hPx.1 e
                have eT : t = T := by
                  rcases HN.out.2.2.2.2.1 x hx with e | e
                  · rw [hl.out] at e; exact e
                  · exact absurd e h0
                have h8 := h9 z (by omega)
                rw [dv_true hx h0 (fun e => hne e.symm)] at h8
                cases h8
            have HY : Hid (Ap w wr gc w1.heap.size T q (Dv n ln V G) P u8 bb (x + 1) 0) := hA.next hend hp
            clear hA hend hPx hp ht htl h9 hx hle
            go_wp2
            go_roundw
            case rel => exact ⟨x + 1, bb, HX.out.1, by first | rfl | (rw [HWx.out]; rfl), rfl, HY.out⟩
            case measure => first | exact meas_lt8 HX.out.1 | (rw [HWx.out]; exact meas_lt8 HX.out.1)
    · have ib : ¬ ((x : Nat) : Int) < (n : Int) := by omega
      obtain rfl : x = n := by omega
      have HY : Hid (w.heap.size ≤ w1.heap.size ∧ (bb = true ↔ ∀ z, z < T → cnb (fun y => Dv x ln V G y z) x ≤ q) ∧ Gj w1.heap.size wr u8 (cnb P x) (fsel P (fun j => j) x) ∧ Below w.heap.size w wr) := ⟨by have := hA.nums; omega, by
        rw [hA.near]
        constructor <;> intro h9 z hz <;> have := h9 z hz <;> rw [cu_zero] at * <;> exact this, hA.list, hA.bel⟩
      clear hA hx hlt
      go_wp2
      go_ret2
      exact ⟨bb, _, _, HY.out.1, rfl, HY.out.2⟩
end Go.Proofs.YtlblkckglelbdaaGreat
namespace Go.Proofs.YtlblkckglelbdaaGreat
open Go.RowKit Gf2
set_option linter.unusedVariables false

-- the top's own parity and word
/-- one list behind another. -/
def jn (k : Nat) {α : Type} (a b : Nat → α) (r : Nat) : α := if r < k then a r else b (r - k)
theorem jn_lo {k : Nat} {α : Type} {a b : Nat → α} {r : Nat} (h : r < k) : jn k a b r = a r := if_pos h
theorem jn_hi {k : Nat} {α : Type} {a b : Nat → α} (r : Nat) : jn k a b (k + r) = b r := by
  unfold jn
  rw [if_neg (by omega), Nat.add_sub_cancel_left]
theorem lv9_join (k m : Nat) (a b : Nat → Value) : lv9 a k ++ lv9 b m = lv9 (jn k a b) (k + m) := by
  unfold lv9
  rw [List.range_add, List.map_append, List.map_map]
  congr 1
  · apply List.map_congr_left
    intro r hr
    exact (jn_lo (List.mem_range.1 hr)).symm
  · apply List.map_congr_left
    intro r _
    exact (jn_hi r).symm
theorem Gl8.join {lo lo2 k m : Nat} {W : World} {v1 v2 : Value} {n1 n2 C1 C2 B1 B2 : Nat → Nat} {S1 S2 : Nat → Nat → Nat} (h : Gl8 lo W v1 k n1 C1 B1 S1) (h2 : Gl8 lo2 W v2 m n2 C2 B2 S2) (hm : 1 ≤ m) (hlo : lo ≤ W.heap.size) (hll : lo ≤ lo2)
    (hb : ∀ r, r < k → B1 r < lo2) (ho : ∀ g, v1.ownBlock = some g → g < lo2) (hN : (k + m) * 24 ≤ 140737488355328) :
    ∃ v' w', (Builtin.append_ #[22, 22] 22 #[v1, v2]).run Tryz.prog W = .ok v' w' ∧ Gl8 lo w' v' (k + m) (jn k n1 n2) (jn k C1 C2) (jn k B1 B2) (jn k S1 S2) ∧ Below lo W w' := by
  obtain ⟨iL, k1, k2, k3, k4⟩ := elyT_l8.info
  obtain ⟨a2, c2, rfl, e1, e2, e3⟩ := h2.list.form
  obtain ⟨g2, rfl, gb, gl, -, gc⟩ := e3 (by omega)
  obtain ⟨g, cp, w5, hrun, own, gr, lies, lt⟩ := run_append_lies (P := Tryz.prog) W 22 22 lo 27 iL (.slice none 0 0) 1 24 elyT_l8.und k1 k2 k3 k4 elyT_l8.cz (by decide)
    v1 k _ h.list ⟨g2, 0, Option.none⟩ m c2 (lv9 (fun r => Value.slice (some ⟨B2 r, 0, none⟩) (n2 r) (C2 r)) m) (by rw [lv9_len]; omega) (fun j u hu => by
      have hj : j < m := by
        have := (List.getElem?_eq_some_iff.1 hu).1
        rwa [lv9_len] at this
      rw [lv9_get _ hj] at hu
      cases hu
      have := gc j hj
      have e0 : (Addr.mk g2 0 none).add j = ⟨g2, j, none⟩ := by simp [Addr.add]; omega
      rw [e0]
      exact this)
    (fun u hu => by
      unfold lv9 at hu
      obtain ⟨r, -, rfl⟩ := List.mem_map.1 hu
      rfl) (by omega) (by unfold maxLen; omega) (by omega) hlo W.heap.size rfl
  have gr2 : ∀ x, x < W.heap.size → v1.ownBlock ≠ some x → w5.heap[x]? = W.heap[x]? := fun x hx hne => gr.block x hx (fun e => hne e.symm)
  have hgb : ∀ x, x < W.heap.size → v1.ownBlock ≠ some x → g ≠ x := fun x hx hne e => by
    rcases lies with e2 | e2
    · exact hne (by rw [e2, e])
    · omega
  have hn2 : ∀ r, r < m → v1.ownBlock ≠ some (B2 r) := fun r hr e => by
    have := ho _ e
    have := (h2.rows r hr).1
    omega
  refine ⟨_, w5, hrun, ⟨?_, fun r hr => ?_, fun r s hr hs hne => ?_, fun r hr e => ?_⟩, ⟨gr.os, gr.tape, gr.output, gr.size, fun x hx => gr.block x (by omega) (fun e => ?_)⟩⟩
  · unfold GxT
    rw [lv9_join] at own
    refine (lv9_congr (fun r hr => ?_)) ▸ own
    by_cases e : r < k
    · rw [jn_lo e, jn_lo e, jn_lo e, jn_lo e]
    · obtain ⟨s, rfl⟩ : ∃ s, r = k + s := ⟨r - k, by omega⟩
      rw [jn_hi, jn_hi, jn_hi, jn_hi]
  · by_cases e : r < k
    · rw [jn_lo e, jn_lo e, jn_lo e, jn_lo e]
      obtain ⟨q1, q2, q3⟩ := h.rows r e
      exact ⟨q1, q2, q3.of_block (gr2 _ q3.lt (h.ne r e))⟩
    · obtain ⟨s, rfl⟩ : ∃ s, r = k + s := ⟨r - k, by omega⟩
      rw [jn_hi, jn_hi, jn_hi, jn_hi]
      obtain ⟨q1, q2, q3⟩ := h2.rows s (by omega)
      exact ⟨by omega, q2, q3.of_block (gr2 _ q3.lt (hn2 s (by omega)))⟩
  · by_cases e : r < k
    · by_cases e2 : s < k
      · rw [jn_lo e, jn_lo e2]; exact h.inj r s e e2 hne
      · obtain ⟨t, rfl⟩ : ∃ t, s = k + t := ⟨s - k, by omega⟩
        rw [jn_lo e, jn_hi]
        have := hb r e
        have := (h2.rows t (by omega)).1
        omega
    · obtain ⟨t, rfl⟩ : ∃ t, r = k + t := ⟨r - k, by omega⟩
      rw [jn_hi]
      by_cases e2 : s < k
      · rw [jn_lo e2]
        have := hb s e2
        have := (h2.rows t (by omega)).1
        omega
      · obtain ⟨u, rfl⟩ : ∃ u, s = k + u := ⟨s - k, by omega⟩
        rw [jn_hi]
        exact h2.inj t u (by omega) (by omega) (by omega)
  · have e9 : g = jn k B1 B2 r := by
      simpa [Value.ownBlock] using e
    by_cases e2 : r < k
    · rw [jn_lo e2] at e9
      exact hgb _ (h.rows r e2).2.2.lt (h.ne r e2) e9
    · obtain ⟨t, rfl⟩ : ∃ t, r = k + t := ⟨r - k, by omega⟩
      rw [jn_hi] at e9
      exact hgb _ (h2.rows t (by omega)).2.2.lt (hn2 t (by omega)) e9
  · have := (World.ownsRow.lt h.list x e.symm).1
    omega
set_option maxHeartbeats 2000000 in
set_option maxRecDepth 100000 in
theorem parity_v (f k m T : Nat) (da : Option Addr) (dc : Nat) (D : Nat → Nat → Nat) (w : World) (hf : f ≤ 1) (h1 : 1 ≤ k) (h2 : k + m ≤ 256) (hT1 : 1 ≤ T) (hT : T ≤ 1048576) (hD : Lb w (.slice da k dc) k (fun _ => T) D) :
    Calls Tryz.prog 25 #[.int .i64 (f : Int), .int .i64 (k : Int), .int .i64 (m : Int), .slice da k dc] w fun e w' => ∃ v lo C B S, e = .returned v ∧ w.heap.size ≤ lo ∧ Gl8 lo w' v m (fun _ => T) C B S ∧ (∀ r, r < m → ∀ t, t < T → S r t = sm19f f k (k + r) (fun l => D l t) k) ∧ Below w.heap.size w w' := by
  have c1 := parity8_v f k m T da dc D w hf h1 h2 hT1 hT hD
  have e2 : ((f : Int) == 2) = false := by simp; omega
  clear hD
  go_enter Tryz.func25, Tryz.ntmps25
  go_wp2_with (go_at_call 33; (with_reducible refine c1.mono ?_); rintro e w1 ⟨v, lo, C, B, S, rfl, hq⟩; have HQ : Hid (w.heap.size ≤ lo ∧ Gl8 lo w1 v m (fun _ => T) C B S ∧ (∀ r, r < m → ∀ t, t < T → S r t = sm19f f k (k + r) (fun l => D l t) k) ∧ Below w.heap.size w w1) := hq; clear c1 hq)
  go_ret
  exact ⟨_, _, _, _, _, rfl, HQ.out⟩
/-- a codeword's byte by its data. -/
def wd (f k : Nat) (D : Nat → Nat → Nat) (x t : Nat) : Nat := if x < k then D x t else sm19f f k x (fun l => D l t) k
set_option maxHeartbeats 2000000 in
set_option maxRecDepth 100000 in
theorem word_v (f k m T : Nat) (da : Option Addr) (dc : Nat) (D : Nat → Nat → Nat) (w : World) (hf : f ≤ 1) (h1 : 1 ≤ k) (h1m : 1 ≤ m) (h2 : k + m ≤ 256) (hT1 : 1 ≤ T) (hT : T ≤ 1048576) (hD : Lb w (.slice da k dc) k (fun _ => T) D) :
    Calls Tryz.prog 10 #[.int .i64 (f : Int), .int .i64 (k : Int), .int .i64 (m : Int), .slice da k dc] w fun e w' => ∃ v C B G, e = .returned v ∧ Gl8 w.heap.size w' v (k + m) (fun _ => T) C B G ∧ (∀ x, x < k + m → ∀ t, t < T → G x t = wd f k D x t) ∧ Below w.heap.size w w' := by
  have c1 := ttwin (.slice da k dc) k (fun _ => T) D w hD (by omega) (fun _ _ => by omega)
  have HP : Hid (∀ w1, Below w.heap.size w w1 → Calls Tryz.prog 25 #[.int .i64 (f : Int), .int .i64 (k : Int), .int .i64 (m : Int), .slice da k dc] w1 fun e w' => ∃ v lo C B S, e = .returned v ∧ w1.heap.size ≤ lo ∧ Gl8 lo w' v m (fun _ => T) C B S ∧ (∀ r, r < m → ∀ t, t < T → S r t = sm19f f k (k + r) (fun l => D l t) k) ∧ Below w1.heap.size w1 w') := fun w1 hb => parity_v f k m T da dc D w1 hf h1 h2 hT1 hT (hD.below hb)
  have HN : Hid (1 ≤ m ∧ k + m ≤ 256) := ⟨h1m, h2⟩
  have HJ : Hid (∀ w1 v1 C1 B1 T1 w2 v2 lo C2 B2 S2, Gl8 w.heap.size w1 v1 k (fun _ => T) C1 B1 T1 → (∀ i, i < k → ∀ j, j < T → T1 i j = D i j) → Below w.heap.size w w1 → w1.heap.size ≤ lo → Gl8 lo w2 v2 m (fun _ => T) C2 B2 S2 → (∀ r, r < m → ∀ t, t < T → S2 r t = sm19f f k (k + r) (fun l => D l t) k) → Below w1.heap.size w1 w2 →
      ∃ v' w', (Builtin.append_ #[22, 22] 22 #[v1, v2]).run Tryz.prog w2 = .ok v' w' ∧ ∃ C B G, Gl8 w.heap.size w' v' (k + m) (fun _ => T) C B G ∧ (∀ x, x < k + m → ∀ t, t < T → G x t = wd f k D x t) ∧ Below w.heap.size w w') := by
    intro w1 v1 C1 B1 T1 w2 v2 lo C2 B2 S2 g1 e1 b1 hl g2 e2 b2
    obtain ⟨v', w', hrun, hG, hb⟩ := (g1.below b2).join g2 h1m (Nat.le_trans b1.size b2.size) (Nat.le_trans b1.size hl) (fun r hr => Nat.lt_of_lt_of_le (g1.rows r hr).2.2.lt hl) (fun g hg => Nat.lt_of_lt_of_le (World.ownsRow.lt g1.list g hg).2 hl) (by omega)
    have ej : ∀ r, jn k (fun _ => T) (fun _ => T) r = T := fun r => by unfold jn; split <;> rfl
    refine ⟨v', w', hrun, jn k C1 C2, jn k B1 B2, jn k T1 S2, ⟨hG.list.congr (fun r hr => by rw [ej]), fun r hr => ?_, hG.inj, hG.ne⟩, fun x hx t ht => ?_, (b1.trans (b2.mono b1.size)).trans hb⟩
    · have := hG.rows r hr
      rwa [ej] at this
    · unfold wd
      by_cases e : x < k
      · rw [jn_lo e, if_pos e, e1 x e t ht]
      · obtain ⟨s, rfl⟩ : ∃ s, x = k + s := ⟨x - k, by omega⟩
        rw [jn_hi, if_neg e, e2 s (by omega) t ht]
  clear hf h1 h1m h2 hT1 hT hD
  go_enter Tryz.func10, Tryz.ntmps10
  go_wp2_with (first
    | (go_at_call 11; (with_reducible refine c1.mono ?_); rintro e w1 ⟨v1, C1, B1, T1, rfl, g1, e1, b1⟩; have c2 := HP.out w1 b1; have HJ2 := HJ.out w1 v1 C1 B1 T1; have HG1 : Hid (Gl8 w.heap.size w1 v1 k (fun _ => T) C1 B1 T1 ∧ (∀ i, i < k → ∀ j, j < T → T1 i j = D i j) ∧ Below w.heap.size w w1) := ⟨g1, e1, b1⟩; clear c1 g1 e1 b1 HP)
    | (go_at_call 25; (with_reducible refine c2.mono ?_); rintro e w2 ⟨v2, lo, C2, B2, S2, rfl, hl, g2, e2, b2⟩; obtain ⟨v', w', hrun, hq⟩ := HJ2 w2 v2 lo C2 B2 S2 HG1.out.1 HG1.out.2.1 HG1.out.2.2 hl g2 e2 b2; have HQ : Hid (∃ C B G, Gl8 w.heap.size w' v' (k + m) (fun _ => T) C B G ∧ (∀ x, x < k + m → ∀ t, t < T → G x t = wd f k D x t) ∧ Below w.heap.size w w') := hq; clear c2 HJ2 hl g2 e2 b2 hq)
    | (at_builtin; refine Lib.wpList_append_run _ rfl _ _ _ _ rfl _ _ rfl rfl _ _ hrun ?_; clear hrun))
  go_ret
  obtain ⟨C, B, G, hq⟩ := HQ.out
  exact ⟨_, C, B, G, rfl, hq⟩
end Go.Proofs.YtlblkckglelbdaaGreat
