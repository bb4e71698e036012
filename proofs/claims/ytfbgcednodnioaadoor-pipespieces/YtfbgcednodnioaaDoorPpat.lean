import Derived.Test.YtfbgcednodnioaaDoorPpas
import Derived.Deep.Cut
import Derived.Deep.DeepCutAuto
namespace Go.Proofs.YtfbgcednodnioaaDoor
open Go.RowKit Gf2
set_option linter.unusedVariables false

/-- PipesPieces' beginning: two sources. -/
theorem pieces_a22 (da : Option Addr) (n dc : Nat) (ca : Option Addr) (k1 cc : Nat) (ha : Option Addr) (k2 hc : Nat) (D : Nat → Nat) (C1 C2 : Nat → Int) (fa code : Int) (x : Addr) (w w1 : World) (hd : Bi (fun y => y < w.heap.size) w (.slice da n dc) n D) (h1 : Ii (fun y => y < w.heap.size) w (.slice ca k1 cc) k1 C1) (h2 : Ii (fun y => y < w.heap.size) w (.slice ha k2 hc) k2 C2) (hn : n ≤ 140737488355328) (hk1 : k1 * 8 ≤ 140737488355328) (hk2 : k2 * 8 ≤ 140737488355328) (hf : I6x fa)
    (i1 : ∀ i, i < k1 → I6x (C1 i)) (i2 : ∀ i, i < k2 → I6x (C2 i)) (hE : En22 w x) (d1 : Std22 k1 C1) (d2 : Std22 k2 C2) (hb : Bz22 w w1 (.slice da n dc) (.slice ca k1 cc) fa code) :
    Calls Tryd.prog 16 #[.agg #[.slice da n dc, .slice ca k1 cc, .int .i64 fa, .int .i64 code]] w1 fun e w2 => ∃ b1, e = .returned (.pointer (some ⟨b1, 0, none⟩)) ∧ Bz22 w w2 (.slice da n dc) (.slice ca k1 cc) fa code ∧
    Calls Tryd.prog 16 #[.agg #[.slice da n dc, .slice ha k2 hc, .int .i64 fa, .int .i64 code]] w2 fun e w3 => ∃ b2, e = .returned (.pointer (some ⟨b2, 0, none⟩)) ∧ ∃ lo1 hi1 f1 lo2 hi2 f2, Pp22 w w3 x (.slice da n dc) (.slice ca k1 cc) lo1 hi1 b1 f1 lo2 hi2 b2 f2 n D k1 C1 k2 C2 fa code 0 := by
  refine (source22 da n dc ca k1 cc D C1 fa code w1 (hd.rb.below hb.bel) (h1.qi.below hb.bel) hn hk1 hf).mono fun e w2 ⟨b1, f1, lo1, he, s1, l1, q1⟩ => ⟨b1, he, hb.below q1, ?_⟩
  have hb2 := hb.below q1
  refine (source22 da n dc ha k2 hc D C2 fa code w2 (hd.rb.below hb2.bel) (h2.qi.below hb2.bel) hn hk2 hf).mono fun e w3 ⟨b2, f2, lo2, he, s2, l2, q2⟩ => ⟨b2, he, lo1, w2.heap.size, f1, lo2, w3.heap.size, f2, ⟨_, s1.below q2⟩, ⟨_, s2⟩, hb2.below q2, l2, by have := hb.lt; omega, hE, i1, i2, d1, d2⟩
set_option maxHeartbeats 4000000 in
set_option maxRecDepth 100000 in
theorem pipesPieces_any (da : Option Addr) (n dc : Nat) (ca : Option Addr) (k1 cc : Nat) (ha : Option Addr) (k2 hc : Nat) (D : Nat → Nat) (C1 C2 : Nat → Int) (fa code : Int) (x : Addr) (sv : Option Addr) (ns sc : Nat) (Z : Nat → Int) (w : World) (hd : Bi (fun y => y < w.heap.size) w (.slice da n dc) n D) (h1 : Ii (fun y => y < w.heap.size) w (.slice ca k1 cc) k1 C1) (h2 : Ii (fun y => y < w.heap.size) w (.slice ha k2 hc) k2 C2) (hn : n ≤ 140737488355328) (hk1 : k1 * 8 ≤ 140737488355328) (hk2 : k2 * 8 ≤ 140737488355328) (hf : I6x fa)
    (i1 : ∀ i, i < k1 → I6x (C1 i)) (i2 : ∀ i, i < k2 → I6x (C2 i)) (hE : En22 w x) (hs : Qi w (.slice sv ns sc) ns Z) (hns : ns ≤ 140737488355328) :
    Calls Tryd.prog 8 #[.agg #[.slice da n dc, .slice ca k1 cc, .int .i64 fa, .int .i64 code], .slice ha k2 hc, .slice sv ns sc] w fun e w' => e = .returned (.bool true) ∧ Below w.heap.size w w' := by
  have B0 : Bz22 w (w.alloc (.cells #[.slice da n dc, .slice ca k1 cc, .int .i64 fa, .int .i64 code] 43)) (.slice da n dc) (.slice ca k1 cc) fa code := ⟨(Below.refl _ _).alloc (Nat.le_refl _) _, heap_alloc_new _ _⟩
  have c1 := awake22 (w.alloc (.cells #[.slice da n dc, .slice ca k1 cc, .int .i64 fa, .int .i64 code] 43))
  have HB0 : Hid (∀ w1, Below (w.alloc (.cells #[.slice da n dc, .slice ca k1 cc, .int .i64 fa, .int .i64 code] 43)).heap.size (w.alloc (.cells #[.slice da n dc, .slice ca k1 cc, .int .i64 fa, .int .i64 code] 43)) w1 → Bz22 w w1 (.slice da n dc) (.slice ca k1 cc) fa code) := fun w1 hb => B0.below hb
  by_cases d1 : Std22 k1 C1
  case neg =>
    have HC : Hid (∀ w1, Bz22 w w1 (.slice da n dc) (.slice ca k1 cc) fa code → Calls Tryd.prog 27 #[.slice ca k1 cc] w1 fun e w' => e = .returned (.bool false) ∧ w' = w1) := fun w1 hb => steady22_no _ _ _ C1 w1 (h1.qi.below hb.bel) (by omega) d1
    clear hd h1 h2 hn hk1 hk2 hf i1 i2 hE hs hns B0 d1
    go_enter Tryd.func8, Tryd.ntmps8
    go_wp2_with (first
      | (go_at_call 15; (with_reducible refine c1.mono ?_); rintro e w1 ⟨rfl, hb⟩; have hB := HB0.out w1 hb; have HB : Hid _ := hB; have c2 := HC.out w1 hB; have z1 := hB.cells.2.1; clear c1 hb HB0 hB HC)
      | (go_at_call 27; (with_reducible refine c2.mono ?_); rintro e w9 ⟨rfl, hw9⟩; have hw9 := hw9.symm; subst hw9; clear c2))
    go_ret
    exact ⟨rfl, HB.out.bel⟩
  case pos =>
  have HC : Hid (∀ w1, Bz22 w w1 (.slice da n dc) (.slice ca k1 cc) fa code → Calls Tryd.prog 27 #[.slice ca k1 cc] w1 fun e w' => e = .returned (.bool true) ∧ w' = w1) := fun w1 hb => steady22_yes _ _ _ C1 w1 (h1.qi.below hb.bel) (by omega) d1
  by_cases d2 : Std22 k2 C2
  case neg =>
    have HD : Hid (∀ w1, Bz22 w w1 (.slice da n dc) (.slice ca k1 cc) fa code → Calls Tryd.prog 27 #[.slice ha k2 hc] w1 fun e w' => e = .returned (.bool false) ∧ w' = w1) := fun w1 hb => steady22_no _ _ _ C2 w1 (h2.qi.below hb.bel) (by omega) d2
    clear hd h1 h2 hn hk1 hk2 hf i1 i2 hE hs hns B0 d1 d2
    go_enter Tryd.func8, Tryd.ntmps8
    go_wp2_with (first
      | (go_at_call 15; (with_reducible refine c1.mono ?_); rintro e w1 ⟨rfl, hb⟩; have hB := HB0.out w1 hb; have HB : Hid _ := hB; have c2 := HC.out w1 hB; have c3 := HD.out w1 hB; have z1 := hB.cells.2.1; clear c1 hb HB0 hB HC HD)
      | (go_at_call 27; (with_reducible refine c2.mono ?_); rintro e w9 ⟨rfl, hw9⟩; have hw9 := hw9.symm; subst hw9; clear c2)
      | (go_at_call 27; (with_reducible refine c3.mono ?_); rintro e w9 ⟨rfl, hw9⟩; have hw9 := hw9.symm; subst hw9; clear c3))
    go_ret
    exact ⟨rfl, HB.out.bel⟩
  case pos =>
  have HD : Hid (∀ w1, Bz22 w w1 (.slice da n dc) (.slice ca k1 cc) fa code → Calls Tryd.prog 27 #[.slice ha k2 hc] w1 fun e w' => e = .returned (.bool true) ∧ w' = w1) := fun w1 hb => steady22_yes _ _ _ C2 w1 (h2.qi.below hb.bel) (by omega) d2
  have HA : Hid (∀ w1, Bz22 w w1 (.slice da n dc) (.slice ca k1 cc) fa code → _) := fun w1 hb => pieces_a22 da n dc ca k1 cc ha k2 hc D C1 C2 fa code x w w1 hd h1 h2 hn hk1 hk2 hf i1 i2 hE d1 d2 hb
  have HS : Hid (Qi w (.slice sv ns sc) ns Z ∧ ns ≤ 140737488355328 ∧ n ≤ 140737488355328 ∧ Bi (fun y => y < w.heap.size) w (.slice da n dc) n D) := ⟨hs, hns, hn, hd⟩
  clear hd h1 h2 hn hk1 hk2 hf i1 i2 hE hs hns B0 d1 d2
  go_enter Tryd.func8, Tryd.ntmps8
  go_upto_region 8 with (first
    | (go_at_call 15; (with_reducible refine c1.mono ?_); rintro e w1 ⟨rfl, hb⟩; have hB := HB0.out w1 hb; have HB : Hid _ := hB; have c2 := HC.out w1 hB; have c3 := HD.out w1 hB; have c4 := HA.out w1 hB; obtain ⟨z0, z1, z2, z3⟩ := hB.cells; clear c1 hb HB0 hB HC HD HA)
    | (go_at_call 27; (with_reducible refine c2.mono ?_); rintro e w9 ⟨rfl, hw9⟩; have hw9 := hw9.symm; subst hw9; clear c2)
    | (go_at_call 27; (with_reducible refine c3.mono ?_); rintro e w9 ⟨rfl, hw9⟩; have hw9 := hw9.symm; subst hw9; clear c3)
    | (go_at_call 16; (with_reducible refine c4.mono ?_); rintro e w2 ⟨b1, rfl, hB2, c5⟩; clear c4 z0 z1 z2 z3; obtain ⟨y0, y1, y2, y3⟩ := hB2.cells; clear hB2)
    | (go_at_call 16; (with_reducible refine c5.mono ?_); rintro e w3 ⟨b2, rfl, hP⟩; have HP : Hid _ := hP; clear c5 y0 y1 y2 y3; obtain ⟨z0, z1, z2, z3⟩ : w3.cell? ⟨w.heap.size, 0, none⟩ = some (.slice da n dc) ∧ w3.cell? ⟨w.heap.size, 1, none⟩ = some (.slice ca k1 cc) ∧ w3.cell? ⟨w.heap.size, 2, none⟩ = some (.int .i64 fa) ∧ w3.cell? ⟨w.heap.size, 3, none⟩ = some (.int .i64 code) := (by obtain ⟨_, _, _, _, _, _, h⟩ := hP; exact h.bz.cells); clear hP))
  obtain ⟨lo1, hi1, f1, lo2, hi2, f2, hP⟩ := HP.out
  have HP0 : Hid (Pp22 w w3 x (.slice da n dc) (.slice ca k1 cc) lo1 hi1 b1 f1 lo2 hi2 b2 f2 n D k1 C1 k2 C2 fa code 0) := hP
  clear HP hP
  go_cut [53] (fun s53 wc => s53 = .bool (decide (0 ≤ fa ∧ fa < (n : Int))) ∧ wc = w3)
  case first =>
    by_cases h0 : 0 ≤ fa
    · have D0 : decide (0 ≤ fa) = true := decide_eq_true h0
      by_cases h1 : fa < (n : Int)
      · have hD : decide (0 ≤ fa ∧ fa < (n : Int)) = true := decide_eq_true ⟨h0, h1⟩
        have D1 : decide (fa < (n : Int)) = true := decide_eq_true h1
        go_wp2
        go_meet
        exact ⟨by rw [hD], rfl⟩
      · have hD : decide (0 ≤ fa ∧ fa < (n : Int)) = false := decide_eq_false (fun h => h1 h.2)
        have D1 : decide (fa < (n : Int)) = false := decide_eq_false h1
        go_wp2
        go_meet
        exact ⟨by rw [hD], rfl⟩
    · have hD : decide (0 ≤ fa ∧ fa < (n : Int)) = false := decide_eq_false (fun h => h0 h.1)
      have D0 : decide (0 ≤ fa) = false := decide_eq_false h0
      go_wp2
      go_meet
      exact ⟨by rw [hD], rfl⟩
  case rest =>
  obtain ⟨rfl, hwc⟩ := hcut
  have hwc := hwc.symm
  subst hwc
  go_upto_if 53 with (fail)
  go_cut [9] (fun s9 wc => ∃ y : Nat, s9 = .int .i64 (y : Int) ∧ Hid (y = la22 n fa) ∧ wc = w3)
  case first =>
    by_cases hc : 0 ≤ fa ∧ fa < (n : Int)
    · have e1 : la22 n fa = fa.toNat := if_pos hc
      have e2 : ((fa.toNat : Nat) : Int) = fa := Int.toNat_of_nonneg hc.1
      rw [decide_eq_true hc]
      go_wp2
      go_meet
      exact ⟨fa.toNat, by rw [e2], e1.symm, rfl⟩
    · have e1 : la22 n fa = n := if_neg hc
      rw [decide_eq_false hc]
      go_wp2
      go_meet
      exact ⟨n, rfl, e1.symm, rfl⟩
  case rest =>
  obtain ⟨last, rfl, HL, hwc⟩ := hcut
  have hwc := hwc.symm
  subst hwc
  clear z0 z1 z2 z3
  go_upto_region 12 with (fail)
  go_loopw [10, 58] (fun s10 s58 wr => ∃ (i p : Nat), i ≤ ns ∧ s10 = .int .i64 (p : Int) ∧ s58 = .int .i64 (i : Int) ∧ Pp22 w wr x (.slice da n dc) (.slice ca k1 cc) lo1 hi1 b1 f1 lo2 hi2 b2 f2 n D k1 C1 k2 C2 fa code p) (fun _ s58 _ => ns - (intOf s58).toNat)
  case atStart => exact ⟨0, 0, Nat.zero_le _, rfl, rfl, HP0.out⟩
  case round =>
    obtain ⟨i, p, hi', rfl, rfl, hP⟩ := hrel
    clear HP0
    by_cases hlt : i < ns
    · obtain ⟨-, -, sa, scc, es, -, -, hq⟩ := HS.out.1
      cases es
      obtain ⟨sb, so, rfl, hsl, hsc⟩ := hq (by omega)
      have q1 : wr.cell? ⟨sb, so + i, none⟩ = some (.int .i64 (Z i)) := (hP.bz.bel.cell (p := ⟨sb, so + i, none⟩) hsl).trans (hsc i hlt)
      have ib : ((i : Nat) : Int) < (ns : Int) := Int.ofNat_lt.2 hlt
      have hz := zn22_lt (Z i)
      have A1 := and1023_22 (Z i)
      obtain ⟨l, hl⟩ : ∃ l, l = zn22 (Z i) := ⟨_, rfl⟩
      rw [← hl] at A1 hz
      obtain ⟨g1, wa, g2, wb, mk1, mk2, c1, m, r, v1, v2, a', dd, hR, hcut, c2⟩ := pieces_r22 l hP hz da dc HS.out.2.2.2
      have Hi : Hid (i < ns ∧ wrap64 ((i : Int) + 1) = (i : Int) + 1) := ⟨hlt, by have := HS.out.2.1; unfold wrap64; omega⟩
      have HR : Hid _ := hR
      have hp1 := run_head22 (some ⟨g1, 0, none⟩) l l m hR.ml
      have hp2 := run_head22 (some ⟨g2, 0, none⟩) l l m hR.ml
      have W1 : wrap64 ((p : Int) + (m : Int)) = (r : Int) := by
        have h1 := hR.re
        have h2 := hR.ml
        have h3 := hP.la
        have h4 : la22 n fa ≤ n := by unfold la22; split <;> omega
        have h5 := HS.out.2.2.1
        unfold wrap64; omega
      have D1 : decide ((m : Int) < 0) = false := decide_eq_false (by omega)
      have D2 : decide ((l : Int) < (m : Int)) = false := decide_eq_false (by have := hR.ml; omega)
      have D3 : decide ((last : Int) < (r : Int)) = false := decide_eq_false (by have := hR.rl; have := HL.out; omega)
      have D2n : decide (l < m) = false := decide_eq_false (by have := hR.ml; omega)
      have D3n : decide (last < r) = false := decide_eq_false (by have := hR.rl; have := HL.out; omega)
      have D2p : m ≤ l := hR.ml
      have D3p : r ≤ last := by have := hR.rl; have := HL.out; omega
      clear hP hi' hlt hsl hsc hq hl hz hR
      go_upto_region 21 with (first
        | (go_at_call 19; (with_reducible refine c1.mono ?_); rintro e w9 ⟨rfl, hw9⟩; have hw9 := hw9.symm; subst hw9; clear c1 q1 mk1 mk2)
        | (go_at_call 25; (with_reducible refine c2.mono ?_); rintro e w4 ⟨rfl, c3⟩; clear c2)
        | (go_at_call 25; (with_reducible refine c3.mono ?_); rintro e w5 ⟨rfl, hP, c4, c5⟩; clear c3; have HP : Hid _ := hP; obtain ⟨z0, z1, z2, z3⟩ := hP.bz.cells; clear hP))
      clear ib A1
      go_quiet ((first
        | (go_at_call 22; with_reducible exact Calls.quiet_of (c4 _))
        | (go_at_call 22; with_reducible exact Calls.quiet_of (c5 _))))
      clear c4 c5 hcut hp1 hp2 D1 D2 D3 D2n D3n D2p D3p z0 z1 z2 z3
      obtain ⟨w6, hw6⟩ : ∃ w6, w6 = w5.drewN nq := ⟨_, rfl⟩
      rw [← hw6]
      have HQ : Hid (Pp22 w w6 x (.slice da n dc) (.slice ca k1 cc) lo1 hi1 b1 f1 lo2 hi2 b2 f2 n D k1 C1 k2 C2 fa code r) := by rw [hw6]; exact HP.out.drewN nq
      clear hw6 HP
      by_cases hml : m = l
      · obtain ⟨hv1, hv2⟩ := HR.out.e0 hml
        subst hv1 hv2
        have hml' := hml.symm
        subst hml'
        clear hml HR
        have N1 : ∀ W : World, Sem.run Tryd.prog (binOp BinOp.neq 35 Value.nilIface Value.nilIface) W = .ok (.bool false) W := fun W => by kernel_rfl
        go_wp2
        have Wi := Hi.out.2
        go_roundw
        case rel => exact ⟨i + 1, r, Hi.out.1, by first | rfl | (rw [W1]), by first | rfl | (rw [Wi]; rfl), HQ.out⟩
        case measure => first | exact meas_lt8 Hi.out.1 | (rw [Wi]; exact meas_lt8 Hi.out.1)
      · have M1 : ¬ (m : Int) = (l : Int) := by omega
        have M2 : decide ((m : Int) = (l : Int)) = false := decide_eq_false M1
        have M3 : ((m : Int) == (l : Int)) = false := by simp; omega
        have hrl : r = last := by rw [HL.out]; exact HR.out.ro hml
        obtain ⟨z0, z1, z2, z3⟩ := HQ.out.bz.cells
        by_cases h2 : 0 ≤ fa ∧ fa ≤ (n : Int)
        · obtain ⟨hv1, hv2⟩ := HR.out.e2 hml h2
          subst hv1 hv2
          subst hrl
          have D0 : decide (0 ≤ fa) = true := decide_eq_true h2.1
          have D1 : decide (fa ≤ (n : Int)) = true := decide_eq_true h2.2
          have h20 := h2.1
          have h21 := h2.2
          obtain ⟨t1, s1⟩ := HQ.out.s1
          obtain ⟨t2, s2⟩ := HQ.out.s2
          have c1 := srcfail22 w6 s1
          have c2 := srcfail22 w6 s2
          rw [show fe22 fa f1 = .iface 22 (.pointer (some ⟨f1, 0, none⟩)) from if_neg (by omega)] at c1
          rw [show fe22 fa f2 = .iface 22 (.pointer (some ⟨f2, 0, none⟩)) from if_neg (by omega)] at c2
          have e1 := nef22 w6 f1
          have e2 := nef22 w6 f2
          have e3 : ∀ W : World, Sem.run Tryd.prog (binOp BinOp.eql 35 (Value.iface 22 (.pointer (some ⟨f1, 0, none⟩))) Value.nilIface) W = .ok (.bool false) W := fun W => by kernel_rfl
          have e4 : ∀ W : World, Sem.run Tryd.prog (binOp BinOp.eql 35 (Value.iface 22 (.pointer (some ⟨f2, 0, none⟩))) Value.nilIface) W = .ok (.bool false) W := fun W => by kernel_rfl
          have e5 := HQ.out.two h2.1 0
          rw [World.drewN_zero] at e5
          clear s1 s2 HR HL h2
          go_wp2_with (first
            | (go_at_call 11; (with_reducible refine c1.mono ?_); rintro e w9 ⟨rfl, hw9⟩; have hw9 := hw9.symm; subst hw9; clear c1)
            | (go_at_call 11; (with_reducible refine c2.mono ?_); rintro e w9 ⟨rfl, hw9⟩; have hw9 := hw9.symm; subst hw9; clear c2))
          have Wi := Hi.out.2
          go_roundw
          case rel => exact ⟨i + 1, r, Hi.out.1, by first | rfl | (rw [W1]), by first | rfl | (rw [Wi]; rfl), HQ.out⟩
          case measure => first | exact meas_lt8 Hi.out.1 | (rw [Wi]; exact meas_lt8 Hi.out.1)
        · obtain ⟨hv1, hv2⟩ := HR.out.e1 hml h2
          subst hv1 hv2
          subst hrl
          have zE := HQ.out.end_
          have e1 := nes22 w6 x
          clear HR HL
          by_cases h20 : 0 ≤ fa
          · have D0 : decide (0 ≤ fa) = true := decide_eq_true h20
            have h21 : ¬ fa ≤ (n : Int) := fun h => h2 ⟨h20, h⟩
            have D1 : decide (fa ≤ (n : Int)) = false := decide_eq_false h21
            have D4 : (n : Int) < fa := by omega
            clear h2
            go_wp2
            have Wi := Hi.out.2
            go_roundw
            case rel => exact ⟨i + 1, r, Hi.out.1, by first | rfl | (rw [W1]), by first | rfl | (rw [Wi]; rfl), HQ.out⟩
            case measure => first | exact meas_lt8 Hi.out.1 | (rw [Wi]; exact meas_lt8 Hi.out.1)
          · have D0 : decide (0 ≤ fa) = false := decide_eq_false h20
            have D4 : fa < 0 := by omega
            clear h2
            go_wp2
            have Wi := Hi.out.2
            go_roundw
            case rel => exact ⟨i + 1, r, Hi.out.1, by first | rfl | (rw [W1]), by first | rfl | (rw [Wi]; rfl), HQ.out⟩
            case measure => first | exact meas_lt8 Hi.out.1 | (rw [Wi]; exact meas_lt8 Hi.out.1)
    · have ib : ¬ ((i : Nat) : Int) < (ns : Int) := by omega
      have HB : Hid _ := hP.bz.bel
      obtain ⟨t1, s1⟩ := hP.s1
      obtain ⟨t2, s2⟩ := hP.s2
      have c1 := taken22 wr s1
      have c2 := taken22 wr s2
      clear hP hi' hlt s1 s2
      go_wp2_with (first
        | (go_at_call 19; (with_reducible refine c1.mono ?_); rintro e w9 ⟨rfl, hw9⟩; have hw9 := hw9.symm; subst hw9; clear c1)
        | (go_at_call 19; (with_reducible refine c2.mono ?_); rintro e w9 ⟨rfl, hw9⟩; have hw9 := hw9.symm; subst hw9; clear c2))
      go_ret
      exact ⟨rfl, HB.out⟩
end Go.Proofs.YtfbgcednodnioaaDoor
