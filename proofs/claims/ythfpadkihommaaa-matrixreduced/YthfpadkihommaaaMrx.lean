import Derived.Test.YthfpadkihommaaaMrt
namespace Go.Proofs.Ythfpadkihommaaa
open Go.RowKit Gf2
set_option linter.unusedVariables false

theorem rows10q {w : World} {u : Value} {m n : Nat} {S : Nat → Nat → Nat} (h : Lb w u m (fun _ => n) S) (h0 : 1 ≤ m) (h1 : 1 ≤ n) : ∃ b o cap, ∃ BX OX CX : Nat → Nat, u = .slice (some ⟨b, o, none⟩) m cap ∧ ∀ y, Below w.heap.size w y → ∀ i, i < m → y.cell? ⟨b, o + i, none⟩ = some (.slice (some ⟨BX i, OX i, none⟩) n (CX i)) ∧ Rb y (.slice (some ⟨BX i, OX i, none⟩) n (CX i)) n (S i) := by
  obtain ⟨V, ⟨hnb, a, cap, rfl, -, -, h4⟩, hV⟩ := h
  obtain ⟨b, o, rfl, hbl, hc⟩ := h4 h0
  have each : ∀ i, ∃ bx ox cx, i < m → V i = .slice (some ⟨bx, ox, none⟩) n cx := fun i => by
    by_cases hi : i < m
    · obtain ⟨_, _, x, cx, e, h5, _, h6⟩ := hV i hi
      obtain ⟨bx, ox, e1, _⟩ := h6 h1
      exact ⟨bx, ox, cx, fun _ => by rw [e, e1]⟩
    · exact ⟨0, 0, 0, fun h => absurd h hi⟩
  obtain ⟨BX, h1⟩ := Classical.skolem.1 each
  obtain ⟨OX, h2⟩ := Classical.skolem.1 h1
  obtain ⟨CX, h3⟩ := Classical.skolem.1 h2
  refine ⟨b, o, cap, BX, OX, CX, rfl, fun y hy i hi => ?_⟩
  have e := h3 i hi
  have hr := (hV i hi).rb.below hy
  rw [e] at hr
  exact ⟨by rw [← e, ← hc i hi]; exact hy.cell (p := ⟨b, o + i, none⟩) hbl.1, hr⟩

set_option maxHeartbeats 4000000 in
set_option maxRecDepth 100000 in
theorem red10_d (u : Value) (m c : Nat) (S : Nat → Nat → Nat) (w : World) (h : Lb w u m (fun _ => c) S) (h1 : 1 ≤ m) (h2 : m ≤ 64) (h3 : 1 ≤ c) (h4 : c ≤ 64) (hS : ∀ i j, S i j < 256) :
    Calls Try.prog 4 #[u] w fun e w' => e = .returned (.bool true) ∧ Below w.heap.size w w' := by
  have q1 := red_first w
  have HA : Hid (∀ W, Below w.heap.size w W → Calls Try.prog 11 #[u] W fun e W4 => e = .returned (.int .i64 (m : Int)) ∧ Below w.heap.size w W4 ∧ Calls Try.prog 13 #[u] W4 fun e W5 => ∃ t5, e = .returned t5 ∧
    Calls Try.prog 18 #[t5] W5 fun e W6 => ∃ v pv, e = .returned (.tuple #[v, pv, .int .i64 0]) ∧ Fa w W6 u v pv m c S (elm m S c)) := fun W hb => red_a hb h h1 (by omega) h3 (by omega) hS
  obtain ⟨b, o, cap, BX, OX, CX, rfl, hU⟩ := rows10q h h1 h3
  have HU : Hid _ := hU
  have i0 : (0 : Int) < (m : Int) := Int.ofNat_lt.2 h1
  have j1 : ((m : Int) == 0) = false := by simp; omega
  have k2 : decide (64 < (m : Int)) = false := by simp; omega
  have k3 : decide (64 < (c : Int)) = false := by simp; omega
  have HN : Hid (1 ≤ m ∧ m ≤ 64 ∧ 1 ≤ c ∧ c ≤ 64) := ⟨h1, h2, h3, h4⟩
  have HR : Hid (Red m c S (elm m S c)) := red_elm hS c
  have HB : Hid (∀ W v pv, Fa w W (.slice (some ⟨b, o, none⟩) m cap) v pv m c S (elm m S c) → _) := fun W v pv hF => red_b hF h1 (by omega) h3 (by omega) hS
  clear h h1 h2 h3 h4 hS hU
  generalize elm m S c = s at HA HR HB
  obtain ⟨M, T, P, d⟩ := s
  go_enter Try.func4, Try.ntmps4
  go_wp2_with (first
    | (go_at_call 18; first
      | ((with_reducible refine q1.mono ?_); rintro e W1 ⟨v1, p1, rfl, q2⟩; clear q1)
      | ((with_reducible refine q6.mono ?_); rintro e W6 ⟨v, pv, rfl, hF⟩; clear q6; obtain ⟨vb, vo, vcap, rfl⟩ := hF.v.head HN.out.1; obtain ⟨pa, pc, hpv⟩ : ∃ pa pc, pv = .slice pa T pc := by obtain ⟨_, _, a, c', e', _⟩ := hF.p; exact ⟨a, c', e'⟩
         subst hpv; have HF : Hid _ := hF; clear hF))
    | (go_at_call 10; (with_reducible refine q2.mono ?_); rintro e W2 ⟨rfl, q3⟩; clear q2)
    | (go_at_call 19; (with_reducible refine q3.mono ?_); rintro e W3 ⟨rfl, hb3⟩; clear q3; have q4 := HA.out W3 hb3; clear hb3)
    | (go_at_call 11; (with_reducible refine q4.mono ?_); rintro e W4 ⟨rfl, hb4, q5⟩; clear q4; have z0 := (HU.out W4 hb4 0 HN.out.1).1; rw [Nat.add_zero] at z0; clear hb4)
    | (go_at_call 13; (with_reducible refine q5.mono ?_); rintro e W5 ⟨t5, rfl, q6⟩; clear q5))
  clear z0 HA j1 k2 k3
  have HV : Hid (∀ y, Below W6.heap.size W6 y → ∀ r, r < m → ∃ x cx, y.cell? ⟨vb, vo + r, none⟩ = some (.slice x c cx)) := fun y hy r hr => by
    obtain ⟨b', o', cap', BY, OY, CY, e', hV⟩ := rows10q HF.out.v HN.out.1 HN.out.2.2.1
    cases e'
    exact ⟨_, _, (hV y hy r hr).1⟩
  go_loopw [7] (fun i wr => ∃ r : Nat, r ≤ m ∧ i = .int .i64 r ∧ Hid (Below W6.heap.size W6 wr)) (fun i _ => m - (intOf i).toNat)
  case atStart => exact ⟨0, Nat.zero_le _, rfl, Below.refl _ _⟩
  case round =>
    obtain ⟨r, hr, rfl, hbr⟩ := hrel
    have hF7 := HF.out.step hbr.out
    have z0 := (HU.out wr hF7.bel 0 HN.out.1).1
    rw [Nat.add_zero] at z0
    by_cases hlt : r < m
    · obtain ⟨x1, y1, z1⟩ := HV.out wr hbr.out r hlt
      have ir : ((r : Nat) : Int) < (m : Int) := Int.ofNat_lt.2 hlt
      have W1' := wrap_lt8 hlt (by have := HN.out; omega)
      have HX : Hid (r < m) := hlt
      clear hF7 hlt hr HV HB HR HU
      go_wp2
      go_quiet (fail)
      go_wp2
      go_roundw
      case rel => exact ⟨r + 1, HX.out, by first | rfl | (rw [W1']; rfl), below_drewN hbr.out nq⟩
      case measure => first | exact meas_lt8 HX.out | (rw [W1']; exact meas_lt8 HX.out)
    · have hrm : r = m := Nat.le_antisymm hr (Nat.le_of_not_lt hlt)
      subst hrm
      have q1 := HB.out wr _ _ hF7
      clear hF7 hlt hr HV HB hbr HF z0
      go_wp2_with (first
        | (go_at_call 13; first
          | ((with_reducible refine q1.mono ?_); rintro e X1 ⟨t1, rfl, q2⟩; clear q1)
          | ((with_reducible refine q4.mono ?_); rintro e X4 ⟨t4, rfl, q5⟩; clear q4)
          | ((with_reducible refine q7.mono ?_); rintro e X7 ⟨t7, rfl, q8⟩; clear q7))
        | (go_at_call 14; first
          | ((with_reducible refine q2.mono ?_); rintro e X2 ⟨rfl, q3⟩; clear q2)
          | ((with_reducible refine q6.mono ?_); rintro e X6 ⟨rfl, q7⟩; clear q6))
        | (go_at_call 20; (with_reducible refine q3.mono ?_); rintro e X3 ⟨rfl, q4⟩; clear q3)
        | (go_at_call 21; (with_reducible refine q5.mono ?_); rintro e X5 ⟨x5, rfl, q6⟩; clear q5)
        | (go_at_call 22; (with_reducible refine q8.mono ?_); rintro e X8 ⟨l, rfl, hF8⟩; clear q8
           obtain ⟨B, k, N, hk, hC, hNl⟩ := hF8.out
           obtain ⟨la, lc, hl⟩ : ∃ la lc, l = .slice la k lc := by obtain ⟨a, c', e', _⟩ := hC.form; exact ⟨a, c', e'⟩
           subst hl
           have z0 := (HU.out X8 hF8.fa.bel 0 HN.out.1).1
           rw [Nat.add_zero] at z0
           have WK : wrap64 ((k : Int) + (T : Int)) = (c : Int) := by have hk : k + T = c := hk; have := HN.out; unfold wrap64; omega
           have H8 : Hid _ := hF8
           have HK : Hid (k + T = c) := hk
           have HC : Hid _ := hC
           have HL : Hid _ := hNl
           clear hF8 hk hC hNl))
      clear z0 WK
      have HB8 : Hid (∀ y, Below X8.heap.size X8 y → Below w.heap.size w y) := fun y hy => H8.out.fa.bel.trans (hy.mono H8.out.fa.bel.size)
      have HV8 : Hid (∀ y, Below X8.heap.size X8 y → ∀ a, a < r → ∃ x cx, y.cell? ⟨vb, vo + a, none⟩ = some (.slice x c cx) ∧ Rb y (.slice x c cx) c (M a)) := fun y hy a ha => by
        obtain ⟨b', o', cap', BY, OY, CY, e', hV⟩ := rows10q H8.out.fa.v HN.out.1 HN.out.2.2.1
        cases e'
        exact ⟨_, _, (hV y hy a ha).1, (hV y hy a ha).2⟩
      have HL8 : Hid (∀ y, Below X8.heap.size X8 y → ∀ i, i < k → ∃ g, la = some ⟨g, 0, none⟩ ∧ y.cell? ⟨g, i, none⟩ = some (.slice (some ⟨B i, 0, none⟩) c c) ∧ Rb y (.slice (some ⟨B i, 0, none⟩) c c) c (N i)) := fun y hy i hi => by
        obtain ⟨a', c', e', -, -, hf⟩ := HC.out.form
        cases e'
        obtain ⟨g, eg, -, hg, -, hc⟩ := hf (by omega)
        exact ⟨g, eg, (hy.cell (p := ⟨g, i, none⟩) hg).trans (hc i hi), (HC.out.row i hi).2.2.2.rb0.below hy⟩
      have HP8 : Hid (∀ y, Below X8.heap.size X8 y → Qi y (.slice pa T pc) T (fun i => (P i : Int))) := fun y hy => H8.out.fa.p.below hy
      clear H8 HC
      have HU8 : Hid (∀ y, Below X8.heap.size X8 y → ∀ a, a < r → y.cell? ⟨b, o + a, none⟩ = some (.slice (some ⟨BX a, OX a, none⟩) c (CX a)) ∧ Rb y (.slice (some ⟨BX a, OX a, none⟩) c (CX a)) c (S a)) := fun y hy a ha => HU.out y (HB8.out y hy) a ha
      clear HU
      have HPT : Hid (Px T P c T) := ⟨Nat.le_refl _, fun i hi => HR.out.pc i hi, fun i h1 h2 => by omega⟩
      go_loopw [12, 13] (fun av fv wr => ∃ y x f : Nat, y + x = f ∧ f ≤ c ∧ av = .int .i64 y ∧ fv = .int .i64 f ∧ Px T P f x ∧ Hid (Below X8.heap.size X8 wr)) (fun _ f _ => c - (intOf f).toNat)
      case atStart => exact ⟨0, 0, 0, rfl, Nat.zero_le _, rfl, rfl, Px.start _ _, Below.refl _ _⟩
      case round =>
        obtain ⟨y, x, f, hyx, hfc, rfl, rfl, hx, hbr⟩ := hrel
        have z0 := (HU8.out wr hbr.out 0 HN.out.1).1
        rw [Nat.add_zero] at z0
        by_cases hlt : f < c
        · have if_ : ((f : Nat) : Int) < (c : Int) := Int.ofNat_lt.2 hlt
          have W1' := wrap_lt8 hlt (by have := HN.out; omega)
          have WX : wrap64 ((f : Int) - (y : Int)) = (x : Int) := by have := HN.out; unfold wrap64; omega
          obtain ⟨-, -, pa', pc', epv, -, -, hpc⟩ := HP8.out wr hbr.out
          cases epv
          by_cases hit : x < T ∧ P x = f
          · obtain ⟨hxt, hp⟩ := hit
            obtain ⟨pb, po, rfl, -, hcell⟩ := hpc (by omega)
            have q1 : wr.cell? ⟨pb, po + x, none⟩ = some (.int .i64 (P x : Int)) := hcell x hxt
            rw [hp] at q1
            have ix : ((x : Nat) : Int) < (T : Int) := Int.ofNat_lt.2 hxt
            have HD : Hid (y + (x + 1) = f + 1 ∧ f + 1 ≤ c ∧ Px T P (f + 1) (x + 1)) := ⟨by omega, hlt, hx.hit HR.out.up hxt hp⟩
            clear hcell hpc hxt hp hlt hfc hyx hx HP8 HL8 HV8 HU8 HB8 HPT HL HR
            go_wp2
            go_roundw
            case rel => exact ⟨y, x + 1, f + 1, HD.out.1, HD.out.2.1, rfl, by first | rfl | (rw [W1']; rfl), HD.out.2.2, hbr⟩
            case measure => first | exact meas_lt8 HD.out.2.1 | (rw [W1']; exact meas_lt8 HD.out.2.1)
          · have hxn : x < T → P x ≠ f := fun a b => hit ⟨a, b⟩
            obtain ⟨hx2, hfree⟩ := hx.miss HR.out.up hxn
            have hyk : y < k := by have := hx.far HPT.out HR.out.up hfree hlt; have := HK.out; omega
            have hNy : N y = nvs P M f T := HL.out f x y hlt hyx hx hfree
            obtain ⟨g, rfl, q2, hRl⟩ := HL8.out wr hbr.out y hyk
            have iy : ((y : Nat) : Int) < (k : Int) := Int.ofNat_lt.2 hyk
            have cU := unit10_true (.slice (some ⟨B y, 0, none⟩) c c) (.slice pa T pc) c f T P (N y) wr hRl (HP8.out wr hbr.out) (by have := HN.out; omega) (by have := HR.out.tm; have := HN.out; have h9 : T ≤ r := HR.out.tm; omega) HR.out.up (fun c' _ hno => by rw [hNy]; exact nvs_else T hno)
            have HE : Hid (∀ Y, Below X8.heap.size X8 Y → ∀ a, a < r → Y.cell? ⟨b, o + a, none⟩ = some (.slice (some ⟨BX a, OX a, none⟩) c (CX a)) ∧ Calls Try.prog 24 #[.slice (some ⟨BX a, OX a, none⟩) c (CX a), .slice (some ⟨B y, 0, none⟩) c c] Y fun e Y1 => e = .returned (.bool true) ∧ ∃ xv cv, Y1.cell? ⟨vb, vo + a, none⟩ = some (.slice xv c cv) ∧ Calls Try.prog 24 #[.slice xv c cv, .slice (some ⟨B y, 0, none⟩) c c] Y1 fun e Y2 => e = .returned (.bool true) ∧ Below X8.heap.size X8 Y2) := fun Y hY a ha => by
              obtain ⟨e1, e2⟩ := HU8.out Y hY a ha
              obtain ⟨g', -, -, e3⟩ := HL8.out Y hY y hyk
              refine ⟨e1, (ends10_true _ _ c (S a) (N y) Y e2 e3 (by have := HN.out; omega) (by rw [hNy]; exact HR.out.null0 hlt hfree ha)).mono ?_⟩
              rintro e Y1 ⟨rfl, q, rfl⟩
              have hY1 := below_drewN hY q
              obtain ⟨xv, cv, e4, e5⟩ := HV8.out _ hY1 a ha
              obtain ⟨g', -, -, e6⟩ := HL8.out _ hY1 y hyk
              refine ⟨rfl, xv, cv, e4, (ends10_true _ _ c (M a) (N y) _ e5 e6 (by have := HN.out; omega) (by rw [hNy]; exact HR.out.null hlt hfree ha)).mono ?_⟩
              rintro e Y2 ⟨rfl, q2, rfl⟩
              exact ⟨rfl, below_drewN hY1 q2⟩
            have HD : Hid (y + 1 + x = f + 1 ∧ f + 1 ≤ c ∧ Px T P (f + 1) x ∧ y < k) := ⟨by omega, hlt, hx2, hyk⟩
            have HT : Hid _ := HB8
            obtain ⟨tst, htst⟩ : ∃ tst : Unit, True := ⟨(), trivial⟩
            by_cases hxt : x < T
            · obtain ⟨pb, po, rfl, -, hcell⟩ := hpc (by omega)
              have q1 : wr.cell? ⟨pb, po + x, none⟩ = some (.int .i64 (P x : Int)) := hcell x hxt
              have ix : ((x : Nat) : Int) < (T : Int) := Int.ofNat_lt.2 hxt
              have T1 : (((P x : Nat) : Int) == ((f : Nat) : Int)) = false := by have := hxn hxt; simp; omega
              generalize P x = px at q1 T1
              clear hcell hpc hxt hlt hfc hyx hx HP8 HL8 HV8 HU8 HPT HL HR hit hxn hx2 hfree hyk hNy hRl HT tst htst
              go_wp2_with (go_at_call 23; (with_reducible refine cU.mono ?_); rintro e w9 ⟨rfl, hw9⟩; have hw9 := hw9.symm; subst hw9; clear cU)
              go_loopw [15] (fun i w2 => ∃ a : Nat, a ≤ r ∧ i = .int .i64 a ∧ Hid (Below X8.heap.size X8 w2)) (fun i _ => r - (intOf i).toNat)
              case atStart => exact ⟨0, Nat.zero_le _, rfl, hbr⟩
              case round =>
                obtain ⟨a, ha, rfl, hbs⟩ := hrel
                by_cases har : a < r
                · obtain ⟨e1, c1⟩ := HE.out wr hbs.out a har
                  have ia : ((a : Nat) : Int) < (r : Int) := Int.ofNat_lt.2 har
                  have W2 := wrap_lt8 har (by have := HN.out; omega)
                  have HX : Hid (a < r) := har
                  clear har ha hbs HE q1 q2 z0 T1
                  go_wp2_with (go_at_call 24; first
                    | ((with_reducible refine c1.mono ?_); rintro e Y1 ⟨rfl, xv, cv, e4, c2⟩; clear c1)
                    | ((with_reducible refine c2.mono ?_); rintro e Y2 ⟨rfl, hY2⟩; clear c2; have HY2 : Hid _ := hY2; clear hY2))
                  go_roundw
                  case rel => exact ⟨a + 1, HX.out, by first | rfl | (rw [W2]; rfl), HY2⟩
                  case measure => first | exact meas_lt8 HX.out | (rw [W2]; exact meas_lt8 HX.out)
                · have har2 : a = r := Nat.le_antisymm ha (Nat.le_of_not_lt har)
                  subst har2
                  have W3 := wrap_lt8 HD.out.2.2.2 (by have := HK.out; have := HN.out; omega)
                  have HF : Hid (Below w.heap.size w wr) := HB8.out wr hbs.out
                  clear har ha HE q1 q2 z0 T1
                  by_cases hyk : y + 1 = k
                  · have T3 : (((y : Nat) : Int) + 1 == (k : Int)) = true := by simp; omega
                    clear hyk
                    go_wp2
                    go_ret
                    exact ⟨rfl, HF.out⟩
                  · have T3 : (((y : Nat) : Int) + 1 == (k : Int)) = false := by simp; omega
                    clear hyk
                    go_wp2
                    go_roundw
                    case rel => exact ⟨y + 1, x, f + 1, HD.out.1, HD.out.2.1, by first | rfl | (rw [W3]; rfl), by first | rfl | (rw [W1']; rfl), HD.out.2.2.1, hbs⟩
                    case measure => first | exact meas_lt8 HD.out.2.1 | (rw [W1']; exact meas_lt8 HD.out.2.1)
            · have ix : ¬ ((x : Nat) : Int) < (T : Int) := by omega
              clear hpc hxt hlt hfc hyx hx HP8 HL8 HV8 HU8 HPT HL HR hit hxn hx2 hfree hyk hNy hRl HT tst htst
              go_wp2_with (go_at_call 23; (with_reducible refine cU.mono ?_); rintro e w9 ⟨rfl, hw9⟩; have hw9 := hw9.symm; subst hw9; clear cU)
              go_loopw [15] (fun i w2 => ∃ a : Nat, a ≤ r ∧ i = .int .i64 a ∧ Hid (Below X8.heap.size X8 w2)) (fun i _ => r - (intOf i).toNat)
              case atStart => exact ⟨0, Nat.zero_le _, rfl, hbr⟩
              case round =>
                obtain ⟨a, ha, rfl, hbs⟩ := hrel
                by_cases har : a < r
                · obtain ⟨e1, c1⟩ := HE.out wr hbs.out a har
                  have ia : ((a : Nat) : Int) < (r : Int) := Int.ofNat_lt.2 har
                  have W2 := wrap_lt8 har (by have := HN.out; omega)
                  have HX : Hid (a < r) := har
                  clear har ha hbs HE q2 z0
                  go_wp2_with (go_at_call 24; first
                    | ((with_reducible refine c1.mono ?_); rintro e Y1 ⟨rfl, xv, cv, e4, c2⟩; clear c1)
                    | ((with_reducible refine c2.mono ?_); rintro e Y2 ⟨rfl, hY2⟩; clear c2; have HY2 : Hid _ := hY2; clear hY2))
                  go_roundw
                  case rel => exact ⟨a + 1, HX.out, by first | rfl | (rw [W2]; rfl), HY2⟩
                  case measure => first | exact meas_lt8 HX.out | (rw [W2]; exact meas_lt8 HX.out)
                · have har2 : a = r := Nat.le_antisymm ha (Nat.le_of_not_lt har)
                  subst har2
                  have W3 := wrap_lt8 HD.out.2.2.2 (by have := HK.out; have := HN.out; omega)
                  have HF : Hid (Below w.heap.size w wr) := HB8.out wr hbs.out
                  clear har ha HE q2 z0
                  by_cases hyk : y + 1 = k
                  · have T3 : (((y : Nat) : Int) + 1 == (k : Int)) = true := by simp; omega
                    clear hyk
                    go_wp2
                    go_ret
                    exact ⟨rfl, HF.out⟩
                  · have T3 : (((y : Nat) : Int) + 1 == (k : Int)) = false := by simp; omega
                    clear hyk
                    go_wp2
                    go_roundw
                    case rel => exact ⟨y + 1, x, f + 1, HD.out.1, HD.out.2.1, by first | rfl | (rw [W3]; rfl), by first | rfl | (rw [W1']; rfl), HD.out.2.2.1, hbs⟩
                    case measure => first | exact meas_lt8 HD.out.2.1 | (rw [W1']; exact meas_lt8 HD.out.2.1)
        · have hfc2 : f = c := Nat.le_antisymm hfc (Nat.le_of_not_lt hlt)
          have hxT := (hfc2 ▸ hx).last HR.out.pc
          have hyk : y = k := by have := HK.out; have hxT : x = T := hxT; omega
          subst hyk
          have if_ : ¬ ((f : Nat) : Int) < (c : Int) := by omega
          have HF : Hid (Below w.heap.size w wr) := HB8.out wr hbr.out
          clear hfc2 hxT hlt hfc hyx hx HP8 HL8 HV8 HU8 HPT HL HR hbr
          go_wp2
          go_ret
          exact ⟨rfl, HF.out⟩
end Go.Proofs.Ythfpadkihommaaa
