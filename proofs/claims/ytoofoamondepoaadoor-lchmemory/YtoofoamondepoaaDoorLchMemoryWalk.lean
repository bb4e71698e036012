import Derived.Test.YtoofoamondepoaaDoorLmp
import Derived.Test.YtoofoamondepoaaDoorLop
namespace Go.Proofs.YtoofoamondepoaaDoor
open Go.RowKit Gf2
set_option linter.unusedVariables false

theorem MA.re {w X : World} {g C n : Nat} {G F F' : Nat → Nat} {A B wt : Value} {m : Nat} {T : Nat → Nat} (h : MA w X g C n G F A B wt m T) (e : ∀ x, x < n → F x = F' x) : MA w X g C n G F' A B wt m T :=
  ⟨h.whl, fun i hi => (h.eq i hi).trans (e i hi), h.a, h.b, h.wt, h.ab⟩
theorem MB.re {w X : World} {g C n : Nat} {G F F' : Nat → Nat} {A B wt D E : Value} {m : Nat} {T : Nat → Nat} {m1 : Nat} {T1 : Nat → Nat} (h : MB w X g C n G F A B wt D E m T m1 T1) (e : ∀ x, x < n → F x = F' x) : MB w X g C n G F' A B wt D E m T m1 T1 :=
  ⟨h.ma.re e, h.d, h.e, h.ad, h.ae, h.bd, h.be, h.de⟩
theorem trip {A : Nat} (h : A < 65536) : ∃ B : Nat, IntKind.u16.wrap ((A : Int) * 3) = (B : Int) ∧ IntKind.u16.wrap ((B : Int) + 1) = (((A * 3 + 1) % 65536 : Nat) : Int) := ⟨A * 3 % 65536, by rw [IntKind.wrap_u16]; omega, by rw [IntKind.wrap_u16]; omega⟩
theorem mem_nums {n : Nat} (h : n ≤ 300) : ∃ X k : Nat, X < 65536 ∧ k ≤ 16 ∧ IntKind.u16.wrap (n : Int) = (n : Int) ∧ IntKind.u16.wrap ((n : Int) * 257) = (X : Int) ∧ (n : Int).tmod 17 = (k : Int) ∧ wrap64 (k : Int) = (k : Int) ∧ IntKind.i64.wrap (k : Int) = (k : Int) := by
  refine ⟨n * 257 % 65536, n % 17, by omega, by omega, by rw [IntKind.wrap_u16]; omega, by rw [IntKind.wrap_u16]; omega, by rw [Int.tmod_eq_emod_of_nonneg (by omega)]; omega, by unfold wrap64; omega, by rw [IntKind.wrap_i64]; omega⟩
theorem u16_small {i : Nat} (h : i < 300) : IntKind.u16.wrap (i : Int) = (i : Int) ∧ i < 65536 := by rw [IntKind.wrap_u16]; omega
set_option maxHeartbeats 16000000 in
set_option maxRecDepth 100000 in
theorem lchMemory_any (kind : Int) (a : Option Addr) (n cap : Nat) (w : World) (hv : Bm13 w (.slice a n cap)) (hC : Cant w) (hT : Tzt w) :
    Calls Tryd.prog 8 #[.int .i64 kind, .slice a n cap] w fun e w' => e = .returned (.bool true) ∧ Below w.heap.size w w' := by
  have c0 := awake13 w hC hT
  by_cases hn : 300 < n
  · have D1 : decide ((300 : Int) < (n : Int)) = true := by simp; omega
    clear hv hC hT hn
    go_enter Tryd.func8, Tryd.ntmps8
    go_wp2_with (go_at_call 13; ((with_reducible refine (c0).mono ?_); (rintro e w1 ⟨rfl, hb1⟩)))
    go_ret
    exact ⟨rfl, hb1⟩
  have D1 : decide ((300 : Int) < (n : Int)) = false := by simp; omega
  by_cases h6 : kind < 6
  · have D2 : decide (kind < 6) = true := by simpa using h6
    clear hv hC hT hn h6
    go_enter Tryd.func8, Tryd.ntmps8
    go_wp2_with (go_at_call 13; ((with_reducible refine (c0).mono ?_); (rintro e w1 ⟨rfl, hb1⟩)))
    go_ret
    exact ⟨rfl, hb1⟩
  have D2 : decide (kind < 6) = false := by simpa using h6
  by_cases h8 : 8 < kind
  · have D3 : decide (8 < kind) = true := by simpa using h8
    clear hv hC hT hn h6 h8
    go_enter Tryd.func8, Tryd.ntmps8
    go_wp2_with (go_at_call 13; ((with_reducible refine (c0).mono ?_); (rintro e w1 ⟨rfl, hb1⟩)))
    go_ret
    exact ⟨rfl, hb1⟩
  have D3 : decide (8 < kind) = false := by simpa using h8
  clear c0
  have hn3 : n ≤ 300 := by omega
  obtain ⟨m0, F, hq, -⟩ := hv
  obtain rfl : n = m0 := by obtain ⟨-, -, a', cap', e, -⟩ := hq; cases e; rfl
  have hF := hq.2.1
  obtain ⟨m, T, er, hm, hask⟩ := asked13 kind n F ⟨by omega, by omega⟩ hn3
  obtain ⟨m1, T1, er1, hm1, hask1⟩ := asked13 kind n (fun i => (F i * 3 + 1) % 65536) ⟨by omega, by omega⟩ hn3
  obtain ⟨X, k, hX, hk, U1, U2, U3, U4, U5⟩ := mem_nums hn3
  have cA := mem_A kind _ n m F T er w hq hn3 hC hT hask hm
  have HB : Hid (∀ gW C G a1 a2 c1 c2 gC Y, MA w Y gW C n G (fun i => (F i * 3 + 1) % 65536) (.slice a1 m c1) (.slice a2 m c2) (.slice (some ⟨gC, 0, none⟩) m m) m T → _) := fun gW C G a1 a2 c1 c2 gC Y h => mem_B kind n m m1 gW C X _ G T T1 er1 a1 a2 c1 c2 gC w Y hn3 hX hC hT hm1 h hask1
  have HC : Hid (∀ gW C G a1 a2 a3 a4 c1 c2 c3 c4 gC Y, MB w Y gW C n G (fun i => (F i * 3 + 1) % 65536 ^^^ i) (.slice a1 m c1) (.slice a2 m c2) (.slice (some ⟨gC, 0, none⟩) m m) (.slice a3 m1 c3) (.slice a4 m1 c4) m T m1 T1 → _) := fun gW C G a1 a2 a3 a4 c1 c2 c3 c4 gC Y h => mem_C n m m1 gW C X k _ G T T1 a1 a2 a3 a4 c1 c2 c3 c4 gC w Y hn3 hX hk hC hm hm1 h
  have HN : Hid (n ≤ 300 ∧ ∀ i, i < n → F i < 65536) := ⟨hn3, hF⟩
  clear hn h6 h8 hn3 hq hF hask hask1 hC hT hm hm1 hX hk
  go_enter Tryd.func8, Tryd.ntmps8
  go_wp2_with (first
    | (at_builtin; refine Lib.wpList_append_run _ rfl _ _ _ _ rfl _ _ rfl rfl _ _ hrun ?_)
    | (go_at_call 13; (with_reducible refine cA.mono ?_); rintro e w0 ⟨rfl, cB⟩)
    | (go_at_call 20; first | ((with_reducible refine cB.mono ?_); rintro e w1 ⟨rfl, w2, gW, C, hrun, hhd, cC⟩) | ((with_reducible refine cC.mono ?_); rintro e w3 ⟨gB, rfl, cD⟩) | ((with_reducible refine cE.mono ?_); rintro e w5 ⟨gC, rfl, cF⟩))
    | (go_at_call 21; first | ((with_reducible refine cD.mono ?_); rintro e w4 ⟨a1, c1, rfl, cE⟩) | ((with_reducible refine cF.mono ?_); rintro e w6 ⟨a2, c2, rfl, cG⟩))
    | (go_at_call 22; first | ((with_reducible refine cG.mono ?_); rintro e w7 ⟨rfl, cH⟩) | ((with_reducible refine cH.mono ?_); rintro e w8 ⟨rfl, cI⟩) | ((with_reducible refine cI.mono ?_); rintro e w9 ⟨rfl, HM⟩)))
  clear cA cB cC cD cE cF cG cH cI hrun hhd
  go_loopw [13] (fun iv wr => ∃ (i : Nat) (G : Nat → Nat), i ≤ n ∧ iv = .int .i64 i ∧ MA w wr gW C n G (fun x => if x < i then (F x * 3 + 1) % 65536 else F x) (.slice a1 m c1) (.slice a2 m c2) (.slice (some ⟨gC, 0, none⟩) m m) m T) (fun iv _ => n - (intOf iv).toNat)
  case atStart =>
    obtain ⟨G, hG⟩ := HM.out
    exact ⟨0, G, Nat.zero_le _, rfl, hG.re (fun x _ => (if_neg (Nat.not_lt_zero _)).symm)⟩
  case round =>
    obtain ⟨i, G, hi, rfl, hs⟩ := hrel
    by_cases hlt : i < n
    · have hiC : i < C := Nat.lt_of_lt_of_le hlt (Nat.le_trans (Nat.le_add_right n 8) hs.whl.le)
      have q1 := hs.whl.row.2.2.cell hiC
      have q2 := hs.whl.row.2.2.frozen i
      have e0 : G i = F i := by rw [hs.eq i hlt, if_neg (Nat.lt_irrefl _)]
      rw [e0] at q1
      have lF := HN.out.2 i hlt
      obtain ⟨B0, V1, V2⟩ := trip lF
      have HV : Hid (∃ G', MA w (wr.setCell ⟨gW, i, none⟩ (.int .u16 (((F i * 3 + 1) % 65536 : Nat) : Int))) gW C n G' (fun x => if x < i + 1 then (F x * 3 + 1) % 65536 else F x) (.slice a1 m c1) (.slice a2 m c2) (.slice (some ⟨gC, 0, none⟩) m m) m T) :=
        ⟨_, hs.set hlt (Nat.mod_lt _ (by decide)) (fun x _ => by
          by_cases e : x = i
          · subst e; rw [if_pos (Nat.lt_succ_self _), if_pos rfl]
          · rw [if_neg e]
            by_cases e2 : x < i
            · rw [if_pos e2, if_pos (Nat.lt_succ_of_lt e2)]
            · rw [if_neg e2, if_neg (by omega)])⟩
      have ib : ((i : Nat) : Int) < (n : Int) := Int.ofNat_lt.2 hlt
      have W1 := wrap_succ8 (j := i) (Nat.lt_of_lt_of_le hlt (Nat.le_trans HN.out.1 (by decide)))
      obtain ⟨D0, hD0⟩ : ∃ D0, D0 = (F i * 3 + 1) % 65536 := ⟨_, rfl⟩
      obtain ⟨A0, hA0⟩ : ∃ A0, A0 = F i := ⟨_, rfl⟩
      rw [← hD0] at V2 HV
      rw [← hA0] at V1 q1
      clear hs hiC e0 lF hD0 hA0
      go_wp2
      go_roundw
      case rel =>
        obtain ⟨G', hG'⟩ := HV.out
        exact ⟨i + 1, G', hlt, by first | rfl | (rw [W1]; rfl), hG'⟩
      case measure => first | exact meas_lt8 hlt | (rw [W1]; exact meas_lt8 hlt)
    · have hin : i = n := Nat.le_antisymm hi (Nat.le_of_not_lt hlt)
      have hs1 := hs.re (F' := fun x => (F x * 3 + 1) % 65536) (fun x hx => by rw [if_pos (by rw [hin]; exact hx)])
      have ib : ¬ ((i : Nat) : Int) < (n : Int) := fun e => hlt (Int.ofNat_lt.1 e)
      have cA := HB.out gW C G a1 a2 c1 c2 gC wr hs1
      clear hs hs1 hin HM
      go_wp2_with (first
        | (go_at_call 20; first | ((with_reducible refine cA.mono ?_); rintro e x1 ⟨gT, rfl, cB⟩) | ((with_reducible refine cC.mono ?_); rintro e x3 ⟨gL, rfl, cD⟩) | ((with_reducible refine cJ.mono ?_); rintro e x10 ⟨gM, rfl, cK⟩))
        | (go_at_call 21; first | ((with_reducible refine cB.mono ?_); rintro e x2 ⟨a3, c3, rfl, cC⟩) | ((with_reducible refine cD.mono ?_); rintro e x4 ⟨a4, c4, rfl, cE⟩))
        | (go_at_call 22; first | ((with_reducible refine cE.mono ?_); rintro e x5 ⟨rfl, cF⟩) | ((with_reducible refine cF.mono ?_); rintro e x6 ⟨rfl, cG⟩) | ((with_reducible refine cG.mono ?_); rintro e x7 ⟨rfl, cH⟩) | ((with_reducible refine cH.mono ?_); rintro e x8 ⟨rfl, cI⟩) | ((with_reducible refine cL.mono ?_); rintro e x12 ⟨rfl, HM2⟩))
        | (go_at_call 11; first | ((with_reducible refine cI.mono ?_); rintro e x9 ⟨V, er2, rfl, cJ⟩) | ((with_reducible refine cK.mono ?_); rintro e x11 ⟨rfl, cL⟩)))
      clear cA cB cC cD cE cF cG cH cI cJ cK cL
      go_loopw [24] (fun iv wq => ∃ (i : Nat) (G : Nat → Nat), i ≤ n ∧ iv = .int .i64 i ∧ MB w wq gW C n G (fun x => if x < i then (F x * 3 + 1) % 65536 ^^^ x else (F x * 3 + 1) % 65536) (.slice a1 m c1) (.slice a2 m c2) (.slice (some ⟨gC, 0, none⟩) m m) (.slice a3 m1 c3) (.slice a4 m1 c4) m T m1 T1) (fun iv _ => n - (intOf iv).toNat)
      case atStart => exact ⟨0, G, Nat.zero_le _, rfl, HM2.out.re (fun x _ => (if_neg (Nat.not_lt_zero _)).symm)⟩
      case round =>
        obtain ⟨j, G2, hj, rfl, hs⟩ := hrel
        by_cases hjt : j < n
        · have hjC : j < C := Nat.lt_of_lt_of_le hjt (Nat.le_trans (Nat.le_add_right n 8) hs.ma.whl.le)
          have q1 := hs.ma.whl.row.2.2.cell hjC
          have q2 := hs.ma.whl.row.2.2.frozen j
          have e0 : G2 j = (F j * 3 + 1) % 65536 := by rw [hs.ma.eq j hjt, if_neg (Nat.lt_irrefl _)]
          rw [e0] at q1
          obtain ⟨u1, u2⟩ := u16_small (i := j) (Nat.lt_of_lt_of_le hjt HN.out.1)
          have lA : (F j * 3 + 1) % 65536 < 65536 := Nat.mod_lt _ (by decide)
          have X9 := u16_xor_nat ((F j * 3 + 1) % 65536) j lA u2
          have HV : Hid (∃ G', MB w (wr.setCell ⟨gW, j, none⟩ (.int .u16 (((F j * 3 + 1) % 65536 ^^^ j : Nat) : Int))) gW C n G' (fun x => if x < j + 1 then (F x * 3 + 1) % 65536 ^^^ x else (F x * 3 + 1) % 65536) (.slice a1 m c1) (.slice a2 m c2) (.slice (some ⟨gC, 0, none⟩) m m) (.slice a3 m1 c3) (.slice a4 m1 c4) m T m1 T1) :=
            ⟨_, hs.set hjt (Nat.xor_lt_two_pow (n := 16) lA u2) (fun x _ => by
              by_cases e : x = j
              · subst e; rw [if_pos (Nat.lt_succ_self _), if_pos rfl]
              · rw [if_neg e]
                by_cases e2 : x < j
                · rw [if_pos e2, if_pos (Nat.lt_succ_of_lt e2)]
                · rw [if_neg e2, if_neg (by omega)])⟩
          have jb : ((j : Nat) : Int) < (n : Int) := Int.ofNat_lt.2 hjt
          have W1 := wrap_succ8 (j := j) (Nat.lt_of_lt_of_le hjt (Nat.le_trans HN.out.1 (by decide)))
          obtain ⟨A0, hA0⟩ : ∃ A0, A0 = (F j * 3 + 1) % 65536 := ⟨_, rfl⟩
          rw [← hA0] at X9 q1
          obtain ⟨D0, hD0⟩ : ∃ D0, D0 = A0 ^^^ j := ⟨_, rfl⟩
          have HV : Hid (∃ G', MB w (wr.setCell ⟨gW, j, none⟩ (.int .u16 ((D0 : Nat) : Int))) gW C n G' (fun x => if x < j + 1 then (F x * 3 + 1) % 65536 ^^^ x else (F x * 3 + 1) % 65536) (.slice a1 m c1) (.slice a2 m c2) (.slice (some ⟨gC, 0, none⟩) m m) (.slice a3 m1 c3) (.slice a4 m1 c4) m T m1 T1) := by rw [hD0, hA0]; exact HV
          rw [← hD0] at X9
          clear hs hjC e0 lA u2 hA0 hD0
          go_wp2
          go_roundw
          case rel =>
            obtain ⟨G', hG'⟩ := HV.out
            exact ⟨j + 1, G', hjt, by first | rfl | (rw [W1]; rfl), hG'⟩
          case measure => first | exact meas_lt8 hjt | (rw [W1]; exact meas_lt8 hjt)
        · have hjn : j = n := Nat.le_antisymm hj (Nat.le_of_not_lt hjt)
          have hs1 := hs.re (F' := fun x => (F x * 3 + 1) % 65536 ^^^ x) (fun x hx => by rw [if_pos (by rw [hjn]; exact hx)])
          have jb : ¬ ((j : Nat) : Int) < (n : Int) := fun e => hjt (Int.ofNat_lt.1 e)
          have cA := HC.out gW C G2 a1 a2 a3 a4 c1 c2 c3 c4 gC wr hs1
          clear hs hs1 hjn HM2
          go_wp2_with (first
            | (go_at_call 20; first | ((with_reducible refine cA.mono ?_); rintro e y1 ⟨gT2, rfl, cB⟩) | ((with_reducible refine cC.mono ?_); rintro e y3 ⟨gM2, rfl, cD⟩))
            | (go_at_call 11; first | ((with_reducible refine cB.mono ?_); rintro e y2 ⟨V2, er3, rfl, cC⟩) | ((with_reducible refine cD.mono ?_); rintro e y4 ⟨rfl, cE⟩))
            | (go_at_call 22; first | ((with_reducible refine cE.mono ?_); rintro e y5 ⟨rfl, cF⟩) | ((with_reducible refine cH.mono ?_); rintro e y8 ⟨rfl, cI⟩) | ((with_reducible refine cJ.mono ?_); rintro e y10 ⟨rfl, HE⟩))
            | (go_at_call 16; first | ((with_reducible refine cF.mono ?_); rintro e y6 ⟨g5, rfl, cG⟩) | ((with_reducible refine cG.mono ?_); rintro e y7 ⟨g6, rfl, cH⟩))
            | (go_at_call 23; ((with_reducible refine cI.mono ?_); rintro e y9 ⟨rfl, cJ⟩)))
          go_ret
          exact ⟨rfl, HE.out⟩
end Go.Proofs.YtoofoamondepoaaDoor
