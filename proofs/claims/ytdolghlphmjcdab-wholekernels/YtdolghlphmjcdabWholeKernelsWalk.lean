import Derived.Test.YtdolghlphmjcdabWkb
import Derived.Test.YtdolghlphmjcdabEbo
namespace Go.Proofs.Ytdolghlphmjcdab
open Go.RowKit Gf2
set_option linter.unusedVariables false

/-- three lists that grow, each in memory of its own. -/
structure T3 (w W : World) (dv pv qv : Value) (k : Nat) (D P Q : Nat → Nat) : Prop where
  d : Gw w W dv k D
  p : Gw w W pv k P
  q : Gw w W qv k Q
  dp : Dif dv pv
  dq : Dif dv qv
  pq : Dif pv qv
theorem grow_eq {k : Nat} {F : Nat → Nat} {x : Nat} (e : x = F k) : ∀ i, i < k + 1 → (if i < k then F i else x) = F i := fun i hi => by
  by_cases h : i < k
  · rw [if_pos h]
  · rw [if_neg h, e, show i = k by omega]
theorem T3.step {w W : World} {dv pv qv : Value} {k x y z : Nat} {D P Q : Nat → Nat} (h : T3 w W dv pv qv k D P Q) (hk : k + 1 ≤ 140737488355328) (hx : x = D k) (hy : y = P k) (hz : z = Q k) (lx : x < 256) (ly : y < 256) (lz : z < 256) :
    ∃ w1 dv' w2 pv' w3 qv', (Builtin.append_ #[25, 25] 25 #[dv, .slice (some ⟨W.heap.size, 0, none⟩) 1 1]).run Try.prog (W.alloc (.cells #[.int .u8 (x : Nat)] 5)) = .ok dv' w1 ∧
      (Builtin.append_ #[25, 25] 25 #[pv, .slice (some ⟨w1.heap.size, 0, none⟩) 1 1]).run Try.prog (w1.alloc (.cells #[.int .u8 (y : Nat)] 5)) = .ok pv' w2 ∧
      (Builtin.append_ #[25, 25] 25 #[qv, .slice (some ⟨w2.heap.size, 0, none⟩) 1 1]).run Try.prog (w2.alloc (.cells #[.int .u8 (z : Nat)] 5)) = .ok qv' w3 ∧
      T3 w w3 dv' pv' qv' (k + 1) D P Q := by
  obtain ⟨w1, dv', r1, g1, o1⟩ := app_gw2 h.d x lx hk
  obtain ⟨gp1, dp1⟩ := o1 _ _ _ h.p h.dp
  obtain ⟨gq1, dq1⟩ := o1 _ _ _ h.q h.dq
  obtain ⟨w2, pv', r2, g2, o2⟩ := app_gw2 gp1 y ly hk
  obtain ⟨gd2, pd2⟩ := o2 _ _ _ g1 dp1.symm
  obtain ⟨gq2, pq2⟩ := o2 _ _ _ gq1 h.pq
  obtain ⟨w3, qv', r3, g3, o3⟩ := app_gw2 gq2 z lz hk
  obtain ⟨gd3, qd3⟩ := o3 _ _ _ gd2 dq1.symm
  obtain ⟨gp3, qp3⟩ := o3 _ _ _ g2 pq2.symm
  exact ⟨w1, dv', w2, pv', w3, qv', r1, r2, r3, gd3.congr (grow_eq hx), gp3.congr (grow_eq hy), g3.congr (grow_eq hz), pd2.symm, qd3.symm, qp3.symm⟩
/-- the bytes of before. -/
def old9 (m : Nat) (O : Nat → Nat) (i : Nat) : Nat := if i < m then O i else i % 256
theorem u8w_nat (k : Nat) : IntKind.u8.wrap (k : Int) = ((k % 256 : Nat) : Int) := by
  unfold IntKind.wrap
  simp [IntKind.bits, IntKind.signed]
set_option maxHeartbeats 8000000 in
set_option maxRecDepth 100000 in
theorem wk9 (c n m : Nat) (sv ov : Value) (S O : Nat → Nat) (w : World) (hc : c < 256) (hs : Rb w sv n S) (ho : Rb w ov m O) (hn : n ≤ 140737488351232) :
    Calls Try.prog 5 #[.int .u8 (c : Int), sv, ov] w fun e w' => e = .returned (.bool true) ∧ Below w.heap.size w w' := by
  have HS : Hid (Rb w sv n S) := hs
  have HN : Hid (n ≤ 140737488351232 ∧ c < 256) := ⟨hn, hc⟩
  obtain ⟨hnb, lS, sa, sc, rfl, -, -, s4⟩ := hs
  obtain ⟨hmb, lO, oa, oc, rfl, -, -, o4⟩ := ho
  have H4 : Hid (0 < n → _) := s4
  have G4 : Hid (0 < m → _) := o4
  have LS : Hid (∀ i, i < n → S i < 256) := lS
  have LO : Hid (∀ i, i < m → O i < 256) := lO
  clear hn hc s4 o4 lS lO
  go_enter Try.func5, Try.ntmps5
  go_wp2
  go_loopw [7, 8, 9, 27] (fun dv pv qv iv wr => ∃ k : Nat, k ≤ n ∧ iv = .int .i64 k ∧ Hid (T3 w wr dv pv qv k (old9 m O) (fun j => fm 285 c (S j)) (fun j => old9 m O j ^^^ fm 285 c (S j)))) (fun _ _ _ i _ => n - (intOf i).toNat)
  case atStart => exact ⟨0, Nat.zero_le _, rfl, Gw.start _ _, Gw.start _ _, Gw.start _ _, Dif.nil _, Dif.nil _, Dif.nil _⟩
  case round =>
    obtain ⟨k, hk, rfl, hT⟩ := hrel
    by_cases hlt : k < n
    · have hb := hT.out.d.1
      obtain ⟨b, o, rfl, hl, hcell⟩ := H4.out (by omega)
      have q1 := (hb.cell (p := ⟨b, o + k, none⟩) hl).trans (hcell k hlt)
      have ib : ((k : Nat) : Int) < (n : Int) := Int.ofNat_lt.2 hlt
      have W1 := wrap_succ8 (j := k) (by unfold big; have := HN.out; omega)
      have m1 := fun x => mul8_nat c (S k) x HN.out.2 (LS.out k hlt)
      have hy : fm 285 c (S k) < 256 := fm8_lt _ _
      have HX : Hid (k < n) := hlt
      by_cases hm : k < m
      · obtain ⟨b2, o2, rfl, hl2, hcell2⟩ := G4.out (by omega)
        have q2 := (hb.cell (p := ⟨b2, o2 + k, none⟩) hl2).trans (hcell2 k hm)
        have im : k < m := hm
        have ex : old9 m O k = O k := if_pos hm
        have hx := LO.out k hm
        have XX := u8_xor_nat (O k) (fm 285 c (S k)) hx hy
        obtain ⟨w1, dv', w2, pv', w3, qv', r1, r2, r3, hT2⟩ := hT.out.step (x := O k) (y := fm 285 c (S k)) (z := O k ^^^ fm 285 c (S k)) (by have := HN.out; omega) ex.symm rfl (by rw [← ex]) hx hy (Nat.xor_lt_two_pow (n := 8) hx hy)
        have HT : Hid _ := hT2
        generalize O k = x at q2 XX r1 r3
        generalize S k = y at q1 m1 XX r2 r3
        generalize fm 285 c y = z at m1 XX r2 r3
        generalize x ^^^ z = t at XX r3
        clear hT hT2 hb hl hl2 hcell hcell2 hlt hk hm ex hx hy H4 G4 LS LO
        go_wp2_with (first
          | (go_at_call 19; (with_reducible refine (m1 _).mono ?_); rintro e w9 ⟨rfl, hw9⟩; have hw9 := hw9.symm; subst hw9)
          | (at_builtin; first | (refine Lib.wpList_append_run _ rfl _ _ _ _ rfl _ _ rfl rfl _ _ r1 ?_; clear r1) | (refine Lib.wpList_append_run _ rfl _ _ _ _ rfl _ _ rfl rfl _ _ r2 ?_; clear r2) | (refine Lib.wpList_append_run _ rfl _ _ _ _ rfl _ _ rfl rfl _ _ r3 ?_; clear r3)))
        go_roundw
        case rel => exact ⟨k + 1, HX.out, by first | rfl | (rw [W1]; rfl), HT.out⟩
        case measure => first | exact meas_lt8 HX.out | (rw [W1]; exact meas_lt8 HX.out)
      · have im : ¬ k < m := hm
        have ex : old9 m O k = k % 256 := if_neg hm
        have hx : k % 256 < 256 := Nat.mod_lt _ (by decide)
        have UW := u8w_nat k
        have XX := u8_xor_nat (k % 256) (fm 285 c (S k)) hx hy
        obtain ⟨w1, dv', w2, pv', w3, qv', r1, r2, r3, hT2⟩ := hT.out.step (x := k % 256) (y := fm 285 c (S k)) (z := k % 256 ^^^ fm 285 c (S k)) (by have := HN.out; omega) ex.symm rfl (by rw [← ex]) hx hy (Nat.xor_lt_two_pow (n := 8) hx hy)
        have HT : Hid _ := hT2
        generalize k % 256 = x at UW XX r1 r3
        generalize S k = y at q1 m1 XX r2 r3
        generalize fm 285 c y = z at m1 XX r2 r3
        generalize x ^^^ z = t at XX r3
        clear hT hT2 hb hl hcell hlt hk hm ex hx hy H4 G4 LS LO
        go_wp2_with (first
          | (go_at_call 19; (with_reducible refine (m1 _).mono ?_); rintro e w9 ⟨rfl, hw9⟩; have hw9 := hw9.symm; subst hw9)
          | (at_builtin; first | (refine Lib.wpList_append_run _ rfl _ _ _ _ rfl _ _ rfl rfl _ _ r1 ?_; clear r1) | (refine Lib.wpList_append_run _ rfl _ _ _ _ rfl _ _ rfl rfl _ _ r2 ?_; clear r2) | (refine Lib.wpList_append_run _ rfl _ _ _ _ rfl _ _ rfl rfl _ _ r3 ?_; clear r3)))
        go_roundw
        case rel => exact ⟨k + 1, HX.out, by first | rfl | (rw [W1]; rfl), HT.out⟩
        case measure => first | exact meas_lt8 HX.out | (rw [W1]; exact meas_lt8 HX.out)
    · obtain rfl : k = n := by omega
      obtain ⟨W1, hW1⟩ : ∃ W1, W1 = wr := ⟨_, rfl⟩
      subst hW1
      clear H4 G4 LS LO hlt hk
      generalize old9 m O = D at hT
      obtain ⟨da, dc, hdv⟩ := hT.out.d.form
      obtain ⟨pa, pc, hpv⟩ := hT.out.p.form
      obtain ⟨qa, qc, hqv⟩ := hT.out.q.form
      subst hdv hpv hqv
      have HT : Hid _ := hT.out
      clear hT
      have a1 := wk_first HT.out.d.rb (by have := HN.out; omega)
      have HB : Hid (∀ A3 A9 p q r ga gb gd Ca Cb Cd, Below W1.heap.size W1 A3 → K3 A3 p q r → S3 A3 A9 ga gb gd Ca Cb Cd k D D D → _) := fun A3 A9 p q r ga gb gd Ca Cb Cd hA hK hS3 => wk_add (S := S) (c := c) hK hS3 ((HS.out.below HT.out.d.1).below hA) (by have := HN.out; omega) HN.out.2
      have HC : Hid (∀ A3 X6 p q r ga gb gd Ca Cb Cd V, Below W1.heap.size W1 A3 → K3 A3 p q r → S3 A3 X6 ga gb gd Ca Cb Cd k V V V → _) := fun A3 X6 p q r ga gb gd Ca Cb Cd V hA hK hS3 => wk_mul (S := S) (c := c) hK hS3 ((HS.out.below HT.out.d.1).below hA) (by have := HN.out; omega) HN.out.2
      have HG : Hid (∀ X, Below W1.heap.size W1 X → (convert 25 9 (.slice pa k pc)).run Try.prog X = .ok (.string (sb9 k (fun j => fm 285 c (S j)))) X ∧ (convert 25 9 (.slice qa k qc)).run Try.prog X = .ok (.string (sb9 k (fun j => D j ^^^ fm 285 c (S j)))) X) := fun X hX => ⟨(HT.out.p.below hX).str, (HT.out.q.below hX).str⟩
      have HD : Hid (∀ X, Below W1.heap.size W1 X → ∀ b, b ≤ 2 → _) := fun X hX b hb => wk_set (A := W1) (c := c) (b := b) hb hX HT.out.d.rb (HS.out.below HT.out.d.1) (by have := HN.out; omega) HN.out.2
      have HW : Hid (Below w.heap.size w W1) := HT.out.d.1
      clear HT HS HN
      go_wp2_with (first
        | (go_at_call 20; (with_reducible refine a1.mono ?_); rintro e A1 ⟨p1, rfl, a2⟩; clear a1)
        | (go_at_call 21; (with_reducible refine a2.mono ?_); rintro e A2 ⟨p2, rfl, a3⟩; clear a2)
        | (go_at_call 22; (with_reducible refine a3.mono ?_); rintro e A3 ⟨p3, rfl, a4⟩; clear a3)
        | (go_at_call 23; first
          | ((with_reducible refine a4.mono ?_); rintro e A4 ⟨ga, Ca, rfl, a5⟩; clear a4)
          | ((with_reducible refine a5.mono ?_); rintro e A5 ⟨gb, Cb, rfl, a6⟩; clear a5)
          | ((with_reducible refine a6.mono ?_); rintro e A6 ⟨gd, Cd, rfl, a7⟩; clear a6)
          | ((with_reducible refine b1.mono ?_); rintro e X1 ⟨g1, C1, rfl, b2⟩; clear b1)
          | ((with_reducible refine b3.mono ?_); rintro e X3 ⟨g2, C2, rfl, b4⟩; clear b3)
          | ((with_reducible refine b5.mono ?_); rintro e X5 ⟨g3, C3, rfl, b6⟩; clear b5)
          | ((with_reducible refine c1.mono ?_); rintro e Y1 ⟨h1, E1, rfl, c2⟩; clear c1)
          | ((with_reducible refine c3.mono ?_); rintro e Y3 ⟨h2, E2, rfl, c4⟩; clear c3)
          | ((with_reducible refine c5.mono ?_); rintro e Y5 ⟨h3, E3, rfl, c6⟩; clear c5))
        | (go_at_call 24; first
          | ((with_reducible refine a7.mono ?_); rintro e A9 ⟨rfl, z9, hA, hK, hS3⟩; clear a7; have b1 := HB.out _ _ _ _ _ _ _ _ _ _ _ hA hK hS3; have HK : Hid _ := And.intro hA hK; clear hA hK hS3 HB)
          | ((with_reducible refine c2.mono ?_); rintro e Y2 ⟨rfl, c3⟩; clear c2))
        | (go_at_call 25; (with_reducible refine b2.mono ?_); rintro e X2 ⟨rfl, b3⟩; clear b2)
        | (go_at_call 26; (with_reducible refine b4.mono ?_); rintro e X4 ⟨rfl, b5⟩; clear b4)
        | (go_at_call 27; (with_reducible refine b6.mono ?_); rintro e X6 ⟨rfl, hS3⟩; clear b6
           have kA := hS3.a.str
           have kB := hS3.b.str
           have kD := hS3.d.str
           have kQ := (HG.out X6 (HK.out.1.trans (hS3.bel.mono HK.out.1.size))).2
           have c1 := HC.out _ _ _ _ _ _ _ _ _ _ _ _ HK.out.1 HK.out.2 hS3
           clear hS3 HC z9
           generalize hsq : sb9 k (fun j => D j ^^^ fm 285 c (S j)) = sq at kA kB kD kQ HG; have HQ : Hid (sb9 k (fun j => D j ^^^ fm 285 c (S j)) = sq) := hsq; clear hsq)
        | (go_at_call 28; (with_reducible refine c4.mono ?_); rintro e Y4 ⟨rfl, c5⟩; clear c4)
        | (go_at_call 29; (with_reducible refine c6.mono ?_); rintro e Y6 ⟨rfl, hS3⟩; clear c6 kA kB kD kQ
           have kA := hS3.a.str
           have kB := hS3.b.str
           have kD := hS3.d.str
           have HY : Hid (Below W1.heap.size W1 Y6) := HK.out.1.trans (hS3.bel.mono HK.out.1.size)
           have kQ := (HG.out Y6 HY.out).1
           clear hS3 HK
           generalize hsp : sb9 k (fun j => fm 285 c (S j)) = sp at kA kB kD kQ HG; have HP : Hid (sb9 k (fun j => fm 285 c (S j)) = sp) := hsp; clear hsp))
      clear kA kB kD kQ
      go_loopw [20] (fun nv wr => ∃ b : Nat, b ≤ 3 ∧ nv = .int .i64 b ∧ Hid (Below W1.heap.size W1 wr)) (fun nv _ => 3 - (intOf nv).toNat)
      case atStart => exact ⟨0, by decide, rfl, HY.out⟩
      case round =>
        obtain ⟨b, hb3, rfl, hX⟩ := hrel
        by_cases hlt : b < 3
        · have ib : ((b : Nat) : Int) < 3 := by omega
          have W2 := wrap_succ8 (j := b) (by unfold big; omega)
          have d1 := HD.out wr hX.out b (by omega)
          have HX : Hid (b < 3) := hlt
          clear hX HD HY hb3 hlt
          go_wp2_with (first
            | (go_at_call 30; (with_reducible refine d1.mono ?_); rintro e Z1 ⟨ps, rfl, d2⟩; clear d1)
            | (go_at_call 23; first
              | ((with_reducible refine d2.mono ?_); rintro e Z2 ⟨gx, Cx, rfl, d3⟩; clear d2)
              | ((with_reducible refine d3.mono ?_); rintro e Z3 ⟨gy, Cy, rfl, d4⟩; clear d3)
              | ((with_reducible refine d4.mono ?_); rintro e Z4 ⟨j1, F1, rfl, d5⟩; clear d4)
              | ((with_reducible refine d6.mono ?_); rintro e Z7 ⟨j2, F2, rfl, d7⟩; clear d6))
            | (go_at_call 31; (with_reducible refine d5.mono ?_); rintro e Z5 ⟨rfl, d6⟩; clear d5)
            | (go_at_call 16; (with_reducible refine d7.mono ?_); rintro e Z9 ⟨rfl, hB, rx, ry⟩; clear d7
               have kx := rx.str
               have ky := ry.str
               rw [HQ.out] at kx
               rw [HP.out] at ky
               obtain ⟨kp, kq⟩ := HG.out Z9 hB
               have HB9 : Hid _ := hB
               clear rx ry hB))
          go_roundw
          case rel => exact ⟨b + 1, HX.out, by first | rfl | (rw [W2]; rfl), HB9.out⟩
          case measure => first | exact meas_lt8 HX.out | (rw [W2]; exact meas_lt8 HX.out)
        · obtain rfl : b = 3 := by omega
          have HZ : Hid (Below w.heap.size w wr) := HW.out.trans (hX.out.mono HW.out.size)
          clear hX HD HG HY hb3 hlt
          go_wp2
          go_ret
          exact ⟨rfl, HZ.out⟩
theorem wk_any {w : World} (c : Nat) (hc : c < 256) (a : Option Addr) (n ca : Nat) (hu : Rbm w a n ca) (b : Option Addr) (m cb : Nat) (hv : Rbm w b m cb) :
    Calls Try.prog 5 #[.int .u8 (c : Int), .slice a n ca, .slice b m cb] w fun e w' => e = .returned (.bool true) ∧ Below w.heap.size w w' := by
  obtain ⟨h1, S, h2⟩ := hu
  obtain ⟨h3, O, h4⟩ := hv
  exact wk9 c n m _ _ S O w hc h2 h4 h1
end Go.Proofs.Ytdolghlphmjcdab
