import Derived.Test.YtdnjddnjaekgeabNma
import Derived.Test.YtdnjddnjaekgeabEbo
namespace Go.Proofs.Ytdnjddnjaekgeab
open Go.RowKit Gf2
set_option linter.unusedVariables false

theorem nhalves16 (c : Nat) (w : World) (hc : c < 256) :
    Calls Try.prog 15 #[.int .u8 (c : Int)] w fun e w' => ∃ (b d : Nat) (F1 F2 : Nat → Nat), e = .returned (.tuple #[.slice (some ⟨b, 0, none⟩) 16 16, .slice (some ⟨d, 0, none⟩) 16 16]) ∧ w.heap.size ≤ b ∧ w.heap.size ≤ d ∧ b ≠ d ∧
      w'.rowIs b 5 16 (fun i => .int .u8 (F1 i : Nat)) ∧ w'.rowIs d 5 16 (fun i => .int .u8 (F2 i : Nat)) ∧ F1 1 = c ∧ F2 0 = 0 ∧ Below w.heap.size w w' :=
  (nhalves_any c w hc).mono fun e w' ⟨b, d, e1, l1, l2, n1, ⟨F1, r1, f1⟩, ⟨F2, r2, f2⟩, hb⟩ => ⟨b, d, F1, F2, e1, l1, l2, n1, r1, r2, by rw [f1 1 (by decide)]; exact fld8.fm_one hc, by rw [f2 0 (by decide), Nat.mul_zero, fld8.fm_zero], hb⟩
theorem Lm.form {w : World} {base n : Nat} {av : Value} (h : Lm w base av n) (h0 : 0 < n) : ∃ g cp, av = .slice (some ⟨g, 0, none⟩) n cp := by
  obtain ⟨B, F, hq, -, -⟩ := h
  obtain ⟨g, cp, e, -, -⟩ := hq.own.form h0
  exact ⟨g, cp, e⟩
theorem Tw.form {w : World} {base n : Nat} {av : Value} (h : Tw w base av n) (h0 : 0 < n) : ∃ g cp, av = .slice (some ⟨g, 0, none⟩) n cp := by
  obtain ⟨B, F, hq, -⟩ := h
  obtain ⟨g, cp, e, -, -⟩ := hq.own.form h0
  exact ⟨g, cp, e⟩
theorem Tw.below {w w' : World} {base i : Nat} {tv : Value} (h : Tw w base tv i) (hb : Below w.heap.size w w') : Tw w' base tv i := by
  obtain ⟨G, C, hq, hG⟩ := h
  exact ⟨G, C, hq.below hb, fun r hr => (hG r hr).of_block (hb.block _ (hq.hi r hr)) hb.size⟩

set_option maxHeartbeats 8000000 in
set_option maxRecDepth 100000 in
theorem memory_walk (c d : Nat) (u : Value) (n : Nat) (S : Nat → Nat) (w : World) (hc : c < 256) (hd : d < 256) (hu : Rb w u n S) (hm : n ≤ 140737488351232) :
    Calls Try.prog 4 #[.int .u8 (c : Int), .int .u8 (d : Int), u] w fun e w' => e = .returned (.bool true) ∧ Below w.heap.size w w' := by
  have hn : n ≤ 140737488355328 := by omega
  have c1 := fixed6_any w
  have c2 := fun W => nnew_any W
  have HN : Hid (c < 256 ∧ d < 256 ∧ n ≤ 140737488355328 ∧ Rb w u n S) := ⟨hc, hd, hn, hu⟩
  clear hc hd hm hn hu
  go_enter Try.func4, Try.ntmps4
  go_wp2_with (first
    | (go_at_call 7; (with_reducible refine c1.mono ?_); rintro e w1 ⟨rfl, hb1⟩)
    | (go_at_call 5; (with_reducible refine (c2 _).mono ?_); rintro e w2 ⟨p, rfl, hk2, hb2⟩; have hb12 := hb1.trans (hb2.mono hb1.size); have c3 := times6_any p _ _ c u n S w2 hk2 HN.out.1 (HN.out.2.2.2.below hb12) HN.out.2.2.1)
    | (go_at_call 14; (with_reducible refine c3.mono ?_); rintro e V ⟨bf, rfl, lbf, rbf, hb3⟩))
  have hbV := hb12.trans (hb3.mono hb12.size)
  have HV : Hid (Nk V p w1.heap.size w2.heap.size ∧ Rb V u n S ∧ Rw V bf n (fun i => fm 285 c (S i)) ∧ Below w.heap.size w V) := ⟨nk_below hk2 hb3, HN.out.2.2.2.below hbV, rbf, hbV⟩
  clear hb1 hk2 hb2 hb12 c1 c2 c3 lbf rbf hb3 hbV
  go_loopw [9, 11] (fun av iv wr => ∃ i : Nat, i ≤ 3 ∧ iv = .int .i64 i ∧ Below V.heap.size V wr ∧ Lm wr V.heap.size av (4 * i)) (fun _ iv _ => 3 - (intOf iv).toNat)
  case atStart => exact ⟨0, Nat.zero_le _, rfl, Below.refl _ _, Lm.start _ _⟩
  case round =>
    obtain ⟨i, hi, rfl, hbr, hM⟩ := hrel
    by_cases hlt : i < 3
    · have iN : ((i : Nat) : Int) < 3 := by omega
      have hsr := hbr.size
      have c4 := nhalves16 c wr HN.out.1
      have HM : Hid (Lm wr V.heap.size _ (4 * i) ∧ Below V.heap.size V wr ∧ i < 3) := ⟨hM, hbr, hlt⟩
      clear hM hbr
      go_wp2_with (first
        | (go_at_call 15; first
          | ((with_reducible refine c4.mono ?_); rintro e x1 ⟨b1, d1, F1, F2, rfl, l1, l2, n1, r1, r2, -, -, hx1⟩; have c5 := nhalves16 d x1 HN.out.2.1; clear c4)
          | ((with_reducible refine c5.mono ?_); rintro e x2 ⟨b2, d2, F3, F4, rfl, l3, l4, n6, r3, r4, -, -, hx2⟩; have t1 := r1.lt; have t2 := r2.lt; have hs1 := hx1.size; obtain ⟨g, cp, w5, hrun, hL5, hb5⟩ := lm_four HM.out.1 hsr (hx1.trans (hx2.mono hx1.size)) l1 l2 (by omega) (by omega) n1 (by omega) (by omega) (by omega) (by omega) n6 (r1.of_block (hx2.block _ t1)) (r2.of_block (hx2.block _ t2)) r3 r4 (by omega); clear c5 t1 t2 hs1 l1 l2 l3 l4 n1 n6 r1 r2 r3 r4 hx1 hx2))
        | (at_builtin; refine Lib.wpList_append_run _ rfl _ _ _ _ rfl _ _ rfl rfl _ _ hrun ?_))
      go_roundw
      case rel => exact ⟨i + 1, by omega, by go_num, HM.out.2.1.trans hb5, hL5⟩
      case measure => simp [intOf]; omega
    · have hi3 : i = 3 := by omega
      subst hi3
      rw [show ((3 : Nat) : Int) = 3 from rfl]
      have hM2 : Lm wr V.heap.size _ 12 := hM
      clear hM
      obtain ⟨ga, cp, rfl⟩ := hM2.form (by decide)
      obtain ⟨B, F0, L0, R0⟩ := hM2.laid (by decide)
      have HM : Hid (Lh wr V.heap.size ga 12 B ∧ Rh wr 12 B F0 ∧ Below V.heap.size V wr) := ⟨L0, R0, hbr⟩
      clear hM2 L0 R0 hbr hi hlt
      go_wp2
      go_loopw [58] (fun iv wq => ∃ (i : Nat) (F : Nat → Nat → Nat), i ≤ 12 ∧ iv = .int .i64 i ∧ Lh wq V.heap.size ga 12 B ∧ Rh wq 12 B F ∧ (∀ r, r < i → ∀ x, x < 16 → F r x = 16 * r + x) ∧ Below V.heap.size V wq) (fun iv _ => 12 - (intOf iv).toNat)
      case atStart => exact ⟨0, F0, Nat.zero_le _, rfl, HM.out.1, HM.out.2.1, fun r hr => absurd hr (Nat.not_lt_zero _), HM.out.2.2⟩
      case round =>
        obtain ⟨i, F, hi, rfl, L1, R1, hF, hb⟩ := hrel
        by_cases hlt : i < 12
        · have iN : ((i : Nat) : Int) < 12 := by omega
          have q1 := L1.cell i hlt
          have HR : Hid (Lh wr V.heap.size ga 12 B ∧ Rh wr 12 B F ∧ (∀ r, r < i → ∀ x, x < 16 → F r x = 16 * r + x) ∧ Below V.heap.size V wr) := ⟨L1, R1, hF, hb⟩
          clear L1 R1 hF hb
          go_wp2
          go_loopw [68] (fun jv wq => ∃ (j : Nat) (F' : Nat → Nat → Nat), j ≤ 16 ∧ jv = .int .i64 j ∧ Lh wq V.heap.size ga 12 B ∧ Rh wq 12 B F' ∧ (∀ r, r < i → ∀ x, x < 16 → F' r x = 16 * r + x) ∧ (∀ x, x < j → F' i x = 16 * i + x) ∧ Below V.heap.size V wq) (fun jv _ => 16 - (intOf jv).toNat)
          case atStart => exact ⟨0, F, Nat.zero_le _, rfl, HR.out.1, HR.out.2.1, HR.out.2.2.1, fun x hx => absurd hx (Nat.not_lt_zero _), HR.out.2.2.2⟩
          case round =>
            obtain ⟨j, F', hj, rfl, L2, R2, hF1, hF2, hb2⟩ := hrel
            by_cases hjlt : j < 16
            · have q2 := (R2 i hlt).cell hjlt
              have f2 := (R2 i hlt).frozen j
              have jN : ((j : Nat) : Int) < 16 := by omega
              have m1 : IntKind.u8.wrap (16 * (i : Int) + (j : Int)) = 16 * (i : Int) + (j : Int) := by rw [IntKind.wrap_u8]; omega
              have HS : Hid (Lh wr V.heap.size ga 12 B ∧ Rh wr 12 B F' ∧ (∀ r, r < i → ∀ x, x < 16 → F' r x = 16 * r + x) ∧ (∀ x, x < j → F' i x = 16 * i + x) ∧ Below V.heap.size V wr) := ⟨L2, R2, hF1, hF2, hb2⟩
              clear L2 R2 hF1 hF2 hb2
              go_wp2
              go_roundw
              case rel =>
                obtain ⟨g1, g2, g3, g4, g5⟩ := HS.out
                have e : (16 * (i : Int) + (j : Int)) = ((16 * i + j : Nat) : Int) := by omega
                rw [e]
                refine ⟨j + 1, _, by omega, by go_num, g1.set hlt _, g2.set g1 hlt, fun r hr x hx => ?_, fun x hx => ?_, g5.setCell (g1.lo i hlt) _⟩
                · rw [if_neg (by omega)]; exact g3 r hr x hx
                · by_cases e2 : x = j
                  · rw [if_pos ⟨rfl, e2⟩, e2]
                  · rw [if_neg (by omega)]; exact g4 x (by omega)
              case measure => simp [intOf]; omega
            · have hj6 : j = 16 := by omega
              subst hj6
              have HS : Hid (Lh wr V.heap.size ga 12 B ∧ Rh wr 12 B F' ∧ (∀ r, r < i → ∀ x, x < 16 → F' r x = 16 * r + x) ∧ (∀ x, x < 16 → F' i x = 16 * i + x) ∧ Below V.heap.size V wr) := ⟨L2, R2, hF1, hF2, hb2⟩
              clear L2 R2 hF1 hF2 hb2
              go_wp2
              go_roundw
              case rel =>
                obtain ⟨g1, g2, g3, g4, g5⟩ := HS.out
                refine ⟨i + 1, F', by omega, by go_num, g1, g2, fun r hr x hx => ?_, g5⟩
                by_cases e2 : r = i
                · rw [e2]; exact g4 x hx
                · exact g3 r (by omega) x hx
              case measure => simp [intOf]; omega
        · have hi12 : i = 12 := by omega
          subst hi12
          rw [show ((12 : Nat) : Int) = 12 from rfl]
          have R2 : Rh wr 12 B (fun r x => 16 * r + x) := fun r hr => (R1 r hr).congr (fun x hx => by rw [hF r hr x hx])
          obtain ⟨wS, hwS⟩ : ∃ wS : World, wS = wr := ⟨_, rfl⟩
          subst hwS
          have HS : Hid (Lh wS V.heap.size ga 12 B ∧ Rh wS 12 B (fun r x => 16 * r + x) ∧ Below V.heap.size V wS) := ⟨L1, R2, hb⟩
          clear L1 R1 R2 hF hb HM hi hlt
          go_wp2
          go_loopw [10, 83] (fun tv iv wq => ∃ i : Nat, i ≤ 12 ∧ iv = .int .i64 i ∧ Below wS.heap.size wS wq ∧ Tw wq wS.heap.size tv i) (fun _ iv _ => 12 - (intOf iv).toNat)
          case atStart => exact ⟨0, Nat.zero_le _, rfl, Below.refl _ _, Tw.start _ _⟩
          case round =>
            obtain ⟨i, hi, rfl, hbq, hT⟩ := hrel
            by_cases hlt : i < 12
            · have iN : ((i : Nat) : Int) < 12 := by omega
              have q1 := (HS.out.1).cell i hlt
              have q1 := (hbq.cell (p := ⟨ga, i, none⟩) HS.out.1.lh).trans q1
              obtain ⟨ws, hws⟩ : ∃ ws : World, ws = wr := ⟨_, rfl⟩
              subst hws
              have hsq := hbq.size
              have R5 := (HS.out.2.1 i hlt).of_block (hbq.block _ (HS.out.1.hi i hlt))
              have HW : Hid (ws.rowIs (B i) 5 16 (fun x => .int .u8 ((16 * i + x : Nat) : Int)) ∧ Below wS.heap.size wS ws ∧ Tw ws wS.heap.size _ i ∧ B i < ws.heap.size) := ⟨R5, hbq, hT, R5.lt⟩
              obtain ⟨k, hk⟩ : ∃ k, k = 255 - i := ⟨_, rfl⟩
              have HK : Hid (k = 255 - i) := hk
              have m2 : IntKind.u8.wrap (255 - (i : Int)) = (k : Int) := by rw [IntKind.wrap_u8]; omega
              clear R5 hbq hT hk
              go_wp2
              go_loopw [20, 21] (fun gv jv wq => ∃ j : Nat, j ≤ 40 ∧ jv = .int .i64 j ∧ Below ws.heap.size ws wq ∧ ((j = 0 ∧ gv = .slice (some ⟨B i, 0, none⟩) 16 16) ∨
                  (0 < j ∧ wq.ownsRow ws.heap.size 5 1 gv (16 + j) (six i ++ List.replicate j (Value.int .u8 (k : Int)))))) (fun _ jv _ => 40 - (intOf jv).toNat)
              case atStart => exact ⟨0, Nat.zero_le _, rfl, Below.refl _ _, .inl ⟨rfl, rfl⟩⟩
              case round =>
                obtain ⟨j, hj, rfl, hbj, hcase⟩ := hrel
                obtain ⟨i5, j1, j2, j3, j4⟩ := info_bm
                by_cases hjlt : j < 40
                · rcases hcase with ⟨rfl, rfl⟩ | ⟨hj0, hown⟩
                  · have R6 : Hid _ := six_cell (HW.out.1.of_block (hbj.block _ HW.out.2.2.2))
                    go_wp2_with (at_builtin; go_must (refine wpList_append_grows _ rfl _ _ 22 rfl 5 i5 (.int .u8 0) 1 1 Try.underlying22 j1 j2 j3 j4 rfl (by decide) (some ⟨B i, 0, none⟩) 16 16 (six i) rfl (fun h => by cases h) (by rw [six_len]) (R6.out _) _ 1 1 [.int .u8 (k : Int)] rfl rfl ?c1 ?c2 (by decide) ?c3 (by decide) ?_))
                    case c1 =>
                      intro q u hq
                      match q, hq with
                      | 0, hq => simp at hq; subst hq; simp [Addr.add]
                    case c2 => intro u hu; simp at hu; subst hu; rfl
                    case c3 => unfold maxLen; omega
                    · intro v' w' hown hgrow
                      go_wp2
                      go_roundw
                      case rel =>
                        have hs1 := hbj.size
                        have hs2 := hgrow.size
                        simp at hs2
                        refine ⟨1, by omega, rfl, (hbj.alloc hbj.size _).grown hgrow (by simp; omega) (fun q hq => by cases hq), .inr ⟨by omega, ?_⟩⟩
                        refine World.ownsRow.mono hown ?_
                        have := hbj.size
                        simp
                        omega
                      case measure => simp [intOf]
                  · have hbase2 := hbj.size
                    have jN : ((j : Nat) : Int) < 40 := by omega
                    go_wp2_with (at_builtin; go_must (refine wpList_append_lies _ rfl _ _ 22 rfl ws.heap.size 5 i5 (.int .u8 0) 1 1 Try.underlying22 j1 j2 j3 j4 rfl (by decide) _ _ _ rfl (hown.alloc _) _ 1 1 [.int .u8 (k : Int)] rfl rfl ?c1 ?c2 (by decide) ?c3 ?c4 ?c5 _ rfl ?_))
                    case c1 =>
                      intro q u hq
                      match q, hq with
                      | 0, hq => simp at hq; subst hq; simp [Addr.add]
                    case c2 => intro u hu; simp at hu; subst hu; rfl
                    case c3 => unfold maxLen; omega
                    case c4 => omega
                    case c5 => simp; omega
                    · intro g cap wA hownA hgrow hat hltA
                      go_wp2
                      go_roundw
                      case rel =>
                        have hs2 := hgrow.size
                        simp at hs2
                        refine ⟨j + 1, by omega, by go_num, (hbj.alloc hbj.size _).grown hgrow (by simp; omega) (fun q hq => (hown.lt q hq).1), .inr ⟨by omega, ?_⟩⟩
                        rw [← rep_more, ← Nat.add_assoc]
                        exact hownA
                      case measure => simp [intOf]; omega
                · have hj3 : j = 40 := by omega
                  subst hj3
                  rcases hcase with ⟨h, _⟩ | ⟨hj0, hown⟩
                  · omega
                  · obtain ⟨g, cap, rfl, hgl, hgh⟩ := hown.form (by omega)
                    rw [HK.out] at hown
                    obtain ⟨g', cp', w5, hrun, hT5, hb5⟩ := tw_more (cap := cap) HW.out.2.2.1 hsq hbj hgl (gg_of_owns hown hgh) (by omega)
                    have HF : Hid (Tw w5 wS.heap.size (.slice (some ⟨g', 0, none⟩) (i + 1) cp') (i + 1) ∧ Below wS.heap.size wS w5) := ⟨hT5, HW.out.2.1.trans hb5⟩
                    clear hown hgl hgh hbj hj0 hT5 hb5
                    go_wp2_with (at_builtin; refine Lib.wpList_append_run _ rfl _ _ _ _ rfl _ _ rfl rfl _ _ hrun ?_)
                    go_roundw
                    case rel => exact ⟨i + 1, by omega, by go_num, HF.out.2, HF.out.1⟩
                    case measure => simp [intOf]; omega
            · have hi12 : i = 12 := by omega
              subst hi12
              rw [show ((12 : Nat) : Int) = 12 from rfl]
              obtain ⟨gt, ct, rfl⟩ := hT.form (by decide)
              obtain ⟨wT, hwT⟩ : ∃ wT : World, wT = wr := ⟨_, rfl⟩
              subst hwT
              have lS := hbq.size
              have L6 := HS.out.1.lh
              have HT : Hid (Below wS.heap.size wS wT ∧ Tw wT wS.heap.size (.slice (some ⟨gt, 0, none⟩) 12 ct) 12) := ⟨hbq, hT⟩
              clear hbq hT hi hlt
              go_wp2
              go_loopw [105] (fun iv wq => ∃ i : Nat, i ≤ 12 ∧ iv = .int .i64 i ∧ wq = wT) (fun iv _ => 12 - (intOf iv).toNat)
              case atStart => exact ⟨0, Nat.zero_le _, rfl, rfl⟩
              case round =>
                obtain ⟨i, hi, rfl, hw⟩ := hrel
                have hw := hw.symm
                subst hw
                by_cases hlt : i < 12
                · have iN : ((i : Nat) : Int) < 12 := by omega
                  have q1 := (HT.out.1.cell (p := ⟨ga, i, none⟩) L6).trans (HS.out.1.cell i hlt)
                  have R5 := (HS.out.2.1 i hlt).of_block (HT.out.1.block _ (HS.out.1.hi i hlt))
                  obtain ⟨G, C, q3, hG⟩ := HT.out.2.cell hlt
                  have HG : Hid (wT.rowIs (B i) 5 16 (fun x => .int .u8 ((16 * i + x : Nat) : Int)) ∧ Gg wT G i) := ⟨R5, hG⟩
                  clear R5 hG
                  go_wp2
                  go_loopw [112] (fun jv wq => ∃ j : Nat, j ≤ 16 ∧ jv = .int .i64 j ∧ wq = wT) (fun jv _ => 16 - (intOf jv).toNat)
                  case atStart => exact ⟨0, Nat.zero_le _, rfl, rfl⟩
                  case round =>
                    obtain ⟨j, hj, rfl, hw⟩ := hrel
                    have hw := hw.symm
                    subst hw
                    by_cases hjlt : j < 16
                    · have q2 := HG.out.1.cell hjlt
                      have jN : ((j : Nat) : Int) < 16 := by omega
                      have m1 : IntKind.u8.wrap (16 * (i : Int) + (j : Int)) = 16 * (i : Int) + (j : Int) := by rw [IntKind.wrap_u8]; omega
                      go_wp2
                      go_roundw
                      case rel => exact ⟨j + 1, by omega, by go_num, trivial⟩
                      case measure => simp [intOf]; omega
                    · have hj6 : j = 16 := by omega
                      subst hj6
                      rw [show ((16 : Nat) : Int) = 16 from rfl]
                      go_wp2
                      go_loopw [25] (fun jv wq => ∃ j : Nat, j ≤ 40 ∧ jv = .int .i64 j ∧ wq = wT) (fun jv _ => 40 - (intOf jv).toNat)
                      case atStart => exact ⟨0, Nat.zero_le _, rfl, rfl⟩
                      case round =>
                        obtain ⟨j, hj, rfl, hw⟩ := hrel
                        have hw := hw.symm
                        subst hw
                        by_cases hjlt : j < 40
                        · have q2 := HG.out.2.2 (16 + j) (by omega)
                          rw [if_neg (by omega)] at q2
                          obtain ⟨k, hk⟩ : ∃ k, k = 255 - i := ⟨_, rfl⟩
                          rw [← hk] at q2
                          have m2 : IntKind.u8.wrap (255 - (i : Int)) = (k : Int) := by rw [IntKind.wrap_u8]; omega
                          have jN : ((j : Nat) : Int) < 40 := by omega
                          have jM : (16 : Int) + ((j : Nat) : Int) < 56 := by omega
                          clear hk
                          go_wp2
                          go_roundw
                          case rel => exact ⟨j + 1, by omega, by go_num, trivial⟩
                          case measure => simp [intOf]; omega
                        · have hj4 : j = 40 := by omega
                          subst hj4
                          rw [show ((40 : Nat) : Int) = 40 from rfl]
                          go_wp2
                          go_roundw
                          case rel => exact ⟨i + 1, by omega, by go_num, trivial⟩
                          case measure => simp [intOf]; omega
                · have hi12 : i = 12 := by omega
                  subst hi12
                  rw [show ((12 : Nat) : Int) = 12 from rfl]
                  have c6 := nhalves16 c wT HN.out.1
                  have hVr : Below V.heap.size V wT := HS.out.2.2.trans (HT.out.1.mono HS.out.2.2.size)
                  have HE : Hid (Below V.heap.size V wT) := hVr
                  clear hi hlt hVr
                  go_wp2_with (first
                    | (go_at_call 15; (with_reducible refine c6.mono ?_); rintro e x ⟨b, d9, F1, F2, rfl, l1, l2, n1, r1, r2, e1, e2, hx⟩; have q1 := r1.cell (i := 1) (by decide); have q2 := r2.cell (i := 0) (by decide); rw [e1] at q1; rw [e2] at q2; have hVx := HE.out.trans (hx.mono HE.out.size); have c7 := times6_any p _ _ c u n S x (nk_below HV.out.1 hVx) HN.out.1 (HV.out.2.1.below hVx) HN.out.2.2.1; clear r1 r2 e1 e2 l1 l2 n1 c6)
                    | (go_at_call 14; first
                      | ((with_reducible refine c7.mono ?_); rintro e y ⟨b6, rfl, l6, r6, hy⟩; have hVy := hVx.trans (hy.mono hVx.size); have c8 := equal6_true (.slice (some ⟨bf, 0, none⟩) n n) (.slice (some ⟨b6, 0, none⟩) n n) n (fun i => fm 285 c (S i)) y ((rw_below HV.out.2.2.1 hVy).rb0) r6.rb0; clear c7 l6 r6)
                      | ((with_reducible refine c10.mono ?_); rintro e z2 ⟨b7, rfl, l7, r7, hz2⟩; have hVz2 := hVz.trans (hz2.mono hVz.size); have c11 := equal6_true (.slice (some ⟨bf, 0, none⟩) n n) (.slice (some ⟨b7, 0, none⟩) n n) n (fun i => fm 285 c (S i)) z2 ((rw_below HV.out.2.2.1 hVz2).rb0) r7.rb0; clear c10 l7 r7))
                    | (go_at_call 11; first
                      | ((with_reducible refine c8.mono ?_); rintro e y2 ⟨rfl, m8, hy2⟩; have hVy2 : Below V.heap.size V y2 := (by rw [hy2]; exact below_drewN hVy m8); have c9 := nnew_any y2; clear c8 hy2)
                      | ((with_reducible refine c11.mono ?_); rintro e z3 ⟨rfl, m11, hz3⟩; have hVz3 : Below V.heap.size V z3 := (by rw [hz3]; exact below_drewN hVz2 m11); clear c11 hz3))
                    | (go_at_call 5; (with_reducible refine c9.mono ?_); rintro e z ⟨p9, rfl, hk9, hz⟩; have hVz := hVy2.trans (hz.mono hVy2.size); have c10 := times6_any p9 _ _ c u n S z hk9 HN.out.1 (HV.out.2.1.below hVz) HN.out.2.2.1; clear c9))
                  go_ret
                  exact ⟨rfl, HV.out.2.2.2.trans (hVz3.mono HV.out.2.2.2.size)⟩
theorem memory_any {w : World} (c : Nat) (hc : c < 256) (d : Nat) (hd : d < 256) (a : Option Addr) (n ca : Nat) (hu : Rbm w a n ca) :
    Calls Try.prog 4 #[.int .u8 (c : Int), .int .u8 (d : Int), .slice a n ca] w fun e w' => e = .returned (.bool true) ∧ Below w.heap.size w w' := by
  obtain ⟨hm, S, hS⟩ := hu
  exact memory_walk c d _ n S w hc hd hS hm
end Go.Proofs.Ytdnjddnjaekgeab
