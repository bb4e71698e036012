import Derived.Test.YtemjodlhpelbaaaDoorAap
namespace Go.Proofs.YtemjodlhpelbaaaDoor
open Go.RowKit Gf2
set_option linter.unusedVariables false

theorem Cl.below {w0 wr w' : World} {gr N q i : Nat} {B C : Nat → Nat} {G : Nat → Nat → Nat} {F : Nat → Nat} (h : Cl w0 wr gr N q i B C G F) (hb : Below wr.heap.size wr w') : Cl w0 w' gr N q i B C G F :=
  ⟨h.bel.trans (hb.mono h.bel.size), h.lst.of_block (hb.block gr h.lst.lt), fun j hj => ⟨(h.row j hj).1.below hb, (h.row j hj).2⟩, h.inj⟩
set_option maxHeartbeats 8000000 in
set_option maxRecDepth 100000 in
theorem apart14 (W : World) (lb n : Nat) (Bk : Nat → Nat) (S : Nat → Nat → Nat) (hn : n ≤ 64) (h0 : 0 < n) (hl : W.rowIs lb 22 18 (fun r => .slice (some ⟨Bk r, 0, none⟩) n n)) (hg : ∀ r, r < 18 → R6 W (Bk r) n (S r))
    (inj : ∀ r s, r < 18 → s < 18 → Bk r = Bk s → r = s) (hlb : ¬ Eb Bk 18 lb) :
    Calls Tryd.prog 22 #[.slice (some ⟨lb, 0, none⟩) 18 18] W fun e w' => e = .returned (.bool true) ∧ Kx (Eb Bk 18) W w' := by
  have HL : Hid (∀ W' : World, Kx (Eb Bk 18) W W' → ∀ r, r < 18 → W'.cell? ⟨lb, r, none⟩ = some (.slice (some ⟨Bk r, 0, none⟩) n n)) := fun W' k r hr => (k.cell hl.lt hlb).trans (hl.cell hr)
  have HI : Hid (∀ r s, r < 18 → s < 18 → Bk r = Bk s → r = s) := inj
  have S0 : Hid (Mk W W Bk n S 0 0) := ⟨Kx.refl _ _, fun r hr => (hg r hr).congr (fun x _ => by rw [if_neg (by omega)])⟩
  have HN : Hid (n ≤ 64 ∧ 0 < n) := ⟨hn, h0⟩
  clear hl hg inj hlb hn h0
  go_enter Tryd.func22, Tryd.ntmps22
  go_wp2
  go_loopw [3] (fun iv wr => ∃ i : Nat, i ≤ 18 ∧ iv = .int .i64 i ∧ Mk W wr Bk n S i 0) (fun iv _ => 18 - (intOf iv).toNat)
  case atStart => exact ⟨0, Nat.zero_le _, rfl, S0.out⟩
  case round =>
    obtain ⟨i, hi, rfl, hs⟩ := hrel
    by_cases hlt : i < 18
    · have ib : ((i : Nat) : Int) < 18 := by omega
      have W1 := wrap_succ8 (j := i) (by unfold big; omega)
      have HS : Hid (Mk W wr Bk n S i 0) := hs
      clear hs
      go_wp2
      go_loopw [4] (fun jv wq => ∃ j : Nat, j ≤ n ∧ jv = .int .i64 j ∧ Mk W wq Bk n S i j) (fun jv _ => n - (intOf jv).toNat)
      case atStart => exact ⟨0, Nat.zero_le _, rfl, HS.out⟩
      case round =>
        rename_i hrel
        obtain ⟨j, hj, rfl, hs⟩ := hrel
        have q0 := HL.out wr hs.kx i hlt
        by_cases hjt : j < n
        · obtain ⟨Z, q1⟩ : ∃ Z : Nat, wr.cell? ⟨Bk i, j, none⟩ = some (.int .u16 (Z : Nat)) := ⟨_, (hs.row i hlt).2.2.cell (i := j) hjt⟩
          have q2 := (hs.row i hlt).2.2.frozen j
          have HV : Hid (Mk W (wr.setCell ⟨Bk i, j, none⟩ (.int .u16 (2 * (i : Int) + 1))) Bk n S i (j + 1)) := hs.mark HI.out hlt hjt
          have jb : ((j : Nat) : Int) < (n : Int) := by omega
          have W2 := wrap_succ8 (j := j) (by have := HN.out.1; unfold big; omega)
          obtain ⟨Bi, hBi⟩ : ∃ Bi, Bi = Bk i := ⟨_, rfl⟩
          rw [← hBi] at q0 q1 q2 HV
          clear hs hBi
          go_wp2
          go_roundw
          case rel => exact ⟨j + 1, hjt, by first | rfl | (rw [W2]; rfl), HV.out⟩
          case measure => first | exact meas_lt8 hjt | (rw [W2]; exact meas_lt8 hjt)
        · have HV : Hid (Mk W wr Bk n S (i + 1) 0) := hs.next hjt
          have jb : ¬ ((j : Nat) : Int) < (n : Int) := by omega
          clear hs
          go_wp2
          go_roundw
          case rel => exact ⟨i + 1, hlt, by first | rfl | (rw [W1]; rfl), HV.out⟩
          case measure => first | exact meas_lt8 hlt | (rw [W1]; exact meas_lt8 hlt)
    · obtain rfl : i = 18 := by omega
      have HM : Hid (Mk W wr Bk n S 18 0) := hs
      obtain ⟨X, hX⟩ : ∃ X, X = wr := ⟨_, rfl⟩
      have hmr : (Instr.makeSlice 39 (.int .i64 18) (.int .i64 18)).run Tryd.prog wr = .ok (.slice (some ⟨wr.heap.size, 0, none⟩) 18 18) (wr.alloc (.cells (madeCells #[.slice none 0 0] 18) 22)) := make_rows14 18 (by decide) wr
      have HR : Hid (∀ r, r < 18 → R6 X (Bk r) n (fun _ => 2 * r + 1)) := fun r hr => by rw [hX]; exact (hs.row r hr).congr (fun x hx => by rw [if_pos (.inl hr)])
      have HK : Hid (Kx (Eb Bk 18) W X) := by rw [hX]; exact hs.kx
      have HC : Hid (Cl X (X.alloc (.cells (madeCells #[.slice none 0 0] 18) 22)) X.heap.size 18 (n + 80) 0 (fun _ => 0) (fun _ => 0) (fun _ _ => 0) (gmf n)) :=
        ⟨below_alloc _ _, (World.rowIs_made X (.slice none 0 0) 18 22).congr (fun j hj => by rw [if_neg (Nat.not_lt_zero _)]), fun j hj => absurd hj (Nat.not_lt_zero _), fun j j' hj => absurd hj (Nat.not_lt_zero _)⟩
      subst hX
      clear hs hi hlt HM
      go_wp2
      clear hmr
      obtain ⟨gs, hgs⟩ : ∃ gs, gs = X.heap.size := ⟨_, rfl⟩
      rw [← hgs] at HC ⊢
      replace hgs : Hid (gs = X.heap.size) := hgs
      go_loopw [6] (fun iv wr => ∃ (i : Nat) (Gb Cg : Nat → Nat) (Fg : Nat → Nat → Nat), i ≤ 18 ∧ iv = .int .i64 i ∧ Cl X wr gs 18 (n + 80) i Gb Cg Fg (gmf n)) (fun iv _ => 18 - (intOf iv).toNat)
      case atStart => exact ⟨0, _, _, _, Nat.zero_le _, rfl, HC.out⟩
      case round =>
        rename_i hrel
        obtain ⟨i, Gb, Cg, Fg, hi, rfl, hc⟩ := hrel
        by_cases hlt : i < 18
        · have ib : ((i : Nat) : Int) < 18 := by omega
          have W1 := wrap_succ8 (j := i) (by unfold big; omega)
          have q0 := HL.out wr (HK.out.trans (kx_below hc.bel _)) i hlt
          obtain ⟨Y, hY⟩ : ∃ Y, Y = wr := ⟨_, rfl⟩
          have HCi : Hid (Cl X Y gs 18 (n + 80) i Gb Cg Fg (gmf n)) := by rw [hY]; exact hc
          have HRi : Hid (R6 Y (Bk i) n (fun _ => 2 * i + 1)) := by rw [hY]; exact (HR.out i hlt).below hc.bel
          clear hc
          subst hY
          go_wp2
          go_loopw [7, 8] (fun gv jv wq => ∃ j : Nat, j ≤ 80 ∧ jv = .int .i64 j ∧ Gr Y wq (Bk i) n i gv j) (fun _ jv _ => 80 - (intOf jv).toNat)
          case atStart => exact ⟨0, Nat.zero_le _, rfl, Below.refl _ _, .inl ⟨rfl, rfl⟩⟩
          case round =>
            rename_i hrel
            obtain ⟨j, hj, rfl, hgr⟩ := hrel
            obtain ⟨g7, C7, rfl⟩ := hgr.form
            by_cases hjt : j < 80
            · obtain ⟨w', v', hrun, hgr'⟩ := hgr.grow HRi.out.lt HRi.out hlt HN.out.1 hjt
              have HV : Hid (Gr Y w' (Bk i) n i v' (j + 1)) := hgr'
              obtain ⟨g8, C8, e8⟩ := hgr'.form
              have jb : ((j : Nat) : Int) < 80 := by omega
              have W2 := wrap_succ8 (j := j) (by unfold big; omega)
              obtain ⟨L7, hL7⟩ : ∃ L7, L7 = n + j := ⟨_, rfl⟩
              rw [← hL7] at hrun ⊢
              subst e8
              obtain ⟨L8, hL8⟩ : ∃ L8, L8 = n + (j + 1) := ⟨_, rfl⟩
              rw [← hL8] at hrun HV
              have hrun : (Builtin.append_ #[22, 22] 22 #[.slice (some ⟨g7, 0, none⟩) L7 C7, .slice (some ⟨wr.heap.size, 0, none⟩) 1 1]).run Tryd.prog (wr.alloc (.cells #[.int .u16 (2 * (i : Int) + 2)] 31)) = .ok (.slice (some ⟨g8, 0, none⟩) L8 C8) w' := hrun
              clear hgr hgr' hL7 hL8
              go_wp2_with (at_builtin; refine Lib.wpList_append_run _ rfl _ _ _ _ rfl _ _ rfl rfl _ _ hrun ?_)
              go_roundw
              case rel => exact ⟨j + 1, hjt, by first | rfl | (rw [W2]; rfl), HV.out⟩
              case measure => first | exact meas_lt8 hjt | (rw [W2]; exact meas_lt8 hjt)
            · obtain rfl : j = 80 := by omega
              have jb : ¬ ((80 : Nat) : Int) < 80 := by decide
              obtain ⟨C0, F0, e0, hC0, hg0, hR0, hF0⟩ : ∃ C0 F0, C7 = C0 ∧ n + 80 ≤ C0 ∧ Y.heap.size ≤ g7 ∧ R6 wr g7 C0 F0 ∧ ∀ x, x < n + 80 → F0 x = gm n i x := by
                rcases hgr.2 with ⟨h, -⟩ | ⟨-, gb, C, F, e, h1, h2, h3, h4⟩
                · omega
                · cases e
                  exact ⟨_, F, rfl, h1, h2, h3, h4⟩
              subst e0
              have nx := HCi.out.next (by rw [hgs.out]; exact Nat.le_refl _) hlt hgr.1 hg0 hR0 hC0 (fun x hx => by rw [gmf_at hx]; exact hF0 x hx)
              have y1 := (HCi.out.below hgr.1).lst.cell (i := i) hlt
              rw [if_neg (Nat.lt_irrefl _)] at y1
              have y2 := (HCi.out.below hgr.1).lst.frozen i
              have HV : Hid (Cl X (wr.setCell ⟨gs, i, none⟩ (.slice (some ⟨g7, 0, none⟩) (n + 80) C7)) gs 18 (n + 80) (i + 1) (fun j => if j = i then g7 else Gb j) (fun j => if j = i then C7 else Cg j) (fun j => if j = i then F0 else Fg j) (gmf n)) := nx
              obtain ⟨L7, hL7⟩ : ∃ L7, L7 = n + 80 := ⟨_, rfl⟩
              have HV2 := HV.out
              rw [← hL7] at HV2 ⊢
              have HV3 : Hid (Cl X (wr.setCell ⟨gs, i, none⟩ (.slice (some ⟨g7, 0, none⟩) L7 C7)) gs 18 L7 (i + 1) (fun j => if j = i then g7 else Gb j) (fun j => if j = i then C7 else Cg j) (fun j => if j = i then F0 else Fg j) (gmf n)) := HV2
              replace hL7 : Hid (L7 = n + 80) := hL7
              clear nx HV HV2 hgr hC0 hg0 hR0 hF0
              go_wp2
              go_roundw
              case rel => exact ⟨i + 1, _, _, _, hlt, by first | rfl | (rw [W1]; rfl), by rw [← hL7.out]; exact HV3.out⟩
              case measure => first | exact meas_lt8 hlt | (rw [W1]; exact meas_lt8 hlt)
        · obtain rfl : i = 18 := by omega
          obtain ⟨Z, hZ⟩ : ∃ Z, Z = wr := ⟨_, rfl⟩
          have HZ : Hid (Cl X Z gs 18 (n + 80) 18 Gb Cg Fg (gmf n)) := by rw [hZ]; exact hc
          subst hZ
          clear hc hi hlt
          go_wp2
          go_loopw [9] (fun iv wq => ∃ t : Nat, t ≤ 18 ∧ iv = .int .i64 t ∧ Kx (Eb Bk 18) W wq ∧ ∃ d, wq = Z.drewN d) (fun iv _ => 18 - (intOf iv).toNat)
          case atStart => exact ⟨0, Nat.zero_le _, rfl, HK.out.trans (kx_below HZ.out.bel _), 0, rfl⟩
          case round =>
            rename_i hrel
            obtain ⟨t, ht, rfl, hkt, d, hw⟩ := hrel
            by_cases htt : t < 18
            · have tb : ((t : Nat) : Int) < 18 := by omega
              have W1 := wrap_succ8 (j := t) (by unfold big; omega)
              have q0 := HL.out wr hkt t htt
              have HW : Hid (Kx (Eb Bk 18) W wr ∧ wr = Z.drewN d) := ⟨hkt, hw⟩
              obtain ⟨G, hG⟩ : ∃ G, G = n + 80 := ⟨_, rfl⟩
              clear hkt hw
              go_wp2
              go_loopw [11] (fun jv wq => ∃ j : Nat, j ≤ G ∧ jv = .int .i64 j ∧ Kx (Eb Bk 18) W wq ∧ ∃ d, wq = Z.drewN d) (fun jv _ => G - (intOf jv).toNat)
              case atStart => exact ⟨0, Nat.zero_le _, rfl, HW.out.1, _, HW.out.2⟩
              case round =>
                rename_i hrel
                obtain ⟨j, hj, rfl, hkt, d, hw⟩ := hrel
                have q0 := HL.out wr hkt t htt
                have q1 : wr.cell? ⟨gs, t, none⟩ = some (.slice (some ⟨Gb t, 0, none⟩) G (Cg t)) := by
                  rw [hw, hG]
                  have := HZ.out.lst.cell (i := t) htt
                  rw [if_pos htt] at this
                  exact this
                obtain ⟨c1, c2, c3, c4⟩ := HZ.out.row t htt
                have W2 := wrap_succ8 (j := j) (by rw [hG] at hj; have := HN.out.1; unfold big; omega)
                have HX : Hid (Kx (Eb Bk 18) W wr ∧ wr = Z.drewN d) := ⟨hkt, hw⟩
                by_cases hjt : j < G
                · have e2 : Fg t j = gm n t j := by rw [c4 j (by omega)]; exact gmf_at (by omega)
                  have q2o : wr.cell? ⟨Gb t, j, none⟩ = some (.int .u16 (gm n t j : Nat)) := by
                    rw [hw, ← e2]
                    exact c1.2.2.cell (i := j) (by omega)
                  have jb : ((j : Nat) : Int) < (G : Int) := by omega
                  obtain ⟨Bt, hBt⟩ : ∃ Bt, Bt = Bk t := ⟨_, rfl⟩
                  obtain ⟨Gt, hGt⟩ : ∃ Gt, Gt = Gb t := ⟨_, rfl⟩
                  obtain ⟨Ct, hCt⟩ : ∃ Ct, Ct = Cg t := ⟨_, rfl⟩
                  by_cases hjL : j < n
                  · have q3 : wr.cell? ⟨Bk t, j, none⟩ = some (.int .u16 (2 * (t : Int) + 1)) := by
                      rw [hw]
                      exact ((HR.out t htt).below HZ.out.bel).2.2.cell (i := j) hjL
                    have q2 : wr.cell? ⟨Gb t, j, none⟩ = some (.int .u16 (2 * (t : Int) + 1)) := by rw [q2o]; unfold gm; rw [if_pos hjL]; rfl
                    have jb2 : ((j : Nat) : Int) < (n : Int) := by omega
                    have jb3 : ¬ (n : Int) ≤ ((j : Nat) : Int) := by omega
                    rw [← hBt] at q0 q3
                    rw [← hGt, ← hCt] at q1
                    rw [← hGt] at q2
                    replace hG : Hid (G = n + 80) := hG
                    clear hkt hw c1 c2 c3 c4 e2 q2o hBt hGt hCt
                    go_wp2
                    go_roundw
                    case rel => exact ⟨j + 1, hjt, by first | rfl | (rw [W2]; rfl), HX.out.1, _, HX.out.2⟩
                    case measure => first | exact meas_lt8 hjt | (rw [W2]; exact meas_lt8 hjt)
                  · have q2 : wr.cell? ⟨Gb t, j, none⟩ = some (.int .u16 (2 * (t : Int) + 2)) := by rw [q2o]; unfold gm; rw [if_neg hjL]; rfl
                    have jb2 : ¬ ((j : Nat) : Int) < (n : Int) := by omega
                    have jb3 : (n : Int) ≤ ((j : Nat) : Int) := by omega
                    rw [← hBt] at q0
                    rw [← hGt, ← hCt] at q1
                    rw [← hGt] at q2
                    replace hG : Hid (G = n + 80) := hG
                    clear hkt hw c1 c2 c3 c4 e2 q2o hBt hGt hCt
                    go_wp2
                    go_roundw
                    case rel => exact ⟨j + 1, hjt, by first | rfl | (rw [W2]; rfl), HX.out.1, _, HX.out.2⟩
                    case measure => first | exact meas_lt8 hjt | (rw [W2]; exact meas_lt8 hjt)
                · have jb : ¬ ((j : Nat) : Int) < (G : Int) := by omega
                  clear hkt hw c1 c2 c3 c4
                  replace hG : Hid (G = n + 80) := hG
                  go_wp2
                  go_roundw
                  case rel => exact ⟨t + 1, htt, by first | rfl | (rw [W1]; rfl), HX.out.1, _, HX.out.2⟩
                  case measure => first | exact meas_lt8 htt | (rw [W1]; exact meas_lt8 htt)
            · have tb : ¬ ((t : Nat) : Int) < 18 := by omega
              have HW : Hid (Kx (Eb Bk 18) W wr) := hkt
              clear hkt hw
              go_wp2
              go_ret
              exact ⟨rfl, HW.out⟩
end Go.Proofs.YtemjodlhpelbaaaDoor
