import Derived.Test.YtoofoamondepoaaDoorLaq
namespace Go.Proofs.YtoofoamondepoaaDoor
open Go.RowKit Gf2
set_option linter.unusedVariables false

theorem Gv.cells {w0 W : World} {a : Option Addr} {L C : Nat} {S : Nat → Nat} (h : Gv w0 W (.slice a L C) L S) (hL : 0 < L) : ∃ g, a = some ⟨g, 0, none⟩ ∧ ∀ j, j < L → W.cell? ⟨g, j, none⟩ = some (.int .u16 (S j : Nat)) := by
  rcases h.2 with ⟨h1, -⟩ | ⟨g, C', F, a1, a2, a3, a4, a5⟩
  · omega
  · cases a1
    refine ⟨g, rfl, fun j hj => ?_⟩
    rw [← a5 j hj]
    exact a4.2.2.cell (by omega)
set_option maxHeartbeats 8000000 in
set_option maxRecDepth 100000 in
theorem apart13 (w W : World) (lb N : Nat) (u : Nat → Value) (L : Nat → Nat) (S : Nat → Nat → Nat) (hN : N ≤ 100) (hw : Below w.heap.size w W) (hl : W.rowIs lb 22 N u) (hg : ∀ r, r < N → Gv w W (u r) (L r) (S r))
    (hd : ∀ r s, r < N → s < N → r ≠ s → Dif (u r) (u s)) (hL : ∀ r, r < N → L r ≤ 400) :
    Calls Tryd.prog 23 #[.slice (some ⟨lb, 0, none⟩) N N] W fun e w' => e = .returned (.bool true) ∧ Below w.heap.size w w' ∧ W.heap.size ≤ w'.heap.size ∧ ∀ b, b < W.heap.size → (∀ r, r < N → ¬ In13 (u r) b) → w'.heap[b]? = W.heap[b]? := by
  have hu : ∀ r, r < N → ∀ b, In13 (u r) b → b < W.heap.size := fun r hr b hb => (hg r hr).lt13 hb
  have hlb : lb < W.heap.size := hl.lt
  have hln : ∀ r, r < N → ¬ In13 (u r) lb := fun r hr => row_apart hl (hg r hr)
  have hmk := make_l6 N (by omega)
  have b0 : Below W.heap.size W (W.alloc (.cells (madeCells #[.slice none 0 0] N) 22)) := (Below.refl _ _).alloc (Nat.le_refl _) _
  have S0 : Hid (St1 w W (W.alloc (.cells (madeCells #[.slice none 0 0] N) 22)) N u L S 0 0) :=
    ⟨hw.trans (b0.mono hw.size), by simp, (World.rowIs_made W (.slice none 0 0) N 22).congr (fun r hr => by rw [if_neg (Nat.not_lt_zero _)]), fun r hr => ((hg r hr).below b0).congr (fun x _ => by unfold m1; rw [if_neg (by omega)]), fun b hb _ => b0.block b hb⟩
  have HU : Hid ((∀ r, r < N → ∀ b, In13 (u r) b → b < W.heap.size) ∧ (∀ r s, r < N → s < N → r ≠ s → Dif (u r) (u s)) ∧ w.heap.size ≤ W.heap.size ∧ (∀ r, r < N → L r ≤ 400)) := ⟨hu, hd, hw.size, hL⟩
  have HL : Hid (∀ W' : World, (∀ b, b < W.heap.size → (∀ r, r < N → ¬ In13 (u r) b) → W'.heap[b]? = W.heap[b]?) → ∀ r, r < N → W'.cell? ⟨lb, r, none⟩ = some (u r)) := fun W' ho r hr => by
    rw [cell_heap (ho lb hlb hln)]
    exact hl.cell hr
  have HF : Hid (∀ r, r < N → ∃ a C, u r = .slice a (L r) C ∧ (0 < L r → ∃ g, a = some ⟨g, 0, none⟩)) := fun r hr => by
    obtain ⟨a, C, e⟩ := (hg r hr).form
    refine ⟨a, C, e, fun h0 => ?_⟩
    have h := hg r hr
    rw [e] at h
    obtain ⟨g, e2, -⟩ := h.cells h0
    exact ⟨g, e2⟩
  clear hu hlb hln b0 hw hl hg hd hL
  go_enter Tryd.func23, Tryd.ntmps23
  go_wp2
  clear hmk
  go_loopw [4] (fun iv wr => ∃ i : Nat, i ≤ N ∧ iv = .int .i64 i ∧ St1 w W wr N u L S i 0) (fun iv _ => N - (intOf iv).toNat)
  case atStart => exact ⟨0, Nat.zero_le _, rfl, S0.out⟩
  case round =>
    obtain ⟨i, hi, rfl, hs⟩ := hrel
    by_cases hlt : i < N
    · have ib : ((i : Nat) : Int) < (N : Int) := Int.ofNat_lt.2 hlt
      have W1 := wrap_succ8 (j := i) (Nat.lt_of_lt_of_le hlt (Nat.le_trans hN (by decide)))
      have HS : Hid (St1 w W wr N u L S i 0) := hs
      clear hs
      go_wp2
      go_loopw [5] (fun jv wq => ∃ j : Nat, j ≤ L i ∧ jv = .int .i64 j ∧ St1 w W wq N u L S i j) (fun jv _ => L i - (intOf jv).toNat)
      case atStart => exact ⟨0, Nat.zero_le _, rfl, HS.out⟩
      case round =>
        obtain ⟨j, hj, rfl, hs⟩ := hrel
        have q0 := HL.out wr hs.old i hlt
        obtain ⟨a9, c9, e9⟩ := (hs.own i hlt).form
        by_cases hjt : j < L i
        · have ho := hs.own i hlt
          rw [e9] at ho
          obtain ⟨g, rfl, hc⟩ := ho.cells (Nat.lt_of_le_of_lt (Nat.zero_le _) hjt)
          have q1 := hc j hjt
          obtain ⟨n1, n2, -, -, n5⟩ := mark_nums hlt hN
          obtain ⟨-, -, q2, -⟩ := ho.mark (j := j) (x := 2 * i) hjt n5
          have HV : Hid (St1 w W (wr.setCell ⟨g, j, none⟩ (.int .u16 (2 * (i : Int)))) N u L S i (j + 1)) := hs.mark HU.out.1 HU.out.2.1 hlt hjt n5 e9
          rw [e9] at q0
          have jb : ((j : Nat) : Int) < ((L i : Nat) : Int) := Int.ofNat_lt.2 hjt
          have W2 := wrap_succ8 (j := j) (Nat.lt_of_lt_of_le hjt (Nat.le_trans (HU.out.2.2.2 i hlt) (by decide)))
          generalize m1 S i j i j = M at q1
          clear hs ho hc n1 n2 n5 e9
          go_wp2
          go_roundw
          case rel => exact ⟨j + 1, hjt, by first | rfl | (rw [W2]; rfl), HV.out⟩
          case measure => first | exact meas_lt8 hjt | (rw [W2]; exact meas_lt8 hjt)
        · have hjL : j = L i := Nat.le_antisymm hj (Nat.le_of_not_lt hjt)
          have HV : Hid (St1 w W (wr.setCell ⟨W.heap.size, i, none⟩ (.slice a9 (L i) c9)) N u L S (i + 1) 0) := by rw [← e9]; exact hs.next HU.out.1 HU.out.2.2.1 hlt hjL
          rw [e9] at q0
          have q1 := hs.row.cell hlt
          have q2 := hs.row.frozen i
          simp only [Nat.lt_irrefl, if_false] at q1
          have jb : ¬ ((j : Nat) : Int) < ((L i : Nat) : Int) := fun e => hjt (Int.ofNat_lt.1 e)
          clear hs hjL e9
          go_wp2
          go_roundw
          case rel => exact ⟨i + 1, hlt, by first | rfl | (rw [W1]; rfl), HV.out⟩
          case measure => first | exact meas_lt8 hlt | (rw [W1]; exact meas_lt8 hlt)
    · have hiN : i = N := Nat.le_antisymm hi (Nat.le_of_not_lt hlt)
      subst hiN
      have HS2 : Hid (St2 w W wr i u u L 0 0) := hs.done HU.out.1 HU.out.2.1
      have ib : ¬ ((i : Nat) : Int) < (i : Int) := Int.lt_irrefl _
      clear hs
      go_wp2
      go_loopw [6] (fun iv wq => ∃ (r : Nat) (v : Nat → Value), r ≤ i ∧ iv = .int .i64 r ∧ St2 w W wq i u v L r 0) (fun iv _ => i - (intOf iv).toNat)
      case atStart => exact ⟨0, u, Nat.zero_le _, rfl, HS2.out⟩
      case round =>
        obtain ⟨r, v, hr, rfl, hs⟩ := hrel
        by_cases hrt : r < i
        · have rb : ((r : Nat) : Int) < (i : Int) := Int.ofNat_lt.2 hrt
          have W1 := wrap_succ8 (j := r) (Nat.lt_of_lt_of_le hrt (Nat.le_trans hN (by decide)))
          have HS : Hid (St2 w W wr i u v L r 0) := hs
          clear hs
          go_wp2
          go_loopw [7] (fun jv wq => ∃ (j : Nat) (v : Nat → Value), j ≤ 300 ∧ jv = .int .i64 j ∧ St2 w W wq i u v L r j) (fun jv _ => 300 - (intOf jv).toNat)
          case atStart => exact ⟨0, v, Nat.zero_le _, rfl, HS.out⟩
          case round =>
            obtain ⟨j, v2, hj, rfl, hs⟩ := hrel
            by_cases hjt : j < 300
            · obtain ⟨w', v', hrun, ⟨a8, c8, e8⟩, q2, q3, hs'⟩ := hs.grow HU.out.1 HU.out.2.2.1 HU.out.2.1 hrt hN (HU.out.2.2.2 r hrt) hjt
              obtain ⟨n1, -, n3, n4, -⟩ := mark_nums hrt hN
              have q1 := hs.row.cell hrt
              obtain ⟨a7, c7, e7⟩ := (hs.own r hrt).form
              have HV : Hid (St2 w W (w'.setCell ⟨W.heap.size, r, none⟩ v') i u (fun x => if x = r then v' else v2 x) L r (j + 1)) := hs'
              rw [e7] at q1 q2 hrun
              have jb : ((j : Nat) : Int) < 300 := Int.ofNat_lt.2 hjt
              have W2 := wrap_succ8 (j := j) (Nat.lt_trans hjt (by decide))
              obtain ⟨G, hG⟩ : ∃ G, G = g2 L r j r := ⟨_, rfl⟩
              rw [← hG] at q1 q2 hrun
              subst e8
              obtain ⟨G2, hG2⟩ : ∃ G2, G2 = g2 L r (j + 1) r := ⟨_, rfl⟩
              rw [← hG2] at hrun HV
              have hrun : (Builtin.append_ #[22, 22] 22 #[.slice a7 G c7, .slice (some ⟨wr.heap.size, 0, none⟩) 1 1]).run Tryd.prog (wr.alloc (.cells #[.int .u16 (2 * (r : Int) + 1)] 26)) = .ok (.slice a8 G2 c8) w' := hrun
              clear hs hs' e7 hG hG2 n1 n3 n4
              go_wp2_with (at_builtin; refine Lib.wpList_append_run _ rfl _ _ _ _ rfl _ _ rfl rfl _ _ hrun ?_)
              go_roundw
              case rel => exact ⟨j + 1, _, hjt, by first | rfl | (rw [W2]; rfl), HV.out⟩
              case measure => first | exact meas_lt8 hjt | (rw [W2]; exact meas_lt8 hjt)
            · have hj3 : j = 300 := Nat.le_antisymm hj (Nat.le_of_not_lt hjt)
              subst hj3
              have HV : Hid (St2 w W wr i u v2 L (r + 1) 0) := hs.next
              clear hs
              go_wp2
              go_roundw
              case rel => exact ⟨r + 1, v2, hrt, by first | rfl | (rw [W1]; rfl), HV.out⟩
              case measure => first | exact meas_lt8 hrt | (rw [W1]; exact meas_lt8 hrt)
        · have hri : r = i := Nat.le_antisymm hr (Nat.le_of_not_lt hrt)
          subst hri
          obtain ⟨Z, rfl⟩ : ∃ Z, Z = wr := ⟨_, rfl⟩
          have HS3 : Hid (St2 w W Z r u v L r 0) := hs
          have rb : ¬ ((r : Nat) : Int) < (r : Int) := Int.lt_irrefl _
          clear hs
          go_wp2
          go_loopw [8] (fun iv wq => ∃ t : Nat, t ≤ r ∧ iv = .int .i64 t ∧ wq = Z) (fun iv _ => r - (intOf iv).toNat)
          case atStart => exact ⟨0, Nat.zero_le _, rfl, rfl⟩
          case round =>
            obtain ⟨t, ht, rfl, hwq⟩ := hrel
            subst hwq
            by_cases htt : t < r
            · have tb : ((t : Nat) : Int) < (r : Int) := Int.ofNat_lt.2 htt
              have W1 := wrap_succ8 (j := t) (Nat.lt_of_lt_of_le htt (Nat.le_trans hN (by decide)))
              go_wp2
              obtain ⟨G, hG⟩ : ∃ G, G = L t + 300 := ⟨_, rfl⟩
              go_loopw [9] (fun jv wq => ∃ j : Nat, j ≤ G ∧ jv = .int .i64 j ∧ wq = wr) (fun jv _ => G - (intOf jv).toNat)
              case atStart => exact ⟨0, Nat.zero_le _, rfl, rfl⟩
              case round =>
                obtain ⟨j, hj, rfl, hwq⟩ := hrel
                subst hwq
                have hs := HS3.out
                have q0 := HL.out wr hs.old t htt
                have q1 := hs.row.cell htt
                obtain ⟨a5, c5, e5, h5⟩ := HF.out t htt
                have ho := hs.own t htt
                have eg : g2 L r 0 t = G := by unfold g2; rw [if_pos htt, hG]
                rw [eg] at ho
                obtain ⟨a7, c7, e7⟩ := ho.form
                rw [e7] at ho q1
                obtain ⟨g7, rfl, hc7⟩ := ho.cells (by omega)
                rw [e5] at q0
                have W2 := wrap_succ8 (j := j) (Nat.lt_of_le_of_lt hj (by rw [hG]; have := HU.out.2.2.2 t htt; unfold big; omega))
                by_cases hjt : j < G
                · have q2o := hc7 j hjt
                  have jb : ((j : Nat) : Int) < (G : Int) := Int.ofNat_lt.2 hjt
                  by_cases hjL : j < L t
                  · obtain ⟨g5, rfl⟩ := h5 (Nat.lt_of_le_of_lt (Nat.zero_le _) hjL)
                    have q3 : wr.cell? ⟨g5, j, none⟩ = some (.int .u16 (2 * (t : Int))) := hs.cell t htt g5 ⟨0, _, _, e5⟩ j hjL
                    have q2 : wr.cell? ⟨g7, j, none⟩ = some (.int .u16 (2 * (t : Int))) := by rw [q2o]; unfold m2; rw [if_pos hjL]; rfl
                    have jb2 : ((j : Nat) : Int) < ((L t : Nat) : Int) := Int.ofNat_lt.2 hjL
                    obtain ⟨M, hM⟩ : ∃ M, M = L t := ⟨_, rfl⟩
                    rw [← hM] at q0 jb2
                    clear hs ho hc7 e5 e7 h5 eg hjL hG hM q2o
                    go_wp2
                    go_roundw
                    case rel => exact ⟨j + 1, hjt, by first | rfl | (rw [W2]; rfl), by first | rfl | trivial⟩
                    case measure => first | exact meas_lt8 hjt | (rw [W2]; exact meas_lt8 hjt)
                  · have q2 : wr.cell? ⟨g7, j, none⟩ = some (.int .u16 (2 * (t : Int) + 1)) := by rw [q2o]; unfold m2; rw [if_neg hjL]; rfl
                    have jb2 : ¬ ((j : Nat) : Int) < ((L t : Nat) : Int) := fun e => hjL (Int.ofNat_lt.1 e)
                    have jb4 : ((L t : Nat) : Int) ≤ ((j : Nat) : Int) := Int.not_lt.1 jb2
                    obtain ⟨M, hM⟩ : ∃ M, M = L t := ⟨_, rfl⟩
                    rw [← hM] at q0 jb2 jb4
                    clear hs ho hc7 e5 e7 h5 eg hjL hG hM q2o
                    go_wp2
                    go_roundw
                    case rel => exact ⟨j + 1, hjt, by first | rfl | (rw [W2]; rfl), by first | rfl | trivial⟩
                    case measure => first | exact meas_lt8 hjt | (rw [W2]; exact meas_lt8 hjt)
                · have jb : ¬ ((j : Nat) : Int) < (G : Int) := fun e => hjt (Int.ofNat_lt.1 e)
                  clear hs ho hc7 e5 e7 h5 eg hG q0
                  go_wp2
                  go_roundw
                  case rel => exact ⟨t + 1, htt, by first | rfl | (rw [W1]; rfl), by first | rfl | trivial⟩
                  case measure => first | exact meas_lt8 htt | (rw [W1]; exact meas_lt8 htt)
            · have tb : ¬ ((t : Nat) : Int) < (r : Int) := fun e => htt (Int.ofNat_lt.1 e)
              go_wp2
              go_ret
              exact ⟨rfl, HS3.out.bel, Nat.le_of_lt HS3.out.sz, HS3.out.old⟩
end Go.Proofs.YtoofoamondepoaaDoor
