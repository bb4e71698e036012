import Derived.Test.YtdnhidachdjgaaaMkd
import Derived.Test.YtdnhidachdjgaaaMxo
import Derived.Test.YtdnhidachdjgaaaMxn
namespace Go.Proofs.Ytdnhidachdjgaaa
open Go.RowKit Gf2
set_option linter.unusedVariables false

-- layer 10: the document's Transpose
theorem rcheck10_b (v : Value) (m : Nat) (n : Nat → Nat) (S : Nat → Nat → Nat) (w : World) (h : Lb w v m n S) (z : Int) (hz : (z = 0 ∧ Fm m n) ∨ (z = 100 ∧ ¬ Fm m n)) :
    Calls Try.prog 42 #[v] w fun e w' => e = .returned (.int .i64 z) ∧ Below w.heap.size w w' :=
  (rcheck10_yes v m n S w h z hz).mono fun e w' ⟨he, q, hw⟩ => ⟨he, by rw [hw]; exact below_drewM (Below.refl _ _) q⟩
/-- row 0 of a matrix that has rows. -/
theorem row0_10 {w : World} {u : Value} {m : Nat} {n : Nat → Nat} {S : Nat → Nat → Nat} (h : Lb w u m n S) (h0 : 1 ≤ m) : ∃ b o cap, u = .slice (some ⟨b, o, none⟩) m cap ∧ ∀ y, Below w.heap.size w y → ∃ x cx, y.cell? ⟨b, o, none⟩ = some (.slice x (n 0) cx) := by
  obtain ⟨V, ⟨hnb, a, cap, rfl, -, -, h4⟩, hV⟩ := h
  obtain ⟨b, o, rfl, hbl, hc⟩ := h4 h0
  obtain ⟨_, _, x, y, e, _⟩ := hV 0 h0
  refine ⟨b, o, cap, rfl, fun y' hb => ⟨x, y, ?_⟩⟩
  have := (hb.cell (p := ⟨b, o + 0, none⟩) hbl.1).trans (hc 0 h0)
  rw [e] at this
  exact this
theorem lb_form10 {w : World} {u : Value} {m : Nat} {n : Nat → Nat} {S : Nat → Nat → Nat} (h : Lb w u m n S) : ∃ a cap, u = .slice a m cap := by
  obtain ⟨V, ⟨hnb, a, cap, e, -⟩, hV⟩ := h
  exact ⟨a, cap, e⟩
set_option maxHeartbeats 2000000 in
set_option maxRecDepth 100000 in
theorem rtrans10_no (u : Value) (m : Nat) (n : Nat → Nat) (S : Nat → Nat → Nat) (w : World) (h : Lb w u m n S) (hno : ¬ (Fm m n ∧ n 0 ≤ 256)) :
    Calls Try.prog 47 #[u] w fun e w' => e = .returned (.tuple #[.slice none 0 0, .int .i64 100]) ∧ Below w.heap.size w w' := by
  by_cases hf : Fm m n
  · have c1 := rcheck10_b u m n S w h 0 (.inl ⟨rfl, hf⟩)
    have hn : 256 < n 0 := by
      rcases Nat.lt_or_ge 256 (n 0) with h9 | h9
      · exact h9
      · exact absurd ⟨hf, h9⟩ hno
    obtain ⟨b, o, cap, rfl, hU⟩ := row0_10 h hf.1
    have i0 : (0 : Int) < (m : Int) := Int.ofNat_lt.2 hf.1
    have D1 : decide ((256 : Int) < (n 0 : Int)) = true := by simp; omega
    clear h hno hf hn
    go_enter Try.func47, Try.ntmps47
    go_wp2_with (go_at_call 42; ((with_reducible refine (c1).mono ?_); (rintro e w9 ⟨rfl, b9⟩; obtain ⟨x, cx, z0⟩ := hU w9 b9; have HB : Hid (Below w.heap.size w w9) := b9; clear b9)))
    go_ret2
    exact ⟨rfl, HB.out⟩
  · have c1 := rcheck10_b u m n S w h 100 (.inr ⟨rfl, hf⟩)
    obtain ⟨a, cap, rfl⟩ := lb_form10 h
    clear h hno hf
    go_enter Try.func47, Try.ntmps47
    go_wp2_with (go_at_call 42; ((with_reducible refine (c1).mono ?_); (rintro e w9 ⟨rfl, b9⟩)))
    go_ret2
    exact ⟨rfl, b9⟩
set_option maxHeartbeats 2000000 in
set_option maxRecDepth 100000 in
theorem rtrans10_yes (u : Value) (m n : Nat) (S : Nat → Nat → Nat) (w : World) (h : Lb w u m (fun _ => n) S) (h1 : 1 ≤ m) (h2 : m ≤ 256) (h3 : 1 ≤ n) (h4 : n ≤ 256) :
    Calls Try.prog 47 #[u] w fun e w' => ∃ x, e = .returned (.tuple #[x, .int .i64 0]) ∧ Ans w w' x n m (fun i j => S j i) := by
  have c1 := rcheck10_b u m (fun _ => n) S w h 0 (.inl ⟨rfl, fm_n h1 h2 h3 (by omega)⟩)
  have c4 := fun x => rzeros10 n m x (by omega) (by omega)
  obtain ⟨b, o, cap, X, CX, rfl, hU⟩ := rows10f h h1
  have i0 : (0 : Int) < (m : Int) := Int.ofNat_lt.2 h1
  have k1 : decide (256 < (n : Int)) = false := by simp; omega
  have HK : Hid (m ≤ 1000 ∧ n ≤ 1000 ∧ m ≤ big ∧ n ≤ big ∧ 0 < m) := ⟨by omega, by omega, by unfold big; omega, by unfold big; omega, h1⟩
  have HU : Hid _ := hU
  clear h h1 h2 h3 h4 hU
  go_enter Try.func47, Try.ntmps47
  go_wp2_with (first | (go_at_call 42; (with_reducible refine c1.mono ?_); rintro e w9 ⟨rfl, b9⟩; obtain ⟨z0, -⟩ := HU.out w9 b9 0 HK.out.2.2.2.2; rw [Nat.add_zero] at z0; have H9 : Hid (Below w.heap.size w w9) := b9; clear c1 b9) | (go_at_call 68; (with_reducible refine (c4 _).mono ?_); rintro e w1 ⟨rfl, hz⟩; clear c4))
  have hC := hz.cs HK.out.2.2.2.1 HK.out.2.2.1
  have hb1 := hz.bel
  clear hz z0 i0 k1
  generalize hB : (fun i => w9.heap.size + 1 + i) = B at hC
  clear hB
  go_loopw [5] (fun i wr => ∃ r : Nat, r ≤ n ∧ i = .int .i64 r ∧ Cs w9.heap.size w1.heap.size wr (.slice (some ⟨w9.heap.size, 0, none⟩) n n) n (fun _ => m) (fun _ => m) B (fil (fun i j => S j i) (fun _ _ => 0) r 0) ∧ Below w9.heap.size w9 wr) (fun i _ => n - (intOf i).toNat)
  case atStart => exact ⟨0, Nat.zero_le _, rfl, hC.fil_start _, hb1⟩
  case round =>
    obtain ⟨r, hr, rfl, hC', hb'⟩ := hrel
    clear hC hb1
    by_cases hlt : r < n
    · have ib : ((r : Nat) : Int) < (n : Int) := Int.ofNat_lt.2 hlt
      have W1 := wrap_lt8 hlt HK.out.2.1
      have HX : Hid (r < n) := hlt
      clear hr hlt
      go_wp2
      go_loopw [6] (fun j wr2 => ∃ c : Nat, c ≤ m ∧ j = .int .i64 c ∧ Cs w9.heap.size w1.heap.size wr2 (.slice (some ⟨w9.heap.size, 0, none⟩) n n) n (fun _ => m) (fun _ => m) B (fil (fun i j => S j i) (fun _ _ => 0) r c) ∧ Below w9.heap.size w9 wr2) (fun j _ => m - (intOf j).toNat)
      case atStart => exact ⟨0, Nat.zero_le _, rfl, hC', hb'⟩
      case round =>
        obtain ⟨c, hc, rfl, hC2, hb2⟩ := hrel
        clear hC' hb'
        by_cases hct : c < m
        · obtain ⟨q1, hfa⟩ := HU.out wr (bthen10 H9.out hb2) c hct
          obtain ⟨la, hfa⟩ := hfa _ (Nat.le_refl _)
          obtain ⟨bx, ox, eX, -, hbl, hca⟩ := hfa (Nat.lt_of_le_of_lt (Nat.zero_le _) HX.out)
          have q3 := hca r HX.out
          have q2 := hC2.at_ HX.out
          have q4 := hC2.cell_ HX.out (j := c) hct
          have q5 := hC2.froz HX.out c
          have jb : ((c : Nat) : Int) < (m : Int) := Int.ofNat_lt.2 hct
          have ib2 : ((r : Nat) : Int) < (n : Int) := Int.ofNat_lt.2 HX.out
          have W2 := wrap_lt8 hct HK.out.1
          have HE : Hid (Cs w9.heap.size w1.heap.size (wr.setCell ⟨B r, c, none⟩ (.int .u8 (S c r : Nat))) (.slice (some ⟨w9.heap.size, 0, none⟩) n n) n (fun _ => m) (fun _ => m) B (fil (fun i j => S j i) (fun _ _ => 0) r (c + 1)) ∧ Below w9.heap.size w9 (wr.setCell ⟨B r, c, none⟩ (.int .u8 (S c r : Nat)))) := ⟨hC2.fil_set (T := fun i j => S j i) HX.out (la r HX.out), hC2.bel hb2 HX.out c _⟩
          have HY : Hid (c < m) := hct
          rw [eX] at q1
          generalize S c r = A0 at q3 HE
          clear hC2 hb2 hfa hca hbl la hct hc eX
          go_wp2
          refine region_tail8 13 (by kernel_rfl) (by kernel_rfl) ?_
          simp only [List.take_succ_cons, List.take_zero, List.drop_succ_cons, List.drop_zero]
          repeat still_step
          refine wpStill_nil ?_
          go_wp2
          go_roundw
          case rel => exact ⟨c + 1, HY.out, by first | rfl | (rw [W2]; rfl), HE.out.1.drewN 1, below_drewM HE.out.2 1⟩
          case measure => first | exact meas_lt8 HY.out | (rw [W2]; exact meas_lt8 HY.out)
        · have hcn : c = m := Nat.le_antisymm hc (Nat.le_of_not_lt hct)
          subst hcn
          have HC : Hid (Cs w9.heap.size w1.heap.size wr (.slice (some ⟨w9.heap.size, 0, none⟩) n n) n (fun _ => c) (fun _ => c) B (fil (fun i j => S j i) (fun _ _ => 0) (r + 1) 0) ∧ Below w9.heap.size w9 wr) := ⟨hC2.fil_row, hb2⟩
          clear hC2 hb2 hc hct
          go_wp2
          go_roundw
          case rel => exact ⟨r + 1, HX.out, by first | rfl | (rw [W1]; rfl), HC.out.1, HC.out.2⟩
          case measure => first | exact meas_lt8 HX.out | (rw [W1]; exact meas_lt8 HX.out)
    · have hrm : r = n := Nat.le_antisymm hr (Nat.le_of_not_lt hlt)
      subst hrm
      go_wp2
      go_ret2
      exact ⟨_, rfl, (hC'.fil_end.ans (Nat.le_refl _) hb').after H9.out⟩
end Go.Proofs.Ytdnhidachdjgaaa
