import Derived.Test.YtdnhidachdjgaaaMxm
namespace Go.Proofs.Ytdnhidachdjgaaa
open Go.RowKit Gf2
set_option linter.unusedVariables false

/-- T in the columns below r and in column r below row c, else S. -/
def filt (T S : Nat → Nat → Nat) (r c : Nat) : Nat → Nat → Nat := fun i j => if j < r ∨ (j = r ∧ i < c) then T i j else S i j
set_option maxHeartbeats 2000000 in
set_option maxRecDepth 100000 in
theorem transpose10_yes (u : Value) (m n : Nat) (S : Nat → Nat → Nat) (w : World) (h : Lb w u m (fun _ => n) S) (h1 : 1 ≤ m) (h2 : m ≤ 256) (h3 : 1 ≤ n) (h4 : n ≤ 256) :
    Calls Try.prog 25 #[u] w fun e w' => ∃ x, e = .returned (.tuple #[x, .int .i64 0]) ∧ Ans w w' x n m (fun i j => S j i) := by
  have c1 := check10_yes u m (fun _ => n) S w h (fm_n h1 h2 h3 (by omega))
  have c4 := fun x => zeros10_any n m x (by omega) (by omega)
  obtain ⟨b, o, cap, X, CX, rfl, hU⟩ := rows10f h h1
  obtain ⟨z0, -⟩ := hU w (Below.refl _ _) 0 h1
  rw [Nat.add_zero] at z0
  have i0 : (0 : Int) < (m : Int) := Int.ofNat_lt.2 h1
  have k1 : decide (256 < (n : Int)) = false := by simp; omega
  have HK : Hid (m ≤ 1000 ∧ n ≤ 1000 ∧ m ≤ big ∧ n ≤ big) := ⟨by omega, by omega, by unfold big; omega, by unfold big; omega⟩
  have HU : Hid _ := hU
  clear h h1 h2 h3 h4 hU
  go_enter Try.func25, Try.ntmps25
  go_wp2_with (first | (go_at_call 34; (with_reducible refine c1.mono ?_); rintro e w9 ⟨rfl, hw9⟩; have hw9 := hw9.symm; subst hw9; clear c1) | (go_at_call 39; (with_reducible refine (c4 _).mono ?_); rintro e w1 ⟨rfl, hz⟩; clear c4))
  have hC := hz.cs HK.out.2.2.2 HK.out.2.2.1
  have hb1 := hz.bel
  clear hz z0 i0 k1
  generalize hB : (fun i => w.heap.size + 1 + i) = B at hC
  clear hB
  go_loopw [29] (fun i wr => ∃ r : Nat, r ≤ m ∧ i = .int .i64 r ∧ Cs w.heap.size w1.heap.size wr (.slice (some ⟨w.heap.size, 0, none⟩) n n) n (fun _ => m) (fun _ => m) B (filt (fun i j => S j i) (fun _ _ => 0) r 0) ∧ Below w.heap.size w wr) (fun i _ => m - (intOf i).toNat)
  case atStart => exact ⟨0, Nat.zero_le _, rfl, hC.congr (fun i _ j _ => by unfold filt; rw [if_neg (by omega)]), hb1⟩
  case round =>
    obtain ⟨r, hr, rfl, hC', hb'⟩ := hrel
    clear hC hb1
    by_cases hlt : r < m
    · obtain ⟨q1, -⟩ := HU.out wr hb' r hlt
      have ib : ((r : Nat) : Int) < (m : Int) := Int.ofNat_lt.2 hlt
      have W1 := wrap_lt8 hlt HK.out.1
      have HX : Hid (r < m) := hlt
      clear hr hlt
      go_wp2
      clear q1
      go_loopw [36] (fun j wr2 => ∃ c : Nat, c ≤ n ∧ j = .int .i64 c ∧ Cs w.heap.size w1.heap.size wr2 (.slice (some ⟨w.heap.size, 0, none⟩) n n) n (fun _ => m) (fun _ => m) B (filt (fun i j => S j i) (fun _ _ => 0) r c) ∧ Below w.heap.size w wr2) (fun j _ => n - (intOf j).toNat)
      case atStart => exact ⟨0, Nat.zero_le _, rfl, hC', hb'⟩
      case round =>
        obtain ⟨c, hc, rfl, hC2, hb2⟩ := hrel
        clear hC' hb'
        by_cases hct : c < n
        · obtain ⟨-, hfa⟩ := HU.out wr hb2 r HX.out
          obtain ⟨la, hfa⟩ := hfa _ (Nat.le_refl _)
          obtain ⟨bx, ox, eX, -, hbl, hca⟩ := hfa (Nat.lt_of_le_of_lt (Nat.zero_le _) hct)
          have q3 := hca c hct
          have q2 := hC2.at_ hct
          have q4 := hC2.cell_ hct (j := r) HX.out
          have q5 := hC2.froz hct r
          have jb : ((c : Nat) : Int) < (n : Int) := Int.ofNat_lt.2 hct
          have ib2 : ((r : Nat) : Int) < (m : Int) := Int.ofNat_lt.2 HX.out
          have W2 := wrap_lt8 hct HK.out.2.1
          have HE : Hid (Cs w.heap.size w1.heap.size (wr.setCell ⟨B c, r, none⟩ (.int .u8 (S r c : Nat))) (.slice (some ⟨w.heap.size, 0, none⟩) n n) n (fun _ => m) (fun _ => m) B (filt (fun i j => S j i) (fun _ _ => 0) r (c + 1)) ∧ Below w.heap.size w (wr.setCell ⟨B c, r, none⟩ (.int .u8 (S r c : Nat)))) := ⟨(hC2.set hct r (S r c) (la c hct)).congr (fun i _ j _ => by
            unfold st2 filt
            by_cases e : i = c ∧ j = r
            · rw [if_pos e, if_pos (by omega), e.1, e.2]
            · rw [if_neg e]
              by_cases e2 : j < r ∨ j = r ∧ i < c
              · rw [if_pos e2, if_pos (by omega)]
              · rw [if_neg e2, if_neg (by omega)]), hC2.bel hb2 hct r _⟩
          have HY : Hid (c < n) := hct
          rw [eX]
          generalize S r c = A0 at q3 HE
          clear hC2 hb2 hfa hca hbl la hct hc
          go_wp2
          go_roundw
          case rel => exact ⟨c + 1, HY.out, by first | rfl | (rw [W2]; rfl), HE.out.1, HE.out.2⟩
          case measure => first | exact meas_lt8 HY.out | (rw [W2]; exact meas_lt8 HY.out)
        · have hcn : c = n := Nat.le_antisymm hc (Nat.le_of_not_lt hct)
          subst hcn
          have HC : Hid (Cs w.heap.size w1.heap.size wr (.slice (some ⟨w.heap.size, 0, none⟩) c c) c (fun _ => m) (fun _ => m) B (filt (fun i j => S j i) (fun _ _ => 0) (r + 1) 0) ∧ Below w.heap.size w wr) := ⟨hC2.congr (fun i hi' j _ => by
            unfold filt
            by_cases e2 : j < r ∨ j = r ∧ i < c
            · rw [if_pos e2, if_pos (by omega)]
            · rw [if_neg e2, if_neg (by omega)]), hb2⟩
          clear hC2 hb2 hc hct
          go_wp2
          go_roundw
          case rel => exact ⟨r + 1, HX.out, by first | rfl | (rw [W1]; rfl), HC.out.1, HC.out.2⟩
          case measure => first | exact meas_lt8 HX.out | (rw [W1]; exact meas_lt8 HX.out)
    · have hrm : r = m := Nat.le_antisymm hr (Nat.le_of_not_lt hlt)
      subst hrm
      go_wp2
      go_ret2
      exact ⟨_, rfl, (hC'.ans (Nat.le_refl _) hb').congr (fun i _ j hj => by unfold filt; rw [if_pos (by omega)])⟩
end Go.Proofs.Ytdnhidachdjgaaa
