import Derived.Test.YtdnhidachdjgaaaMmb
namespace Go.Proofs.Ytdnhidachdjgaaa
open Go.RowKit Gf2
set_option linter.unusedVariables false

-- layer 10: Sub where it answers
theorem Lb.cut10 {w : World} {b o cap m lo hi : Nat} {n : Nat → Nat} {S : Nat → Nat → Nat} (h : Lb w (.slice (some ⟨b, o, none⟩) m cap) m n S) (h1 : lo < hi) (h2 : hi ≤ m) : Lb w (.slice (some ⟨b, o + lo, none⟩) (hi - lo) (cap - lo)) (hi - lo) (fun i => n (lo + i)) (fun i => S (lo + i)) ∧ hi ≤ cap := by
  obtain ⟨V, ⟨hnb, a, cap', e, h5, h6, h4⟩, hV⟩ := h
  cases e
  obtain ⟨b', o', e, hbl, hc⟩ := h4 (by omega)
  cases e
  exact ⟨⟨fun i => V (lo + i), ⟨by omega, _, _, rfl, by omega, by omega, fun _ => ⟨b, o + lo, rfl, hbl, fun i hi => by rw [Nat.add_assoc]; exact hc (lo + i) (by omega)⟩⟩, fun i hi => hV (lo + i) (by omega)⟩, by omega⟩
set_option maxHeartbeats 4000000 in
set_option maxRecDepth 100000 in
theorem sub10_yes (u : Value) (m n r0 r1 c0 c1 k l : Nat) (S : Nat → Nat → Nat) (w : World) (h : Lb w u m (fun _ => n) S) (h1 : 1 ≤ m) (h2 : m ≤ 256) (h3 : 1 ≤ n) (h4 : n ≤ 512) (hk : r1 = r0 + k) (hl : c1 = c0 + l) (k0 : 1 ≤ k) (l0 : 1 ≤ l) (hr : r1 ≤ m) (hc : c1 ≤ n) :
    Calls Try.prog 26 #[u, .int .i64 (r0 : Int), .int .i64 (r1 : Int), .int .i64 (c0 : Int), .int .i64 (c1 : Int)] w fun e w' => ∃ x, e = .returned (.tuple #[x, .int .i64 0]) ∧ Ans w w' x k l (fun i j => S (r0 + i) (c0 + j)) := by
  have c1' := check10_yes u m (fun _ => n) S w h (fm_n h1 h2 h3 h4)
  obtain ⟨b, o, cap, rfl, hU⟩ := row0_10 h h1
  obtain ⟨x, cx, z0⟩ := hU w (Below.refl _ _)
  have hcut := h.cut10 (lo := r0) (hi := r1) (by omega) hr
  have hsl := cutL10 b o m cap r0 r1 (by omega) hcut.2 w
  have hst := strip10 (.slice (some ⟨b, o + r0, none⟩) (r1 - r0) (cap - r0)) (r1 - r0) c0 c1 l (fun _ => n) (fun i => S (r0 + i)) w hcut.1 (by omega) (by omega) (by omega) l0 (by omega) (fun _ _ => hc)
  have ek : r1 - r0 = k := by omega
  rw [ek] at hsl hst
  have i0 : (0 : Int) < (m : Int) := Int.ofNat_lt.2 h1
  have a1 : ¬ (r0 : Int) < 0 := by omega
  have a2 : ¬ (r1 : Int) ≤ (r0 : Int) := by omega
  have a3 : ¬ (m : Int) < (r1 : Int) := by omega
  have a4 : ¬ (c0 : Int) < 0 := by omega
  have a5 : ¬ (c1 : Int) ≤ (c0 : Int) := by omega
  have a6 : ¬ (n : Int) < (c1 : Int) := by omega
  clear h hU hcut h1 h2 h3 h4 hk hl k0 l0 hr hc ek
  go_enter Try.func26, Try.ntmps26
  go_wp2_with (first
    | (go_at_call 34; (with_reducible refine c1'.mono ?_); rintro e w9 ⟨rfl, hw9⟩; have hw9 := hw9.symm; subst hw9; clear c1')
    | (go_at_call 59; (with_reducible refine hst.mono ?_); rintro e w3 ⟨v3, rfl, HA⟩))
  go_ret2
  exact ⟨_, rfl, HA⟩
set_option maxHeartbeats 4000000 in
set_option maxRecDepth 100000 in
theorem rsub10_yes (u : Value) (m n r0 r1 c0 c1 k l : Nat) (S : Nat → Nat → Nat) (w : World) (h : Lb w u m (fun _ => n) S) (h1 : 1 ≤ m) (h2 : m ≤ 256) (h3 : 1 ≤ n) (h4 : n ≤ 512) (hk : r1 = r0 + k) (hl : c1 = c0 + l) (k0 : 1 ≤ k) (l0 : 1 ≤ l) (hr : r1 ≤ m) (hc : c1 ≤ n) :
    Calls Try.prog 48 #[u, .int .i64 (r0 : Int), .int .i64 (r1 : Int), .int .i64 (c0 : Int), .int .i64 (c1 : Int)] w fun e w' => ∃ x, e = .returned (.tuple #[x, .int .i64 0]) ∧ Ans w w' x k l (fun i j => S (r0 + i) (c0 + j)) := by
  have c1' := rcheck10_b u m (fun _ => n) S w h 0 (.inl ⟨rfl, fm_n h1 h2 h3 h4⟩)
  have c4 := fun x => rzeros10 k l x (by omega) (by omega)
  obtain ⟨b, o, cap, X, CX, rfl, hU⟩ := rows10f h h1
  have i0 : (0 : Int) < (m : Int) := Int.ofNat_lt.2 h1
  have a1 : ¬ (r0 : Int) < 0 := by omega
  have a2 : ¬ (r1 : Int) ≤ (r0 : Int) := by omega
  have a3 : ¬ (m : Int) < (r1 : Int) := by omega
  have a4 : ¬ (c0 : Int) < 0 := by omega
  have a5 : ¬ (c1 : Int) ≤ (c0 : Int) := by omega
  have a6 : ¬ (n : Int) < (c1 : Int) := by omega
  have V1 := (sub_wrap hk (by omega)).1
  have V2 := (sub_wrap hl (by omega)).1
  have HK : Hid (r1 = r0 + k ∧ c1 = c0 + l ∧ r1 ≤ m ∧ c1 ≤ n ∧ k ≤ big ∧ l ≤ big ∧ 0 < m ∧ r1 ≤ 1000 ∧ c1 ≤ 1000) := ⟨hk, hl, hr, hc, by unfold big; omega, by unfold big; omega, h1, by omega, by omega⟩
  have HU : Hid _ := hU
  clear h h1 h2 h3 h4 hU hk hl k0 l0 hr hc
  go_enter Try.func48, Try.ntmps48
  go_wp2_with (first | (go_at_call 42; (with_reducible refine c1'.mono ?_); rintro e w9 ⟨rfl, b9⟩; obtain ⟨z0, -⟩ := HU.out w9 b9 0 HK.out.2.2.2.2.2.2.1; rw [Nat.add_zero] at z0; have H9 : Hid (Below w.heap.size w w9) := b9; clear c1' b9) | (go_at_call 68; (with_reducible refine (c4 _).mono ?_); rintro e w1 ⟨rfl, hz⟩; clear c4))
  have hC := hz.cs HK.out.2.2.2.2.1 HK.out.2.2.2.2.2.1
  have hb1 := hz.bel
  clear hz z0 i0 a1 a2 a3 a4 a5 a6 V1 V2
  generalize hB : (fun i => w9.heap.size + 1 + i) = B at hC
  clear hB
  go_loopw [13] (fun i wr => ∃ r R : Nat, Hid (r ≤ k ∧ R = r0 + r) ∧ i = .int .i64 R ∧ Cs w9.heap.size w1.heap.size wr (.slice (some ⟨w9.heap.size, 0, none⟩) k k) k (fun _ => l) (fun _ => l) B (fil (fun i j => S (r0 + i) (c0 + j)) (fun _ _ => 0) r 0) ∧ Below w9.heap.size w9 wr) (fun i _ => r1 - (intOf i).toNat)
  case atStart => exact ⟨0, r0, ⟨Nat.zero_le _, rfl⟩, rfl, hC.fil_start _, hb1⟩
  case round =>
    obtain ⟨r, R, hR, rfl, hC', hb'⟩ := hrel
    clear hC hb1
    by_cases hlt : R < r1
    · have ib : ((R : Nat) : Int) < (r1 : Int) := Int.ofNat_lt.2 hlt
      have W1 := wrap_lt8 hlt HK.out.2.2.2.2.2.2.2.1
      have HX : Hid (R < r1 ∧ r < k ∧ R < m ∧ R + 1 = r0 + (r + 1)) := ⟨hlt, by have := hR.out; have := HK.out.1; omega, by have := HK.out.2.2.1; omega, by rw [hR.out.2]; exact Nat.add_assoc _ _ _⟩
      have HR := hR
      clear hR hlt
      go_wp2
      go_loopw [14] (fun j wr2 => ∃ c D : Nat, Hid (c ≤ l ∧ D = c0 + c) ∧ j = .int .i64 D ∧ Cs w9.heap.size w1.heap.size wr2 (.slice (some ⟨w9.heap.size, 0, none⟩) k k) k (fun _ => l) (fun _ => l) B (fil (fun i j => S (r0 + i) (c0 + j)) (fun _ _ => 0) r c) ∧ Below w9.heap.size w9 wr2) (fun j _ => c1 - (intOf j).toNat)
      case atStart => exact ⟨0, c0, ⟨Nat.zero_le _, rfl⟩, rfl, hC', hb'⟩
      case round =>
        obtain ⟨c, D, hD, rfl, hC2, hb2⟩ := hrel
        clear hC' hb'
        by_cases hct : D < c1
        · have hcl : c < l := by have := hD.out; have := HK.out.2.1; omega
          have hDn : D < n := by have := HK.out.2.2.2.1; omega
          obtain ⟨q1, hfa⟩ := HU.out wr (bthen10 H9.out hb2) R HX.out.2.2.1
          obtain ⟨la, hfa⟩ := hfa _ (Nat.le_refl _)
          obtain ⟨bx, ox, eX, -, hbl, hca⟩ := hfa (Nat.lt_of_le_of_lt (Nat.zero_le _) hDn)
          have q3 := hca D hDn
          have q2 := hC2.at_ HX.out.2.1
          have q4 := hC2.cell_ HX.out.2.1 (j := c) hcl
          have q5 := hC2.froz HX.out.2.1 c
          have ja : ((R : Nat) : Int) < (m : Int) := Int.ofNat_lt.2 HX.out.2.2.1
          have jb : ((D : Nat) : Int) < (c1 : Int) := Int.ofNat_lt.2 hct
          have jc : ((D : Nat) : Int) < (n : Int) := Int.ofNat_lt.2 hDn
          have jd : ((r : Nat) : Int) < (k : Int) := Int.ofNat_lt.2 HX.out.2.1
          have je : ((c : Nat) : Int) < (l : Int) := Int.ofNat_lt.2 hcl
          have HE : Hid (Cs w9.heap.size w1.heap.size (wr.setCell ⟨B r, c, none⟩ (.int .u8 (S R D : Nat))) (.slice (some ⟨w9.heap.size, 0, none⟩) k k) k (fun _ => l) (fun _ => l) B (fil (fun i j => S (r0 + i) (c0 + j)) (fun _ _ => 0) r (c + 1)) ∧ Below w9.heap.size w9 (wr.setCell ⟨B r, c, none⟩ (.int .u8 (S R D : Nat)))) := by
            have e1 := HR.out.2
            have e2 := hD.out.2
            have lx := la D hDn
            rw [e1, e2] at lx ⊢
            exact ⟨hC2.fil_set (T := fun i j => S (r0 + i) (c0 + j)) HX.out.2.1 lx, hC2.bel hb2 HX.out.2.1 c _⟩
          have HY : Hid (D < c1 ∧ c < l ∧ D + 1 = c0 + (c + 1)) := ⟨hct, hcl, by rw [hD.out.2]; exact Nat.add_assoc _ _ _⟩
          have V3 := (sub_wrap HR.out.2 (by have := HX.out.1; have := HK.out.2.2.2.2.2.2.2.1; omega)).2
          have V4 := (sub_wrap hD.out.2 (by have := HK.out.2.2.2.2.2.2.2.2; omega)).2
          have V5 := (sub_wrap HR.out.2 (by have := HX.out.1; have := HK.out.2.2.2.2.2.2.2.1; omega)).1
          have V6 := (sub_wrap hD.out.2 (by have := HK.out.2.2.2.2.2.2.2.2; omega)).1
          have W2 := wrap_lt8 hct HK.out.2.2.2.2.2.2.2.2
          rw [eX] at q1
          generalize S R D = A0 at q3 HE
          clear hC2 hb2 hfa hca hbl la hct eX hD hcl hDn
          go_wp2
          refine region_tail8 17 (by kernel_rfl) (by kernel_rfl) ?_
          simp only [List.take_succ_cons, List.take_zero, List.drop_succ_cons, List.drop_zero]
          repeat still_step
          refine wpStill_nil ?_
          go_wp2
          go_roundw
          case rel => exact ⟨c + 1, D + 1, ⟨HY.out.2.1, HY.out.2.2⟩, by first | rfl | (rw [W2]; rfl), HE.out.1.drewN 1, below_drewM HE.out.2 1⟩
          case measure => first | exact meas_lt8 HY.out.1 | (rw [W2]; exact meas_lt8 HY.out.1)
        · have hcn : c = l := by have := hD.out; have := HK.out.2.1; omega
          subst hcn
          have jb : ¬ ((D : Nat) : Int) < (c1 : Int) := by omega
          have HC : Hid (Cs w9.heap.size w1.heap.size wr (.slice (some ⟨w9.heap.size, 0, none⟩) k k) k (fun _ => c) (fun _ => c) B (fil (fun i j => S (r0 + i) (c0 + j)) (fun _ _ => 0) (r + 1) 0) ∧ Below w9.heap.size w9 wr) := ⟨hC2.fil_row, hb2⟩
          clear hC2 hb2 hD hct
          go_wp2
          go_roundw
          case rel => exact ⟨r + 1, R + 1, ⟨HX.out.2.1, HX.out.2.2.2⟩, by first | rfl | (rw [W1]; rfl), HC.out.1, HC.out.2⟩
          case measure => first | exact meas_lt8 HX.out.1 | (rw [W1]; exact meas_lt8 HX.out.1)
    · have hrm : r = k := by have := hR.out; have := HK.out.1; omega
      subst hrm
      have ib : ¬ ((R : Nat) : Int) < (r1 : Int) := by omega
      clear hR hlt
      go_wp2
      go_ret2
      exact ⟨_, rfl, (hC'.fil_end.ans (Nat.le_refl _) hb').after H9.out⟩
end Go.Proofs.Ytdnhidachdjgaaa
