import Derived.Test.YtjoaagkhanbhiaaSrm
namespace Go.Proofs.Ytjoaagkhanbhiaa
open Go.RowKit Gf2
set_option linter.unusedVariables false

theorem Rw.setz {w : World} {g N : Nat} {F : Nat → Nat} (h : Rw w g N F) (k : Nat) {z : Int} (h0 : 0 ≤ z) (h1 : z < 256) : Rw (w.setCell ⟨g, k, none⟩ (.int .u8 z)) g N (fun i => if i = k then z.toNat else F i) := by
  obtain ⟨b, rfl⟩ := Int.eq_ofNat_of_zero_le h0
  exact h.set k b (by omega)
theorem u8w (z : Int) : 0 ≤ IntKind.u8.wrap z ∧ IntKind.u8.wrap z < 256 := by rw [IntKind.wrap_u8]; omega
/-- a source and a destination of 64 bytes, and a kernel. -/
structure An (w W : World) (p : Addr) (lo hi gS C gD : Nat) (A D : Nat → Nat) : Prop where
  bel : Below w.heap.size w W
  k : Sk W p lo hi
  rS : Rw W gS C A
  rD : Rw W gD 64 D
  ne : gS ≠ gD
  lS : w.heap.size ≤ gS
  lD : w.heap.size ≤ gD
  kS : hi ≤ gS
  kD : hi ≤ gD
  hC : 64 ≤ C
section
variable {w W : World} {p : Addr} {lo hi gS C gD : Nat} {A D : Nat → Nat}
theorem An.below (h : An w W p lo hi gS C gD A D) {W' : World} (hb : Below W.heap.size W W') : An w W' p lo hi gS C gD A D :=
  ⟨h.bel.trans (hb.mono h.bel.size), sk_below h.k hb, rw_below h.rS hb, rw_below h.rD hb, h.ne, h.lS, h.lD, h.kS, h.kD, h.hC⟩
theorem An.setS (h : An w W p lo hi gS C gD A D) (j : Nat) {z : Int} (h0 : 0 ≤ z) (h1 : z < 256) : An w (W.setCell ⟨gS, j, none⟩ (.int .u8 z)) p lo hi gS C gD (fun i => if i = j then z.toNat else A i) D :=
  have hk : Kp gS W (W.setCell ⟨gS, j, none⟩ (.int .u8 z)) := (Kp.refl gS W).setCell _ _
  ⟨h.bel.trans (hk.below h.lS h.bel.size), sk_kp h.k hk (.inr h.kS), h.rS.setz j h0 h1, hk.rw_ h.rD (fun e => h.ne e.symm), h.ne, h.lS, h.lD, h.kS, h.kD, h.hC⟩
theorem An.setD (h : An w W p lo hi gS C gD A D) (j : Nat) {z : Int} (h0 : 0 ≤ z) (h1 : z < 256) : An w (W.setCell ⟨gD, j, none⟩ (.int .u8 z)) p lo hi gS C gD A (fun i => if i = j then z.toNat else D i) :=
  have hk : Kp gD W (W.setCell ⟨gD, j, none⟩ (.int .u8 z)) := (Kp.refl gD W).setCell _ _
  ⟨h.bel.trans (hk.below h.lD h.bel.size), sk_kp h.k hk (.inr h.kD), hk.rw_ h.rS h.ne, h.rD.setz j h0 h1, h.ne, h.lS, h.lD, h.kS, h.kD, h.hC⟩
/-- the list that is asked for. -/
def Wn (W : World) (gD g Cw : Nat) (T : Nat → Nat) : Prop := g ≠ gD ∧ 64 ≤ Cw ∧ ∃ F, Rw W g Cw F ∧ ∀ i, i < 64 → F i = T i
theorem Wn.kp {g Cw : Nat} {T : Nat → Nat} (h : Wn W gD g Cw T) {W' : World} (hk : Kp gD W W') : Wn W' gD g Cw T := by
  obtain ⟨h1, h2, F, h3, h4⟩ := h
  exact ⟨h1, h2, F, hk.rw_ h3 h1, h4⟩
theorem Wn.drewN {g Cw : Nat} {T : Nat → Nat} (h : Wn W gD g Cw T) (m : Nat) : Wn (W.drewN m) gD g Cw T := by
  obtain ⟨h1, h2, F, h3, h4⟩ := h
  exact ⟨h1, h2, F, h3.drewN m, h4⟩
theorem an_refmul (h : An w W p lo hi gS C gD A D) (c : Nat) (hc : c < 256) :
    Calls Try.prog 17 #[.int .u8 (c : Int), .slice (some ⟨gD, 0, none⟩) 64 64, .slice (some ⟨gS, 0, none⟩) 64 C] W fun e W' => ∃ g Cw, e = .returned (.tuple #[.slice (some ⟨g, 0, none⟩) 64 Cw, .int .i64 0]) ∧ Wn W' gD g Cw (fun i => fm 285 c (A i)) ∧ An w W' p lo hi gS C gD A D :=
  (refMul7_any c 64 _ _ D A W hc h.rD.rb0 (head7 h.rS h.hC (fun _ _ => rfl)) (by decide)).mono fun e W' ⟨g, Cw, h1, h2⟩ => ⟨g, Cw, h1, ⟨by have := h2.2.1; have := h.rD.lt; omega, h2.1, h2.2.2.2⟩, h.below h2.2.2.1⟩
theorem an_refadd (h : An w W p lo hi gS C gD A D) (c : Nat) (hc : c < 256) :
    Calls Try.prog 19 #[.int .u8 (c : Int), .slice (some ⟨gD, 0, none⟩) 64 64, .slice (some ⟨gS, 0, none⟩) 64 C] W fun e W' => ∃ g Cw, e = .returned (.tuple #[.slice (some ⟨g, 0, none⟩) 64 Cw, .int .i64 0]) ∧ Wn W' gD g Cw (fun i => D i ^^^ fm 285 c (A i)) ∧ An w W' p lo hi gS C gD A D :=
  (refAdd7_any c 64 _ _ D A W hc h.rD.rb0 (head7 h.rS h.hC (fun _ _ => rfl)) (by decide)).mono fun e W' ⟨g, Cw, h1, h2⟩ => ⟨g, Cw, h1, ⟨by have := h2.2.1; have := h.rD.lt; omega, h2.1, h2.2.2.2⟩, h.below h2.2.2.1⟩
theorem an_mul (h : An w W p lo hi gS C gD A D) (c : Nat) (hc : c < 256) :
    Calls Try.prog 18 #[.pointer (some p), .int .u8 (c : Int), .slice (some ⟨gD, 0, none⟩) 64 64, .slice (some ⟨gS, 0, none⟩) 64 C] W fun e W' => e = .returned (.int .i64 0) ∧ Kp gD W W' ∧ An w W' p lo hi gS C gD A (fun i => fm 285 c (A i)) :=
  (smul_far p lo hi c 64 gD 0 64 D A _ _ 64 C (by decide) h.hC W h.k hc (by decide) (.inr h.kD) h.rD (fun _ => rfl) (by decide) (far7 h.rS h.ne (by have := h.hC; omega) (fun i _ => by rw [Nat.zero_add]))).mono fun e W' ⟨h1, h2, h3⟩ =>
    ⟨h1, h2, h.bel.trans (h2.below h.lD h.bel.size), sk_kp h.k h2 (.inr h.kD), h2.rw_ h.rS h.ne, h3.congr (fun i hi => pl_head _ _ hi), h.ne, h.lS, h.lD, h.kS, h.kD, h.hC⟩
theorem an_add (h : An w W p lo hi gS C gD A D) (c : Nat) (hc : c < 256) :
    Calls Try.prog 20 #[.pointer (some p), .int .u8 (c : Int), .slice (some ⟨gD, 0, none⟩) 64 64, .slice (some ⟨gS, 0, none⟩) 64 C] W fun e W' => e = .returned (.int .i64 0) ∧ Kp gD W W' ∧ An w W' p lo hi gS C gD A (fun i => D i ^^^ fm 285 c (A i)) :=
  (sadd_far p lo hi c 64 gD 0 64 D A _ _ 64 C (by decide) h.hC W h.k hc (by decide) (.inr h.kD) h.rD (fun _ => rfl) (by decide) (far7 h.rS h.ne (by have := h.hC; omega) (fun i _ => by rw [Nat.zero_add]))).mono fun e W' ⟨h1, h2, h3⟩ =>
    ⟨h1, h2, h.bel.trans (h2.below h.lD h.bel.size), sk_kp h.k h2 (.inr h.kD), h2.rw_ h.rS h.ne, h3.congr (fun i hi => by rw [pl_head _ _ hi, Nat.zero_add]), h.ne, h.lS, h.lD, h.kS, h.kD, h.hC⟩
theorem an_same {g Cw : Nat} {T : Nat → Nat} (h : An w W p lo hi gS C gD A T) (hw : Wn W gD g Cw T) :
    Calls Try.prog 8 #[.slice (some ⟨gD, 0, none⟩) 64 64, .slice (some ⟨g, 0, none⟩) 64 Cw] W fun e W' => e = .returned (.bool true) ∧ An w W' p lo hi gS C gD A T ∧ Wn W' gD g Cw T := by
  have hw2 := hw
  obtain ⟨h1, h2, F, h3, h4⟩ := hw
  exact (same7_true _ _ 64 T W h.rD.rb0 (head7 h3 h2 h4)).mono fun e W' ⟨h5, m, h6⟩ => by subst h6; exact ⟨h5, h.below (below_self _ _), hw2.drewN m⟩
end

set_option maxHeartbeats 4000000 in
set_option maxRecDepth 100000 in
theorem anew7_any (c : Nat) (S : Nat → Nat) (w : World) (hc : c < 256) (hS : ∀ i, i < 64 → S i < 256) :
    Calls Try.prog 11 #[.int .u8 (c : Int), .agg (a64 S)] w fun e w' => e = .returned (.bool true) ∧ Below w.heap.size w w' := by
  obtain ⟨Ar, hA⟩ : ∃ Ar, Ar = a64 S := ⟨_, rfl⟩
  rw [← hA]
  have iA : (Try.prog.info? 22).map (·.size) = some Ar.size := by rw [hA, a64_size]; kernel_rfl
  have hmk := make_u8 64 (by decide)
  have hmk2 : ∀ w, (Instr.makeSlice 23 (.int .i64 64) (.int .i64 64)).run Try.prog w = .ok (.slice (some ⟨w.heap.size, 0, none⟩) 64 64) (w.alloc (.cells (madeCells #[.int .u8 0] 64) 5)) := hmk
  have HA : Hid (Ar = a64 S ∧ c < 256 ∧ (∀ i, i < 64 → S i < 256)) := ⟨hA, hc, hS⟩
  have c1 := fun W => snew_any W
  clear hA hc hS hmk
  go_enter Try.func11, Try.ntmps11
  go_wp2_with (first
    | (go_at_call 16; (with_reducible refine (c1 _).mono ?_); rintro e w1 ⟨p, rfl, hk, hb1⟩; have g0 : w1.heap[w.heap.size]? = some (.cells Ar 22 (0, 0)) := (hb1.block _ (by simp)).trans (heap_alloc_new w _); have rl : Rb w1 (.slice (some ⟨w.heap.size, 0, none⟩) 64 64) 64 S := a64_rb (by rw [← HA.out.1]; exact g0) HA.out.2.2; have b1 : Below w.heap.size w w1 := ((Below.refl _ _).alloc (Nat.le_refl _) _).trans (hb1.mono (by simp)); obtain ⟨w2, g, C, F, hrun, hC, hg, hgl, hR, hF, hb2⟩ := copy_app w1 rl (by decide); have hbM : Below w2.heap.size w2 (w2.alloc (.cells (madeCells #[.int .u8 0] 64) 5)) := (Below.refl _ _).alloc (Nat.le_refl _) _; have P0 : An w (w2.alloc (.cells (madeCells #[.int .u8 0] 64) 5)) p _ w1.heap.size g C w2.heap.size F (fun _ => 0) := ⟨(b1.trans (hb2.mono b1.size)).trans (hbM.mono (Nat.le_trans b1.size hb2.size)), sk_below (sk_below hk hb2) hbM, rw_below hR hbM, made_rw 64 (by decide) w2, by omega, Nat.le_trans b1.size hg, Nat.le_trans b1.size hb2.size, hg, hb2.size, hC⟩; have HP : Hid _ := P0; clear c1 hk hb1 g0 rl b1 hC hg hgl hR hF hb2 hbM P0)
    | (at_builtin; refine Lib.wpList_append_run _ rfl _ _ _ _ rfl _ _ rfl rfl _ _ hrun ?_; clear hrun))
  go_loopw [8] (fun iv wr => ∃ (i : Nat) (A D : Nat → Nat), i ≤ 3 ∧ iv = .int .i64 i ∧ An w wr p _ w1.heap.size g C w2.heap.size A D) (fun iv _ => 3 - (intOf iv).toNat)
  case atStart => exact ⟨0, _, _, Nat.zero_le _, rfl, HP.out⟩
  case round =>
    obtain ⟨i, A, D, hi, rfl, hN⟩ := hrel
    by_cases hlt : i < 3
    · have i1 : ((i : Nat) : Int) < 3 := by omega
      have q1 := an_refmul hN c HA.out.2.1
      clear hN HP
      go_wp2_with (first
        | (go_at_call 17; (with_reducible refine q1.mono ?_); rintro e x1 ⟨gW, CW, rfl, v1, n1⟩; have q2 := an_mul n1 c HA.out.2.1; clear q1 n1)
        | (go_at_call 18; first
          | ((with_reducible refine q2.mono ?_); rintro e x2 ⟨rfl, k2, n2⟩; have v2 := v1.kp k2; have q3 := an_same n2 v2; clear q2 n2 k2 v1 v2)
          | ((with_reducible refine q4.mono ?_); rintro e x4 ⟨rfl, k4, n4⟩; have v4 := v3.kp k4; have q5 := an_same n4 v4; clear q4 n4 k4 v3 v4))
        | (go_at_call 8; first
          | ((with_reducible refine q3.mono ?_); rintro e x3 ⟨rfl, n3, v3⟩; have q4 := an_mul n3 c HA.out.2.1; clear q3 n3)
          | ((with_reducible refine q5.mono ?_); rintro e x5 ⟨rfl, n5, v5⟩; have H5 : Hid _ := n5; clear q5 n5 v5)))
      go_loopw [11] (fun jv wq => ∃ (j : Nat) (A' D' : Nat → Nat), j ≤ 64 ∧ jv = .int .i64 j ∧ An w wq p _ w1.heap.size g C w2.heap.size A' D') (fun jv _ => 64 - (intOf jv).toNat)
      case atStart => exact ⟨0, _, _, Nat.zero_le _, rfl, H5.out⟩
      case round =>
        obtain ⟨j, A1, D1, hj, rfl, hQ⟩ := hrel
        by_cases hlj : j < 64
        · have jb : ((j : Nat) : Int) < 64 := by omega
          have q1 := hQ.rS.2.2.cell (i := j) (by have := hQ.hC; omega)
          have q2 := hQ.rS.2.2.frozen j
          have W1 := wrap_succ8 (j := j) (by unfold big; omega)
          have HQ : Hid _ := hQ
          clear hQ H5
          go_wp2
          go_roundw
          case rel => exact ⟨j + 1, _, _, hlj, by first | rfl | (rw [W1]; rfl), HQ.out.setS j (u8w _).1 (u8w _).2⟩
          case measure => first | exact meas_lt8 hlj | (rw [W1]; exact meas_lt8 hlj)
        · have e64 : j = 64 := by omega
          subst e64
          have q1 := an_refadd hQ c HA.out.2.1
          clear hQ H5
          go_wp2_with (first
            | (go_at_call 19; (with_reducible refine q1.mono ?_); rintro e y1 ⟨gX, CX, rfl, u1, m1⟩; have q2 := an_add m1 c HA.out.2.1; clear q1 m1)
            | (go_at_call 20; (with_reducible refine q2.mono ?_); rintro e y2 ⟨rfl, k2, m2⟩; have u2 := u1.kp k2; have q3 := an_same m2 u2; clear q2 m2 k2 u1 u2)
            | (go_at_call 8; (with_reducible refine q3.mono ?_); rintro e y3 ⟨rfl, m3, u3⟩; have H6 : Hid _ := m3; clear q3 m3 u3))
          go_loopw [12] (fun jv wq => ∃ (j : Nat) (A' D' : Nat → Nat), j ≤ 64 ∧ jv = .int .i64 j ∧ An w wq p _ w1.heap.size g C w2.heap.size A' D') (fun jv _ => 64 - (intOf jv).toNat)
          case atStart => exact ⟨0, _, _, Nat.zero_le _, rfl, H6.out⟩
          case round =>
            obtain ⟨j, A2, D2, hj, rfl, hQ⟩ := hrel
            by_cases hlj : j < 64
            · have jb : ((j : Nat) : Int) < 64 := by omega
              have q1 := hQ.rS.2.2.cell (i := j) (by have := hQ.hC; omega)
              have q2 := hQ.rS.2.2.frozen j
              have q3 := hQ.rD.2.2.cell (i := j) hlj
              have q4 := hQ.rD.2.2.frozen j
              have ne := hQ.ne
              have W1 := wrap_succ8 (j := j) (by unfold big; omega)
              have X : bits BinOp.xor IntKind.u8 (D2 j : Int) 85 = ((D2 j ^^^ 85 : Nat) : Int) := u8_xor_nat (D2 j) 85 (hQ.rD.2.1 j hlj) (by decide)
              have xl : D2 j ^^^ 85 < 256 := Nat.xor_lt_two_pow (n := 8) (hQ.rD.2.1 j hlj) (by decide)
              have HQ : Hid _ := hQ
              clear hQ H6
              go_wp2
              go_roundw
              case rel =>
                refine ⟨j + 1, _, _, hlj, by first | rfl | (rw [W1]; rfl), (HQ.out.setS j (u8w _).1 (u8w _).2).setD j ?_ ?_⟩
                · first | exact Int.natCast_nonneg _ | (rw [X]; exact Int.natCast_nonneg _)
                · first | exact (by exact_mod_cast xl) | (rw [X]; exact_mod_cast xl)
              case measure => first | exact meas_lt8 hlj | (rw [W1]; exact meas_lt8 hlj)
            · have e64 : j = 64 := by omega
              subst e64
              have q1 := an_refadd hQ c HA.out.2.1
              have W1 := wrap_succ8 (j := i) (by unfold big; omega)
              clear hQ H6
              go_wp2_with (first
                | (go_at_call 19; (with_reducible refine q1.mono ?_); rintro e z1 ⟨gY, CY, rfl, u1, m1⟩; have q2 := an_add m1 c HA.out.2.1; clear q1 m1)
                | (go_at_call 20; (with_reducible refine q2.mono ?_); rintro e z2 ⟨rfl, k2, m2⟩; have u2 := u1.kp k2; have q3 := an_same m2 u2; clear q2 m2 k2 u1 u2)
                | (go_at_call 8; (with_reducible refine q3.mono ?_); rintro e z3 ⟨rfl, m3, u3⟩; have H7 : Hid _ := m3; clear q3 m3 u3))
              go_roundw
              case rel => exact ⟨i + 1, _, _, hlt, by first | rfl | (rw [W1]; rfl), H7.out⟩
              case measure => first | exact meas_lt8 hlt | (rw [W1]; exact meas_lt8 hlt)
    · have e3 : i = 3 := by omega
      subst e3
      have hb := hN.bel
      clear hN HP
      go_wp2
      go_ret
      exact ⟨rfl, hb⟩
end Go.Proofs.Ytjoaagkhanbhiaa
