import Derived.Test.YtfhgamaakkoplaaMvay
import Derived.Deep.RegionHeld
namespace Go.Proofs.Ytfhgamaakkoplaa
open Go.RowKit Gf2
set_option linter.unusedVariables false

-- layer 4: points of which none stands twice; Interpolate
theorem elem_u8p : Try.prog.elem 25 = 5 := by kernel_rfl
theorem size_u8p (W : World) : (sizeOf 5).run Try.prog W = .ok 1 W := by
  have h : (Try.prog.info? 5).map (fun i => i.size) = some 1 := by kernel_rfl
  obtain ⟨i, hi, hs⟩ := Option.map_eq_some_iff.1 h
  simp [sizeOf, typeInfo, hi, hs]
theorem run_head8 (g n cx m : Nat) (hm : m ≤ cx) (W : World) : (Instr.slice 25 (.slice (some ⟨g, 0, none⟩) n cx) none (some (.int .i64 (m : Int))) none).run Try.prog W = .ok (.slice (some ⟨g, 0, none⟩) m cx) W := by
  have hu : Try.prog.underlying 25 = some (.slice (Try.prog.elem 25)) := by rw [elem_u8p]; exact Try.underlying25
  have h := run_slice_h (P := Try.prog) (w := W) 25 (some ⟨g, 0, none⟩) n cx hu .i64 (m : Int) (by omega) (by omega)
  have e : (if cx = 0 then some (⟨g, 0, none⟩ : Addr) else (some (⟨g, 0, none⟩ : Addr)).map (·.add 0)) = some ⟨g, 0, none⟩ := by
    split
    · rfl
    · show some ((⟨g, 0, none⟩ : Addr).add 0) = _
      rw [Addr.add_lit, Nat.add_zero]
  rw [h, elem_u8p, size_u8p]
  simp only [Result.andThen, sliced, Int.toNat_natCast, Nat.zero_mul, Nat.sub_zero, e]
set_option maxHeartbeats 4000000 in
set_option maxRecDepth 100000 in
theorem repeats8 (v : Value) (n : Nat) (F : Nat → Nat) (w : World) (h : Rb w v n F) (up : Up8 n F) (hn : n ≤ 1000) :
    Calls Try.prog 53 #[v] w fun e w' => e = .returned (.bool false) ∧ Below w.heap.size w w' := by
  have c1 := copied8 v n F w h (by omega)
  have HC : Hid (∀ w1, Rw w1 w.heap.size n F → Calls Try.prog 67 #[.slice (some ⟨w.heap.size, 0, none⟩) n n] w1 fun e w' => e = .returned (.tuple #[]) ∧ Below w1.heap.size w1 w') := fun w1 hR => sort8 _ n F w1 hR.rb0 up hn
  clear h
  go_enter Try.func53, Try.ntmps53
  go_wp2_with (first
    | (go_at_call 49; (with_reducible refine c1.mono ?_); rintro e w1 ⟨rfl, hR1, hb1⟩; have c2 := HC.out w1 hR1; clear c1 HC)
    | (go_at_call 67; (with_reducible refine c2.mono ?_); rintro e w2 ⟨rfl, hb2⟩; clear c2))
  have HB : Hid (Below w.heap.size w w2) := hb1.trans (hb2.mono hb1.size)
  have hR2 : Rw w2 w.heap.size n F := hR1.of_block (hb2.block _ hR1.lt)
  obtain ⟨g, hg⟩ : ∃ g, Hid (g = w.heap.size) := ⟨_, rfl⟩
  rw [← hg.out] at hR2 ⊢
  clear hR1 hb1 hb2
  go_loopw [4] (fun s wr => ∃ i q : Nat, 1 ≤ i ∧ s = .int .i64 (i : Int) ∧ Hid (wr = w2.drewN q)) (fun s _ => n - (intOf s).toNat)
  case atStart => exact ⟨1, 0, Nat.le_refl _, rfl, rfl⟩
  case round =>
    obtain ⟨i, q, hi1, rfl, hw⟩ := hrel
    by_cases hlt : i < n
    · obtain ⟨j, hj⟩ : ∃ j, i = j + 1 := ⟨i - 1, by omega⟩
      have q1 : wr.cell? ⟨g, i, none⟩ = some (.int .u8 (F i : Nat)) := by rw [hw.out]; exact hR2.2.2.cell hlt
      have q2 : wr.cell? ⟨g, j, none⟩ = some (.int .u8 (F j : Nat)) := by rw [hw.out]; exact hR2.2.2.cell (by omega)
      have ib : ((i : Nat) : Int) < (n : Int) := Int.ofNat_lt.2 hlt
      have ia : ((j : Nat) : Int) < (n : Int) := by omega
      have W0 : wrap64 (((i : Nat) : Int) - 1) = ((j : Nat) : Int) := by unfold wrap64; omega
      have W1 := wrap_lt8 hlt hn
      have HX : Hid (i < n ∧ 1 ≤ i) := ⟨hlt, hi1⟩
      have ne : ¬ ((F i : Nat) : Int) = ((F j : Nat) : Int) := by have := up j i (by omega) hlt; omega
      have neb : (((F i : Nat) : Int) == ((F j : Nat) : Int)) = false := by simpa using ne
      have nen : ¬ F i = F j := by omega
      generalize F i = x at q1 ne neb nen
      generalize F j = y at q2 ne neb nen
      clear hR2 hn up hlt hj hi1
      go_wp2
      go_quiet (fail)
      go_wp2
      go_roundw
      case rel => exact ⟨i + 1, q + nq, by omega, by first | rfl | (rw [W1]; rfl), by show _ = _; rw [hw.out, World.drewN_drewN]⟩
      case measure => first | exact meas_lt8 HX.out.1 | (rw [W1]; exact meas_lt8 HX.out.1)
    · have ib : ¬ ((i : Nat) : Int) < (n : Int) := by omega
      have HF : Hid (Below w.heap.size w wr) := by show Below _ _ _; rw [hw.out]; exact below_drewN HB.out q
      clear hw hR2 up hn hlt hi1
      go_wp2
      go_ret
      exact ⟨rfl, HF.out⟩
/-- the row while the polynomial is made from the inside out, k of its steps done. -/
theorem nwf_row {pts dd : Nat → Nat} {n k : Nat} (hd : ∀ i, i < n → dd i < 256) (hk : k < n) (j : Nat) : (if j = 0 then widF (pts (n - 1 - k)) (nwf 285 pts dd n k) (k + 1) 0 ^^^ dd (n - 1 - k) else widF (pts (n - 1 - k)) (nwf 285 pts dd n k) (k + 1) j) = nwf 285 pts dd n (k + 1) j := by
  have el := fld8.nwf_el (pts := pts) (dd := dd) hd k (by omega)
  have dgk := fld8.nwf_dg pts dd n k
  show _ = pm 285 (nwf 285 pts dd n k) (px (pts (n - 1 - k))) j ^^^ mo (dd (n - 1 - k)) 0 j
  rw [fld8.pm_px8 el]
  unfold mo widF
  by_cases e : j = 0
  · subst e
    rw [if_pos rfl, if_pos (by omega), if_pos rfl]
  · rw [if_neg e, if_neg e, Nat.xor_zero]
    by_cases e2 : j < k + 1
    · rw [if_pos e2]
    · rw [if_neg e2, if_pos (by omega), dgk (j - 1) (by omega), dgk j (by omega), fld8.zero_fm]; rfl
/-- a polynomial's list: no zero at its end. -/
structure Pl8 (w : World) (v : Value) (n : Nat) (f : Nat → Nat) : Prop where
  rb : Rb w v n f
  dg : Dg f n
  el : Gf2.El 8 f
  top : n = 0 ∨ f (n - 1) ≠ 0
theorem Pl8.below {w w' : World} {v : Value} {n : Nat} {f : Nat → Nat} (h : Pl8 w v n f) (hb : Below w.heap.size w w') : Pl8 w' v n f := ⟨h.rb.below hb, h.dg, h.el, h.top⟩
/-- a list in new memory. -/
def Fh8 (w : World) (x : Value) : Prop := ∃ a n c, x = .slice a n c ∧ ∀ b o s, a = some ⟨b, o, s⟩ → w.heap.size ≤ b
theorem Fh8.mono {w w' : World} {x : Value} (h : Fh8 w' x) (hs : w.heap.size ≤ w'.heap.size) : Fh8 w x := by
  obtain ⟨a, n, c, e, h⟩ := h
  exact ⟨a, n, c, e, fun b o s e => Nat.le_trans hs (h b o s e)⟩
theorem Fh8.nil (w : World) (n c : Nat) : Fh8 w (.slice none n c) := ⟨none, n, c, rfl, fun b o s e => by cases e⟩
theorem Fh8.at_ {w : World} {g o n c : Nat} (h : w.heap.size ≤ g) : Fh8 w (.slice (some ⟨g, o, none⟩) n c) := ⟨_, n, c, rfl, fun b o s e => by cases e; exact h⟩
theorem pl8_of {w : World} {g N d : Nat} {f : Nat → Nat} (hR : Rw w g N f) (el : Gf2.El 8 f) (dg : Dg f N) (hz : Nz8 N f d) : Pl8 w (.slice (some ⟨g, 0, none⟩) d N) d f :=
  ⟨hR.rb0.cut8 hz.le, fun i hi => by
    by_cases e : i < N
    · exact hz.out i hi e
    · exact dg i (by omega), el, hz.top⟩
set_option maxHeartbeats 8000000 in
set_option maxRecDepth 100000 in
theorem interp8_of (r t n : Nat) (pv v : Value) (pts vals dd : Nat → Nat) (w : World) (hr : Rg8 w r t) (hp : Rb w pv n pts) (up : Up8 n pts) (hv : Rb w v n vals) (hn : n ≤ 1000)
    (HC : Hid (∀ w1, Below w.heap.size w w1 → Calls Try.prog 54 #[.pointer (some ⟨r, 0, none⟩), pv, v] w1 fun e w' => e = .returned (.slice (some ⟨w1.heap.size, 0, none⟩) n n) ∧ Rw w' w1.heap.size n dd ∧ Below w1.heap.size w1 w')) :
    Calls Try.prog 32 #[.pointer (some ⟨r, 0, none⟩), pv, v] w fun e w' => ∃ u m, e = .returned (.tuple #[u, .int .i64 0]) ∧ m ≤ n ∧ ((∀ i, i < n → dd i < 256) → Pl8 w' u m (nwf 285 pts dd n n)) ∧ Below w.heap.size w w' ∧ Fh8 w u := by
  have hsl := rb_slice8 hp
  have hsv := rb_slice8 hv
  have c1 := unfit8 r t n n pv v w hr (by obtain ⟨a, c, e, -⟩ := hsl; exact ⟨a, c, e⟩) (by obtain ⟨a, c, e, -⟩ := hsv; exact ⟨a, c, e⟩) (by omega) (by omega)
  have c2 := repeats8 pv n pts w hp up hn
  obtain ⟨pa0, pc0, rfl, -⟩ := hsl
  obtain ⟨va0, vc0, rfl, -⟩ := hsv
  have hmk := make_u8 n (by omega)
  go_enter Try.func32, Try.ntmps32
  go_wp2_with (first
    | (go_at_call 45; (with_reducible refine c1.mono ?_); rintro e w9 ⟨rfl, hw9⟩; have hw9 := hw9.symm; subst hw9; clear c1)
    | (go_at_call 53; (with_reducible refine c2.mono ?_); rintro e w1 ⟨rfl, hb1⟩; have c3 := HC.out w1 hb1; clear c2 HC)
    | (go_at_call 54; (with_reducible refine c3.mono ?_); rintro e w2 ⟨rfl, hR2, hb2⟩; clear c3))
  obtain ⟨g, hg⟩ : ∃ g, Hid (g = w2.heap.size) := ⟨_, rfl⟩
  obtain ⟨w3, hw3⟩ : ∃ w3, Hid (w2.alloc (.cells (madeCells #[.int .u8 0] n) 5) = w3) := ⟨_, rfl⟩
  have b23 : Below w2.heap.size w2 w3 := by rw [← hw3.out]; exact (Below.refl _ _).alloc (Nat.le_refl _) _
  have hb02 := hb1.trans (hb2.mono hb1.size)
  have hb03 := hb02.trans (b23.mono hb02.size)
  have hR3 : Rw w3 g n (fun _ => 0) := by rw [← hw3.out, hg.out]; exact made_rw n (by omega) w2
  have hr3 := hr.below hb03
  obtain ⟨gd, hgd⟩ : ∃ gd, Hid (gd = w1.heap.size) := ⟨_, rfl⟩
  rw [← hgd.out] at hR2
  have hD3 : Rw w3 gd n dd := hR2.of_block (b23.block _ hR2.lt)
  have hgne : gd ≠ g := by have := hR2.lt; have := hg.out; omega
  have hrne : r ≠ g := by have := hr.lt; have := hb02.size; have := hg.out; omega
  have htne : t ≠ g := by have := hr.tab.lt; have := hb02.size; have := hg.out; omega
  have hP : ∀ i, i < n → pts i < 256 := hp.2.1
  have hp3 : 0 < n → ∃ b o, pa0 = some ⟨b, o, none⟩ ∧ b < w3.heap.size ∧ b ≠ g ∧ ∀ i, i < n → w3.cell? ⟨b, o + i, none⟩ = some (.int .u8 (pts i : Nat)) := fun h0 => by
    obtain ⟨-, -, a, c, e, -, -, h4⟩ := hp
    cases e
    obtain ⟨b, o, e, hl, hc⟩ := h4 h0
    exact ⟨b, o, e, Nat.lt_of_lt_of_le hl hb03.size, by have := hg.out; have := hb02.size; omega, fun i hi => (hb03.cell (p := ⟨b, o + i, none⟩) hl).trans (hc i hi)⟩
  have hdl : ∀ i, i < n → dd i < 256 := hR2.2.1
  have HB : Hid (Below w.heap.size w w3 ∧ w.heap.size ≤ g ∧ n ≤ 1000) := ⟨hb03, by have := hg.out; have := hb02.size; omega, hn⟩
  rw [hw3.out, ← hg.out, ← hgd.out]
  have W0 : wrap64 (((n : Nat) : Int) - 1) = (n : Int) - 1 := by unfold wrap64; omega
  clear hR2 hb1 hb2 b23 hb02 hb03 hr hp hv hw3 hmk hn up
  go_loopw [11] (fun s wr => ∃ k : Nat, k ≤ n ∧ s = .int .i64 ((n : Int) - (k : Int) - 1) ∧ Kp g w3 wr ∧ Rw wr g n (nwf 285 pts dd n k)) (fun s _ => (intOf s + 1).toNat)
  case atStart => exact ⟨0, Nat.zero_le _, by first | rfl | (rw [W0]; simp), Kp.refl _ _, hR3.congr (fun j _ => rfl)⟩
  case round =>
    obtain ⟨k, hk, rfl, hkp, hrw⟩ := hrel
    clear hR3 W0
    by_cases hlt : k < n
    · obtain ⟨b, o, rfl, hbl, hbg, hc⟩ := hp3 (by omega)
      obtain ⟨i, hi⟩ : ∃ i, i = n - 1 - k := ⟨_, rfl⟩
      obtain ⟨L, hL⟩ : ∃ L, L = k + 1 := ⟨_, rfl⟩
      have e1 : ((n : Int) - (k : Int) - 1) = (i : Int) := by omega
      rw [e1]
      have hrg := hr3.kp hkp hrne htne
      have q1 : wr.cell? ⟨b, o + i, none⟩ = some (.int .u8 (pts i : Nat)) := (hkp.cell (q := o + i) hbl hbg).trans (hc i (by omega))
      have c5 := widen8 r t g n L n (pts i) (nwf 285 pts dd n k) wr.drew (hrg.drewN 1) (hrw.drewN 1) hrne htne (by omega) (by omega) (by have := HB.out; omega) (hP i (by omega))
      have HE : Hid (∀ w9, Kp g wr.drew w9 → Rw w9 g n (widF (pts i) (nwf 285 pts dd n k) L) → w9.cell? ⟨b, o + i, none⟩ = some (.int .u8 (pts i : Nat)) ∧ ∃ x y : Nat, w9.cell? ⟨g, 0, none⟩ = some (.int .u8 (x : Nat)) ∧ w9.cell? ⟨gd, i, none⟩ = some (.int .u8 (y : Nat)) ∧ w9.frozen? ⟨g, 0, none⟩ = false ∧ x < 256 ∧ y < 256 ∧ Kp g w3 (w9.setCell ⟨g, 0, none⟩ (.int .u8 ((x ^^^ y : Nat) : Int))) ∧ Rw (w9.setCell ⟨g, 0, none⟩ (.int .u8 ((x ^^^ y : Nat) : Int))) g n (nwf 285 pts dd n (k + 1))) := fun w9 h9 hR9 => by
        have h39 : Kp g w3 w9 := (hkp.drewN 1).trans h9
        refine ⟨(h39.cell (q := o + i) hbl hbg).trans (hc i (by omega)), widF (pts i) (nwf 285 pts dd n k) L 0, dd i, hR9.2.2.cell (i := 0) (by omega), (h39.rw_ hD3 hgne).2.2.cell (i := i) (by omega), hR9.2.2.frozen 0, hR9.2.1 0 (by omega), hdl i (by omega), h39.setCell _ _, (hR9.set 0 _ (Nat.xor_lt_two_pow (n := 8) (hR9.2.1 0 (by omega)) (hdl i (by omega)))).congr (fun j _ => ?_)⟩
        have := nwf_row (pts := pts) (dd := dd) (n := n) (k := k) hdl hlt j
        rw [← hi] at this
        rw [hL]
        exact this
      have HX : Hid (k + 1 ≤ n ∧ (i : Int) - 1 = (n : Int) - ((k + 1 : Nat) : Int) - 1) := ⟨hlt, by omega⟩
      have WL : wrap64 (((n : Nat) : Int) - ((i : Nat) : Int)) = ((L : Nat) : Int) := by have := HB.out; unfold wrap64; omega
      have WLk : IntKind.i64.wrap (((n : Nat) : Int) - ((i : Nat) : Int)) = ((L : Nat) : Int) := by have := HB.out; rw [IntKind.wrap_i64]; omega
      have W1 : wrap64 ((i : Int) - 1) = (i : Int) - 1 := by have := HB.out; unfold wrap64; omega
      have iL : ((L : Nat) : Int) ≤ (n : Int) := by omega
      have iLn : L ≤ n := by omega
      have ii : ((i : Nat) : Int) < (n : Int) := by omega
      have i0 : (0 : Int) < (n : Int) := by omega
      have i0n : 0 < n := by omega
      have s0 := run_head8 g n n L (by omega)
      generalize pts i = x at q1 c5 HE
      clear hrw hkp hrg hc hbl hbg hk hlt hi hL e1 hp3 hD3 hr3 hP hdl
      go_wp2
      go_region_held (fun W => W.cell? ⟨b, o + i, none⟩ = some (.int .u8 (x : Nat))) (first | exact q1 | exact u1) ((go_at_call 46; (with_reducible refine c5.mono ?_); rintro e w9 ⟨rfl, h9, hR9⟩; clear c5; obtain ⟨u1, y0, y1, v0, v1, v2, l0, l1, v3, v4⟩ := HE.out w9 h9 hR9; clear HE h9 hR9))
      have X := u8_xor_nat y0 y1 l0 l1
      have HF : Hid (Kp g w3 (w9.setCell ⟨g, 0, none⟩ (.int .u8 ((y0 ^^^ y1 : Nat) : Int))) ∧ Rw (w9.setCell ⟨g, 0, none⟩ (.int .u8 ((y0 ^^^ y1 : Nat) : Int))) g n (nwf 285 pts dd n (k + 1))) := ⟨v3, v4⟩
      generalize y0 ^^^ y1 = Y at X HF
      clear v3 v4 l0 l1 u1 q1
      go_wp2
      refine region_planT (fun w' => w'.cell? ⟨g, 0, none⟩ = some (.int .u8 (y0 : Nat)) ∧ w'.cell? ⟨gd, i, none⟩ = some (.int .u8 (y1 : Nat))) 8 [8] 63 ⟨v0, v1⟩ (by kernel_rfl) (by kernel_rfl) (fun _ a d v _ h => by cases d <;> exact h) ?_
      refine planT_last ?A2 rfl (fun w' hS => ?s2) rfl ?n2
      case s2 =>
        obtain ⟨z1, z2⟩ := hS
        simp only [List.take_succ_cons, List.take_zero]
        repeat still_step
        exact rfl
      case n2 =>
      simp only [List.drop_succ_cons, List.drop_zero]
      go_wp2
      go_roundw
      case rel => exact ⟨k + 1, HX.out.1, by rw [← HX.out.2]; first | rfl | (rw [W1]), HF.out.1.drewN _, HF.out.2.drewN _⟩
      case measure => simp [intOf]; (try rw [W1]); omega
    · obtain rfl : k = n := by omega
      have e1 : ((k : Int) - (k : Int) - 1) = -1 := by omega
      rw [e1]
      have c6 := trimmed8 (some ⟨g, 0, none⟩) k k (nwf 285 pts dd k k) wr hrw.rb0 (by have := HB.out; omega)
      have HF : Hid (Rw wr g k (nwf 285 pts dd k k) ∧ Below w.heap.size w wr) := ⟨hrw, HB.out.1.trans (hkp.below HB.out.2.1 HB.out.1.size)⟩
      clear hrw hkp hlt hk e1 hp3 hD3 hr3 hP hdl
      go_wp2_with (go_at_call 50; (with_reducible refine c6.mono ?_); rintro e w9 ⟨d, rfl, hz, q, rfl⟩; clear c6; have HZ : Hid (Nz8 k (nwf 285 pts dd k k) d) := hz; clear hz)
      go_ret2
      exact ⟨_, d, rfl, HZ.out.le, fun hd => pl8_of (HF.out.1.drewN q) (fld8.nwf_el hd k (Nat.le_refl _)) (fld8.nwf_dg _ _ _ _) HZ.out, below_drewN HF.out.2 q, Fh8.at_ HB.out.2.1⟩
/-- Interpolate: the polynomial that Newton's way makes. -/
theorem interp8f (r t n : Nat) (pv v : Value) (pts vals : Nat → Nat) (w : World) (hr : Rg8 w r t) (hp : Rb w pv n pts) (up : Up8 n pts) (hv : Rb w v n vals) (hn : n ≤ 1000) :
    Calls Try.prog 32 #[.pointer (some ⟨r, 0, none⟩), pv, v] w fun e w' => ∃ u m f, e = .returned (.tuple #[u, .int .i64 0]) ∧ m ≤ n ∧ Pl8 w' u m f ∧ (∀ i, i < n → pe 285 (pts i) n f = vals i) ∧ Below w.heap.size w w' ∧ Fh8 w u := by
  have inj : ∀ i j, i < n → j < n → pts i = pts j → i = j := fun i j hi hj e => by
    rcases Nat.lt_trichotomy i j with h | h | h
    · have := up i j h hj; omega
    · exact h
    · have := up j i h hi; omega
  have hN := fld8.newton (pts := pts) (vals := vals) (n := n) hp.2.1 hv.2.1 inj
  have hd : ∀ i, i < n → (fun i => ddf 285 pts vals i i) i < 256 := fun i hi => by
    have k := fld8.nw (pts := pts) (vals := vals) (n := n) hp.2.1 hv.2.1 inj i i (Nat.le_refl _) hi
    show ddf 285 pts vals i i < 256
    rw [← k.top]; exact k.el _
  refine (interp8_of r t n pv v pts vals (fun i => ddf 285 pts vals i i) w hr hp up hv hn (fun w1 hb => newton8 r t n pv v pts vals w1 (hr.below hb) (hp.below hb) up (hv.below hb) hn)).mono ?_
  rintro e w' ⟨u, m, h1, h2, h3, h4, h5⟩
  exact ⟨u, m, _, h1, h2, h3 hd, hN.2.2, h4, h5⟩
end Go.Proofs.Ytfhgamaakkoplaa
namespace Go.Proofs.Ytfhgamaakkoplaa
open Go.RowKit Gf2
set_option linter.unusedVariables false

-- layer 4: a multiple added; the product of all X + x
set_option maxHeartbeats 2000000 in
set_option maxRecDepth 100000 in
theorem addtimes8 (r t a n g o N ld cd : Nat) (F S : Nat → Nat) (x : Option Addr) (cx : Nat) (w : World) (hr : Rg8 w r t) (hrg : r ≠ g) (htg : t ≠ g) (ha : a < 256) (hR : Rw w g N F) (hn : n ≤ ld) (hd : o + ld ≤ N) (hx : Fk w g n x S) :
    Calls Try.prog 66 #[.pointer (some ⟨r, 0, none⟩), .slice (some ⟨g, o, none⟩) ld cd, .int .u8 (a : Int), .slice x n cx] w fun e w' => e = .returned (.tuple #[]) ∧ Kp g w w' ∧ Rw w' g N (pl F o n (fun j => F (o + j) ^^^ fm 285 a (S j))) := by
  by_cases ha0 : a = 0
  · subst ha0
    have : Rw w g N (pl F o n (fun j => F (o + j) ^^^ fm 285 0 (S j))) := hR.congr (fun i hi => by
      unfold pl
      split
      · show F i = F (o + (i - o)) ^^^ fm 285 0 (S (i - o))
        rw [fld8.zero_fm, Nat.xor_zero, show o + (i - o) = i by omega]
      · rfl)
    clear hr hx
    go_enter Try.func66, Try.ntmps66
    go_wp2
    ((try simp only [Exit.inBlock, Exit.then]); first | (refine bodyPost_ret (results_none rfl _ _ _) rfl ?_) | (refine bodyPost_end (results_none rfl _ _ _) rfl ?_))
    exact ⟨rfl, Kp.refl _ _, this⟩
  · have hI : ¬ ((a : Nat) : Int) = 0 := by omega
    have hIb : (((a : Nat) : Int) == 0) = false := by simp [ha0]
    have hNb := hR.1
    obtain ⟨hS, hx4⟩ := hx
    go_enter Try.func66, Try.ntmps66
    go_wp2
    go_loopw [14] (fun i wr => ∃ k : Nat, k ≤ n ∧ i = .int .i64 k ∧ Kp g w wr ∧ Rw wr g N (pl F o k (fun j => F (o + j) ^^^ fm 285 a (S j)))) (fun i _ => n - (intOf i).toNat)
    case atStart => exact ⟨0, Nat.zero_le _, rfl, Kp.refl _ _, hR.congr (fun i _ => (pl_out (by omega)).symm)⟩
    case round =>
      obtain ⟨k, hk, rfl, hkp, hrw⟩ := hrel
      by_cases hlt : k < n
      · obtain ⟨b, p, rfl, hbg, hbl, hc⟩ := hx4 (by omega)
        have hg := hr.kp hkp hrg htg
        have q1 := (hkp.cell (q := p + k) hbl hbg).trans (hc k hlt)
        have q2 := hrw.2.2.cell (i := o + k) (by omega)
        rw [show pl F o k (fun j => F (o + j) ^^^ fm 285 a (S j)) (o + k) = F (o + k) from pl_out (by omega)] at q2
        have q3 := hrw.2.2.frozen (o + k)
        have q4 := hg.mul
        have lF : F (o + k) < 256 := hR.2.1 _ (by omega)
        have lS := hS k hlt
        have c5 := tmul_nat t a (S k) wr.drew (hg.tab.of_heap rfl) ha lS
        have X := u8_xor_nat (F (o + k)) (fm 285 a (S k)) lF (fm8_lt _ _)
        have HC : Hid (Kp g w (wr.setCell ⟨g, o + k, none⟩ (.int .u8 ((F (o + k) ^^^ fm 285 a (S k) : Nat) : Int))) ∧ Rw (wr.setCell ⟨g, o + k, none⟩ (.int .u8 ((F (o + k) ^^^ fm 285 a (S k) : Nat) : Int))) g N (pl F o (k + 1) (fun j => F (o + j) ^^^ fm 285 a (S j)))) :=
          ⟨hkp.setCell _ _, (hrw.set (o + k) (F (o + k) ^^^ fm 285 a (S k)) (Nat.xor_lt_two_pow (n := 8) lF (fm8_lt _ _))).congr (fun i _ => pl_more (S := fun j => F (o + j) ^^^ fm 285 a (S j)) i)⟩
        have ib : ((k : Nat) : Int) < (n : Int) := by omega
        have ib2 : ((k : Nat) : Int) < (ld : Int) := by omega
        have W1 := wrap_succ8 (j := k) (by omega)
        generalize fm 285 a (S k) = M at c5 X HC
        generalize F (o + k) = A0 at q2 X HC
        generalize hM2 : A0 ^^^ M = M2 at X HC
        clear hrw hkp hg hx4 hR hd hn hNb hM2 lF hr hc
        go_wp2
        refine region_planJ (fun w' => w'.cell? ⟨g, o + k, none⟩ = some (.int .u8 (A0 : Nat)) ∧ w'.cell? ⟨r, 0, none⟩ = some (.func (.func 43) #[.pointer (some ⟨t, 0, none⟩)] #[])) 12 [10, 1] 33 ⟨q2, q4⟩ (by kernel_rfl) (by kernel_rfl) (fun _ a d v _ h => by cases d <;> exact h) ?_
        refine planT_step ?A1x0 rfl (fun w' hS => ?s1x0) rfl (fun K hK => ?n1x0)
        case s1x0 =>
          obtain ⟨y1, y2⟩ := hS
          simp only [List.take_succ_cons, List.take_zero]
          repeat still_step
          exact rfl
        case n1x0 =>
        go_simp
        go_wp2_with (go_at_call 43; ((with_reducible refine c5.mono ?_); rintro e w9 ⟨rfl, q, rfl⟩))
        refine hK _ _ ⟨q2, q4⟩ ?_
        clear hK K c5
        refine planT_last ?A2x0 rfl (fun w' hS => ?s2x0) rfl ?n2x0
        case s2x0 =>
          simp only [List.take_succ_cons, List.take_zero]
          repeat still_step
          exact rfl
        case n2x0 =>
        simp only [List.drop_succ_cons, List.drop_zero]
        go_wp2
        go_roundw
        case rel => first | exact ⟨k + 1, hlt, by first | rfl | (rw [W1]; rfl), HC.out.1.drewN _, HC.out.2.drewN _⟩ | (rw [W1]; (repeat apply Exists.intro); exact ⟨⟨k + 1, hlt, rfl, HC.out.1.drewN _, HC.out.2.drewN _⟩, rfl⟩)
        case measure => first | exact meas_lt8 hlt | (rw [W1]; exact meas_lt8 hlt)
      · have hkn : k = n := by omega
        subst hkn
        clear hx4
        go_wp2
        ((try simp only [Exit.inBlock, Exit.then]); first | (refine bodyPost_ret (results_none rfl _ _ _) rfl ?_) | (refine bodyPost_end (results_none rfl _ _ _) rfl ?_))
        exact ⟨rfl, hkp, hrw⟩
/-- one factor more of the product. -/
theorem pv_row {pts : Nat → Nat} (i : Nat) (j : Nat) : widF (pts i) (pv 285 pts i) (i + 2) j = pv 285 pts (i + 1) j := by
  show _ = pm 285 (pv 285 pts i) (px (pts i)) j
  rw [fld8.pm_px8 (fld8.el_pv pts i)]
  unfold widF
  by_cases e : j < i + 2
  · rw [if_pos e]
  · rw [if_neg e, if_pos (by omega), fld8.pv_dg pts i (j - 1) (by omega), fld8.pv_dg pts i j (by omega), fld8.zero_fm]; rfl
theorem made_one8 (W : World) (i : Nat) : (W.alloc (.cells (madeCells #[.int .u8 0] i) 5)).setCell ⟨W.heap.size, 0, none⟩ (.int .u8 1) = W.alloc (.cells ((madeCells #[.int .u8 0] i).setIfInBounds 0 (.int .u8 1)) 5) := by
  go_simp
set_option maxHeartbeats 4000000 in
set_option maxRecDepth 100000 in
theorem vanish8 (r t n : Nat) (v : Value) (pts : Nat → Nat) (w : World) (hr : Rg8 w r t) (hp : Rb w v n pts) (hn : n ≤ 1000) :
    Calls Try.prog 27 #[.pointer (some ⟨r, 0, none⟩), v] w fun e w' => ∃ g, e = .returned (.tuple #[.slice (some ⟨g, 0, none⟩) (n + 1) (n + 1), .int .i64 0]) ∧ Rw w' g (n + 1) (pv 285 pts n) ∧ w.heap.size ≤ g ∧ Below w.heap.size w w' := by
  have hsl := rb_slice8 hp
  have c1 := unfit8 r t n 0 v (.slice none 0 0) w hr (by obtain ⟨a, c, e, -⟩ := hsl; exact ⟨a, c, e⟩) ⟨none, 0, rfl⟩ (by omega) (by omega)
  obtain ⟨pa0, pc0, rfl, -⟩ := hsl
  obtain ⟨L, hL⟩ : ∃ L, L = n + 1 := ⟨_, rfl⟩
  have WL : wrap64 (((n : Nat) : Int) + 1) = ((L : Nat) : Int) := by unfold wrap64; omega
  have hmk := make_u8 L (by omega)
  have r0 := made_rw L (by omega) w
  have q0 := r0.2.2.cell (i := 0) (by omega)
  have q0f := r0.2.2.frozen 0
  have i0 : (0 : Int) < (L : Int) := by omega
  have i0n : 0 < L := by omega
  obtain ⟨w3, hw3⟩ : ∃ w3, Hid (w.alloc (.cells ((madeCells #[.int .u8 0] L).setIfInBounds 0 (.int .u8 1)) 5) = w3) := ⟨_, rfl⟩
  have e3 : (w.alloc (.cells (madeCells #[.int .u8 0] L) 5)).setCell ⟨w.heap.size, 0, none⟩ (.int .u8 1) = w3 := by rw [made_one8, hw3.out]
  have b3 : Below w.heap.size w w3 := by rw [← e3]; exact ((Below.refl _ _).alloc (Nat.le_refl _) _).setCell (Nat.le_refl _) _
  have hR3 : Rw w3 w.heap.size L (pv 285 pts 0) := by rw [← e3]; exact (r0.set 0 1 (by decide)).congr (fun j _ => rfl)
  obtain ⟨g, hg⟩ : ∃ g, Hid (w.heap.size = g) := ⟨_, rfl⟩
  have hr3 := hr.below b3
  have hrne : r ≠ g := by have := hr.lt; have := hg.out; omega
  have htne : t ≠ g := by have := hr.tab.lt; have := hg.out; omega
  have hP : ∀ i, i < n → pts i < 256 := hp.2.1
  have hp3 : 0 < n → ∃ b o, pa0 = some ⟨b, o, none⟩ ∧ b < w3.heap.size ∧ b ≠ g ∧ ∀ i, i < n → w3.cell? ⟨b, o + i, none⟩ = some (.int .u8 (pts i : Nat)) := fun h0 => by
    obtain ⟨-, -, a, c, e, -, -, h4⟩ := hp
    cases e
    obtain ⟨b, o, e, hl, hc⟩ := h4 h0
    exact ⟨b, o, e, Nat.lt_of_lt_of_le hl b3.size, by have := hg.out; omega, fun i hi => (b3.cell (p := ⟨b, o + i, none⟩) hl).trans (hc i hi)⟩
  rw [hg.out] at hR3
  have HB : Hid (Below w.heap.size w w3 ∧ w.heap.size = g ∧ n ≤ 1000 ∧ L = n + 1) := ⟨b3, hg.out, hn, hL⟩
  clear r0 b3 e3 hp hr hn hL
  go_enter Try.func27, Try.ntmps27
  go_wp2_with (go_at_call 45; (with_reducible refine c1.mono ?_); rintro e w9 ⟨rfl, hw9⟩; have hw9 := hw9.symm; subst hw9; clear c1)
  rw [hw3.out, hg.out]
  clear hw3 q0 q0f hmk WL
  go_loopw [24] (fun s wr => ∃ i : Nat, i ≤ n ∧ s = .int .i64 (i : Int) ∧ Kp g w3 wr ∧ Rw wr g L (pv 285 pts i)) (fun s _ => n - (intOf s).toNat)
  case atStart => exact ⟨0, Nat.zero_le _, rfl, Kp.refl _ _, hR3⟩
  case round =>
    obtain ⟨i, hi, rfl, hkp, hrw⟩ := hrel
    clear hR3
    by_cases hlt : i < n
    · obtain ⟨b, o, rfl, hbl, hbg, hc⟩ := hp3 (by omega)
      have q1 : wr.cell? ⟨b, o + i, none⟩ = some (.int .u8 (pts i : Nat)) := (hkp.cell (q := o + i) hbl hbg).trans (hc i hlt)
      obtain ⟨D, hD⟩ : ∃ D, D = i + 2 := ⟨_, rfl⟩
      have c5 := widen8 r t g L D L (pts i) (pv 285 pts i) wr (hr3.kp hkp hrne htne) hrw hrne htne (by omega) (by have := HB.out; omega) (by have := HB.out; omega) (hP i hlt)
      have WD : wrap64 (((i : Nat) : Int) + 2) = ((D : Nat) : Int) := by have := HB.out; unfold wrap64; omega
      have s0 := run_head8 g L L D (by have := HB.out; omega)
      have HK : Hid (∀ w9, Kp g wr w9 → Rw w9 g L (widF (pts i) (pv 285 pts i) D) → Kp g w3 w9 ∧ Rw w9 g L (pv 285 pts (i + 1))) := fun w9 h1 h2 => ⟨hkp.trans h1, h2.congr (fun j _ => by rw [hD, pv_row])⟩
      have ib : ((i : Nat) : Int) < (n : Int) := Int.ofNat_lt.2 hlt
      have W1 := wrap_lt8 (j := i) (b := n) hlt (by have := HB.out; omega)
      have HX : Hid (i < n) := hlt
      generalize pts i = x at q1 c5 HK
      clear hrw hkp hc hbl hbg hlt hi hD hp3
      go_wp2_with (go_at_call 46; (with_reducible refine c5.mono ?_); rintro e w9 ⟨rfl, h9, hR9⟩; clear c5; have HF : Hid _ := HK.out w9 h9 hR9; clear HK h9 hR9)
      go_roundw
      case rel => exact ⟨i + 1, HX.out, by first | rfl | (rw [W1]; rfl), HF.out.1, HF.out.2⟩
      case measure => first | exact meas_lt8 HX.out | (rw [W1]; exact meas_lt8 HX.out)
    · obtain rfl : i = n := by omega
      have ib : ¬ ((i : Nat) : Int) < (i : Int) := by omega
      have HF : Hid (Rw wr g L (pv 285 pts i) ∧ Below w.heap.size w wr) := ⟨hrw, HB.out.1.trans (hkp.below (by have := HB.out; omega) HB.out.1.size)⟩
      clear hrw hkp hlt hi hp3
      go_wp2
      go_ret2
      exact ⟨g, by rw [← HB.out.2.2.2]; rfl, by rw [← HB.out.2.2.2]; exact HF.out.1, by rw [HB.out.2.1]; exact Nat.le_refl _, HF.out.2⟩
end Go.Proofs.Ytfhgamaakkoplaa
namespace Go.Proofs.Ytfhgamaakkoplaa
open Go.RowKit Gf2
set_option linter.unusedVariables false

-- layer 4: products, sums
theorem run_from8 (b o n cx m : Nat) (hm : m ≤ n) (hn : n ≤ cx) (hc : m < cx) (W : World) : (Instr.slice 25 (.slice (some ⟨b, o, none⟩) n cx) (some (.int .i64 (m : Int))) none none).run Try.prog W = .ok (.slice (some ⟨b, o + m, none⟩) (n - m) (cx - m)) W := by
  have hu : Try.prog.underlying 25 = some (.slice (Try.prog.elem 25)) := by rw [elem_u8p]; exact Try.underlying25
  have h := run_slice_l (P := Try.prog) (w := W) 25 (some ⟨b, o, none⟩) n cx hu .i64 (m : Int) (by omega) (by omega)
  rw [h, elem_u8p, size_u8p]
  have e2 : (m : Int).toNat = m := by omega
  have e3 : (if cx = m then some (⟨b, o, none⟩ : Addr) else (some (⟨b, o, none⟩ : Addr)).map (·.add m)) = some ⟨b, o + m, none⟩ := by
    rw [if_neg (by omega)]
    show some ((⟨b, o, none⟩ : Addr).add m) = _
    rw [Addr.add_lit]
  simp only [Result.andThen, sliced, e2, Nat.mul_one, e3]
/-- i of the product's steps. -/
def pac8 (f g : Nat → Nat) (i j : Nat) : Nat := sx i (fun a => fm 285 (f a) (if a ≤ j then g (j - a) else 0))
theorem pac8_end {f g : Nat → Nat} {n : Nat} (hf : Dg f n) (j : Nat) : pac8 f g n j = pm 285 f g j := by
  show sx n _ = sx (j + 1) _
  have e1 : sx (n + (j + 1)) (fun a => fm 285 (f a) (if a ≤ j then g (j - a) else 0)) = sx n (fun a => fm 285 (f a) (if a ≤ j then g (j - a) else 0)) := sx_cut (by omega) (fun a h1 _ => by rw [hf a h1, fld8.zero_fm])
  have e2 : sx (n + (j + 1)) (fun a => fm 285 (f a) (if a ≤ j then g (j - a) else 0)) = sx (j + 1) (fun a => fm 285 (f a) (if a ≤ j then g (j - a) else 0)) := sx_cut (by omega) (fun a h1 _ => by rw [if_neg (by omega), fld8.fm_zero])
  rw [← e1, e2]
  exact sx_congr (fun a ha => by rw [if_pos (by omega)])
theorem pac8_step {f g : Nat → Nat} {m : Nat} (hg : Dg g m) (i j : Nat) : pl (pac8 f g i) i m (fun y => pac8 f g i (i + y) ^^^ fm 285 (f i) (g y)) j = pac8 f g (i + 1) j := by
  show _ = pac8 f g i j ^^^ fm 285 (f i) (if i ≤ j then g (j - i) else 0)
  unfold pl
  by_cases e : i ≤ j ∧ j < i + m
  · rw [if_pos e, if_pos e.1]
    show pac8 f g i (i + (j - i)) ^^^ _ = _
    rw [show i + (j - i) = j by omega]
  · rw [if_neg e]
    by_cases e2 : i ≤ j
    · rw [if_pos e2, hg (j - i) (by omega), fld8.fm_zero, Nat.xor_zero]
    · rw [if_neg e2, fld8.fm_zero, Nat.xor_zero]
theorem fk_rb8 {w : World} {g n cx : Nat} {x : Option Addr} {S : Nat → Nat} (h : Rb w (.slice x n cx) n S) (hg : ∀ b o, x = some ⟨b, o, none⟩ → b ≠ g) : Fk w g n x S := by
  obtain ⟨-, h2, a, c, e, -, -, h4⟩ := h
  cases e
  exact ⟨h2, fun h0 => by
    obtain ⟨b, o, e, hl, hc⟩ := h4 h0
    exact ⟨b, o, e, hg b o e, hl, hc⟩⟩
theorem rb_lt8 {w : World} {n cx : Nat} {x : Option Addr} {S : Nat → Nat} (h : Rb w (.slice x n cx) n S) (h0 : 0 < n) : ∀ b o, x = some ⟨b, o, none⟩ → b < w.heap.size := fun b o e => by
  obtain ⟨-, h2, a, c, e2, -, -, h4⟩ := h
  cases e2
  obtain ⟨b', o', e', hl, hc⟩ := h4 h0
  rw [e] at e'
  cases e'
  exact hl
theorem pl8_nil (w : World) : Pl8 w (.slice none 0 0) 0 pz := ⟨⟨by decide, fun i hi => absurd hi (Nat.not_lt_zero _), none, 0, rfl, Nat.le_refl _, by decide, fun h => absurd h (Nat.lt_irrefl _)⟩, Dg.pz 0, El.pz 8, .inl rfl⟩
set_option maxHeartbeats 4000000 in
set_option maxRecDepth 100000 in
theorem times8 (r t n m : Nat) (v u : Value) (f g : Nat → Nat) (w : World) (hr : Rg8 w r t) (hf : Pl8 w v n f) (hg : Pl8 w u m g) (hn : n ≤ 1000) (hm : m ≤ 1000) :
    Calls Try.prog 65 #[.pointer (some ⟨r, 0, none⟩), v, u] w fun e w' => ∃ x l, e = .returned x ∧ Pl8 w' x l (pm 285 f g) ∧ l ≤ n + m ∧ Below w.heap.size w w' := by
  obtain ⟨va, vc, rfl, -⟩ := rb_slice8 hf.rb
  obtain ⟨ua, uc, rfl, -⟩ := rb_slice8 hg.rb
  by_cases h0 : n = 0 ∨ m = 0
  · have hz : pm 285 f g = pz := by
      rcases h0 with h | h
      · subst h; rw [hf.dg.zero, fld8.pz_pm]
      · subst h; rw [hg.dg.zero, fld8.pm_pz]
    have HP : Hid (Pl8 w (.slice none 0 0) 0 (pm 285 f g)) := by show Pl8 _ _ _ _; rw [hz]; exact pl8_nil w
    have i0 : ((n : Nat) : Int) = 0 ∨ ((m : Nat) : Int) = 0 := by omega
    clear hf hg hr hz hn hm
    by_cases hn0 : n = 0
    · subst hn0
      clear h0 i0
      go_enter Try.func65, Try.ntmps65
      go_wp2
      go_ret
      exact ⟨_, 0, rfl, HP.out, Nat.zero_le _, Below.refl _ _⟩
    · have hm0 : m = 0 := by omega
      subst hm0
      have nI : ¬ ((n : Nat) : Int) = 0 := by omega
      have nIb : (((n : Nat) : Int) == 0) = false := by simpa using nI
      clear h0 i0
      go_enter Try.func65, Try.ntmps65
      go_wp2
      go_ret
      exact ⟨_, 0, rfl, HP.out, Nat.zero_le _, Below.refl _ _⟩
  · have nI : ¬ ((n : Nat) : Int) = 0 := by omega
    have nIb : (((n : Nat) : Int) == 0) = false := by simpa using nI
    have mI : ¬ ((m : Nat) : Int) = 0 := by omega
    have mIb : (((m : Nat) : Int) == 0) = false := by simpa using mI
    have nN : ¬ n = 0 := by omega
    have mN : ¬ m = 0 := by omega
    obtain ⟨N, hN⟩ : ∃ N, n + m = N + 1 := ⟨n + m - 1, by omega⟩
    have WN : wrap64 (wrap64 (((n : Nat) : Int) + ((m : Nat) : Int)) - 1) = ((N : Nat) : Int) := by unfold wrap64; omega
    have WN1 : wrap64 (((n : Nat) : Int) + ((m : Nat) : Int)) = ((n : Nat) : Int) + ((m : Nat) : Int) := by unfold wrap64; omega
    have WN2 : wrap64 (((n : Nat) : Int) + ((m : Nat) : Int) - 1) = ((N : Nat) : Int) := by unfold wrap64; omega
    have hmk := make_u8 N (by omega)
    have r0 := made_rw N (by omega) w
    have b0 : Below w.heap.size w (w.alloc (.cells (madeCells #[.int .u8 0] N) 5)) := (Below.refl _ _).alloc (Nat.le_refl _) _
    obtain ⟨w3, hw3⟩ : ∃ w3, Hid (w.alloc (.cells (madeCells #[.int .u8 0] N) 5) = w3) := ⟨_, rfl⟩
    rw [hw3.out] at r0 b0
    obtain ⟨gg, hgg⟩ : ∃ gg, Hid (w.heap.size = gg) := ⟨_, rfl⟩
    rw [hgg.out] at r0
    have hr3 := hr.below b0
    have hrne : r ≠ gg := by have := hr.lt; have := hgg.out; omega
    have htne : t ≠ gg := by have := hr.tab.lt; have := hgg.out; omega
    have hvne : ∀ b o, va = some ⟨b, o, none⟩ → b ≠ gg := fun b o e => by have := rb_lt8 hf.rb (by omega) b o e; have := hgg.out; omega
    have hune : ∀ b o, ua = some ⟨b, o, none⟩ → b ≠ gg := fun b o e => by have := rb_lt8 hg.rb (by omega) b o e; have := hgg.out; omega
    have hfk : Fk w3 gg n va f := fk_rb8 (hf.rb.below b0) hvne
    have hgk : Fk w3 gg m ua g := fk_rb8 (hg.rb.below b0) hune
    have HT : Hid (pm 285 f g = pm 285 f g ∧ Dg f n ∧ Dg g m ∧ Gf2.El 8 f ∧ Gf2.El 8 g ∧ f (n - 1) ≠ 0 ∧ g (m - 1) ≠ 0) := ⟨rfl, hf.dg, hg.dg, hf.el, hg.el, hf.top.resolve_left nN, hg.top.resolve_left mN⟩
    have HB : Hid (Below w.heap.size w w3 ∧ w.heap.size = gg ∧ n ≤ 1000 ∧ m ≤ 1000 ∧ n + m = N + 1 ∧ 1 ≤ n ∧ 1 ≤ m) := ⟨b0, hgg.out, hn, hm, hN, by omega, by omega⟩
    clear hf hg hr b0 hn hm hN h0 hvne hune
    go_enter Try.func65, Try.ntmps65
    go_wp2
    rw [hw3.out, hgg.out]
    clear hw3 hmk
    go_loopw [27] (fun s wr => ∃ i : Nat, i ≤ n ∧ s = .int .i64 (i : Int) ∧ Kp gg w3 wr ∧ Rw wr gg N (pac8 f g i)) (fun s _ => n - (intOf s).toNat)
    case atStart => exact ⟨0, Nat.zero_le _, rfl, Kp.refl _ _, r0.congr (fun j _ => rfl)⟩
    case round =>
      obtain ⟨i, hi, rfl, hkp, hrw⟩ := hrel
      clear r0 WN WN1 WN2
      by_cases hlt : i < n
      · obtain ⟨b, o, rfl, hbg, hbl, hc⟩ := hfk.2 (by omega)
        have q1 : wr.cell? ⟨b, o + i, none⟩ = some (.int .u8 (f i : Nat)) := (hkp.cell (q := o + i) hbl hbg).trans (hc i hlt)
        have hgk2 : Fk wr gg m ua g := ⟨hgk.1, fun h0 => by
          obtain ⟨b', o', e, h1, h2, h3⟩ := hgk.2 h0
          exact ⟨b', o', e, h1, Nat.lt_of_lt_of_le h2 hkp.size, fun y hy => (hkp.cell (q := o' + y) h2 h1).trans (h3 y hy)⟩⟩
        have c5 := addtimes8 r t (f i) m gg i N (N - i) (N - i) (pac8 f g i) g ua uc wr (hr3.kp hkp hrne htne) hrne htne (HT.out.2.2.2.1 i) hrw (by have := HB.out; omega) (by have := HB.out; omega) hgk2
        have HK : Hid (∀ w9, Kp gg wr w9 → Rw w9 gg N (pl (pac8 f g i) i m (fun y => pac8 f g i (i + y) ^^^ fm 285 (f i) (g y))) → Kp gg w3 w9 ∧ Rw w9 gg N (pac8 f g (i + 1))) := fun w9 h1 h2 => ⟨hkp.trans h1, h2.congr (fun j _ => pac8_step HT.out.2.2.1 i j)⟩
        have s0 := run_from8 gg 0 N N i (by have := HB.out; omega) (Nat.le_refl _) (by have := HB.out; omega)
        rw [Nat.zero_add] at s0
        have ib : ((i : Nat) : Int) < (n : Int) := Int.ofNat_lt.2 hlt
        have W1 := wrap_lt8 (j := i) (b := n) hlt (by have := HB.out; omega)
        have HX : Hid (i < n) := hlt
        generalize f i = x at q1 c5 HK
        clear hrw hkp hc hbl hbg hlt hi hfk hgk hgk2
        go_wp2_with (go_at_call 66; (with_reducible refine c5.mono ?_); rintro e w9 ⟨rfl, h9, hR9⟩; clear c5; have HF : Hid _ := HK.out w9 h9 hR9; clear HK h9 hR9)
        go_roundw
        case rel => exact ⟨i + 1, HX.out, by first | rfl | (rw [W1]; rfl), HF.out.1, HF.out.2⟩
        case measure => first | exact meas_lt8 HX.out | (rw [W1]; exact meas_lt8 HX.out)
      · obtain rfl : i = n := by omega
        have ib : ¬ ((i : Nat) : Int) < (i : Int) := by omega
        have HF : Hid (Rw wr gg N (pm 285 f g) ∧ Below w.heap.size w wr) := ⟨hrw.congr (fun j _ => pac8_end HT.out.2.1 j), HB.out.1.trans (hkp.below (by have := HB.out; omega) HB.out.1.size)⟩
        clear hrw hkp hlt hi hfk hgk
        go_wp2
        go_ret
        have e : N = i - 1 + (m - 1) + 1 := by have := HB.out; omega
        have hD : Dg (pm 285 f g) N := (fld8.dg_pm HT.out.2.1 HT.out.2.2.1).mono (by have := HB.out; omega)
        refine ⟨_, rfl, N, ⟨HF.out.1.rb0, hD, fld8.el_pm _ _, .inr ?_⟩, by have := HB.out; omega, HF.out.2⟩
        have e2 : N - 1 = i - 1 + (m - 1) := by omega
        have hi1 : i - 1 + 1 = i := by have := HB.out; omega
        have hm1 : m - 1 + 1 = m := by have := HB.out; omega
        rw [e2, fld8.top_pm (by rw [hi1]; exact HT.out.2.1) (by rw [hm1]; exact HT.out.2.2.1)]
        exact fld8.fm_ne (HT.out.2.2.2.1 _) (HT.out.2.2.2.2.1 _) HT.out.2.2.2.2.2.1 HT.out.2.2.2.2.2.2
end Go.Proofs.Ytfhgamaakkoplaa
namespace Go.Proofs.Ytfhgamaakkoplaa
open Go.RowKit Gf2
set_option linter.unusedVariables false

-- layer 4: sums
/-- i of the sum's steps. -/
def xrow (F G : Nat → Nat) (i j : Nat) : Nat := if j < i then F j ^^^ G j else F j
theorem xrow_step (F G : Nat → Nat) (i j : Nat) : (if j = i then F i ^^^ G i else xrow F G i j) = xrow F G (i + 1) j := by
  unfold xrow
  by_cases e : j = i
  · rw [if_pos e, if_pos (by omega), e]
  · rw [if_neg e]
    by_cases e2 : j < i
    · rw [if_pos e2, if_pos (by omega)]
    · rw [if_neg e2, if_neg (by omega)]
theorem xrow_end {F G : Nat → Nat} {n : Nat} (h : Dg G n) (j : Nat) : xrow F G n j = pa F G j := by
  unfold xrow
  show _ = F j ^^^ G j
  by_cases e : j < n
  · rw [if_pos e]
  · rw [if_neg e, h j (by omega), Nat.xor_zero]
set_option maxHeartbeats 4000000 in
set_option maxRecDepth 100000 in
theorem sum8 (n m : Nat) (v u : Value) (f g : Nat → Nat) (w : World) (hf : Pl8 w v n f) (hg : Pl8 w u m g) (hn : n ≤ 1000) (hm : m ≤ 1000) :
    Calls Try.prog 64 #[v, u] w fun e w' => ∃ x l, e = .returned x ∧ Pl8 w' x l (pa f g) ∧ l ≤ max n m ∧ Below w.heap.size w w' := by
  obtain ⟨va, vc, rfl, -⟩ := rb_slice8 hf.rb
  obtain ⟨ua, uc, rfl, -⟩ := rb_slice8 hg.rb
  by_cases hsw : n < m
  · have iS : ((n : Nat) : Int) < (m : Int) := by omega
    have c1 := copied8 (.slice ua m uc) m g w hg.rb (by omega)
    have hS4 : 0 < n → ∃ b o, va = some ⟨b, o, none⟩ ∧ b < w.heap.size ∧ ∀ i, i < n → w.cell? ⟨b, o + i, none⟩ = some (.int .u8 (f i : Nat)) := by
      obtain ⟨-, -, a, c, e, -, -, h4⟩ := hf.rb
      cases e
      exact h4
    have HT : Hid (Dg g m ∧ Dg f n ∧ Gf2.El 8 g ∧ Gf2.El 8 f ∧ n ≤ m ∧ m ≤ 1000) := ⟨hg.dg, hf.dg, hg.el, hf.el, by omega, by omega⟩
    clear hf hg hn hm
    go_enter Try.func64, Try.ntmps64
    go_wp2_with (go_at_call 49; (with_reducible refine c1.mono ?_); rintro e w3 ⟨rfl, hR3, hb3⟩; clear c1)
    obtain ⟨gg, hgg⟩ : ∃ gg, Hid (w.heap.size = gg) := ⟨_, rfl⟩
    have HB : Hid (Below w.heap.size w w3 ∧ w.heap.size = gg) := ⟨hb3, hgg.out⟩
    have hS3 : 0 < n → ∃ b o, va = some ⟨b, o, none⟩ ∧ b < w3.heap.size ∧ b ≠ gg ∧ ∀ i, i < n → w3.cell? ⟨b, o + i, none⟩ = some (.int .u8 (f i : Nat)) := fun h0 => by
      obtain ⟨b, o, e, hl, hc⟩ := hS4 h0
      exact ⟨b, o, e, Nat.lt_of_lt_of_le hl hb3.size, by have := hgg.out; omega, fun i hi => (hb3.cell (p := ⟨b, o + i, none⟩) hl).trans (hc i hi)⟩
    rw [hgg.out] at hR3 ⊢
    clear hb3 hS4
    go_loopw [19] (fun s wr => ∃ i : Nat, i ≤ n ∧ s = .int .i64 (i : Int) ∧ Kp gg w3 wr ∧ Rw wr gg m (xrow g f i)) (fun s _ => n - (intOf s).toNat)
    case atStart => exact ⟨0, Nat.zero_le _, rfl, Kp.refl _ _, hR3.congr (fun j _ => rfl)⟩
    case round =>
      obtain ⟨i, hi, rfl, hkp, hrw⟩ := hrel
      clear hR3
      by_cases hlt : i < n
      · obtain ⟨b, o, rfl, hbl, hbg, hc⟩ := hS3 (by omega)
        have q1 : wr.cell? ⟨b, o + i, none⟩ = some (.int .u8 (f i : Nat)) := (hkp.cell (q := o + i) hbl hbg).trans (hc i hlt)
        have q2 : wr.cell? ⟨gg, i, none⟩ = some (.int .u8 (g i : Nat)) := by
          have := hrw.2.2.cell (i := i) (by have := HT.out; omega)
          unfold xrow at this
          rw [if_neg (Nat.lt_irrefl _)] at this
          exact this
        have q3 := hrw.2.2.frozen i
        have X := u8_xor_nat (g i) (f i) (HT.out.2.2.1 i) (HT.out.2.2.2.1 i)
        have HC : Hid (i < n ∧ Kp gg w3 (wr.setCell ⟨gg, i, none⟩ (.int .u8 ((g i ^^^ f i : Nat) : Int))) ∧ Rw (wr.setCell ⟨gg, i, none⟩ (.int .u8 ((g i ^^^ f i : Nat) : Int))) gg m (xrow g f (i + 1))) :=
          ⟨hlt, hkp.setCell _ _, (hrw.set i _ (Nat.xor_lt_two_pow (n := 8) (HT.out.2.2.1 i) (HT.out.2.2.2.1 i))).congr (fun j _ => xrow_step _ _ i j)⟩
        have ib : ((i : Nat) : Int) < (n : Int) := Int.ofNat_lt.2 hlt
        have iL : ((i : Nat) : Int) < (m : Int) := by have := HT.out; omega
        have W1 := wrap_lt8 (j := i) (b := n) hlt (by have := HT.out; omega)
        generalize g i ^^^ f i = Y at X HC
        generalize g i = y1 at q2 X
        generalize f i = y2 at q1 X
        clear hrw hkp hc hbl hbg hlt hi hS3
        go_wp2
        go_roundw
        case rel => first | exact ⟨i + 1, HC.out.1, by first | rfl | (rw [W1]; rfl), HC.out.2.1, HC.out.2.2⟩ | ((try rw [W1]); (repeat apply Exists.intro); exact ⟨⟨i + 1, HC.out.1, rfl, HC.out.2.1, HC.out.2.2⟩, rfl⟩)
        case measure => first | exact meas_lt8 HC.out.1 | (rw [W1]; exact meas_lt8 HC.out.1)
      · obtain rfl : i = n := by omega
        have ib : ¬ ((i : Nat) : Int) < (i : Int) := by omega
        have hrw2 : Rw wr gg m (pa g f) := hrw.congr (fun j _ => xrow_end HT.out.2.1 j)
        have c6 := trimmed8 (some ⟨gg, 0, none⟩) m m (pa g f) wr hrw2.rb0 (by have := HT.out; omega)
        have HF : Hid (Rw wr gg m (pa g f) ∧ Below w.heap.size w wr) := ⟨hrw2, HB.out.1.trans (hkp.below (by have := HB.out; omega) HB.out.1.size)⟩
        clear hrw hkp hlt hi hS3 hrw2
        go_wp2_with (go_at_call 50; (with_reducible refine c6.mono ?_); rintro e w9 ⟨d, rfl, hz, q, rfl⟩; clear c6; have HZ : Hid (Nz8 m (pa g f) d) := hz; clear hz)
        go_ret
        refine ⟨_, d, rfl, ?_, by have := HZ.out.le; omega, below_drewN HF.out.2 q⟩
        rw [pa_comm]; exact pl8_of (HF.out.1.drewN q) (HT.out.2.2.1.pa HT.out.2.2.2.1) (HT.out.1.pa (HT.out.2.1.mono HT.out.2.2.2.2.1)) HZ.out
  · have iS : ¬ ((n : Nat) : Int) < (m : Int) := by omega
    have c1 := copied8 (.slice va n vc) n f w hf.rb (by omega)
    have hS4 : 0 < m → ∃ b o, ua = some ⟨b, o, none⟩ ∧ b < w.heap.size ∧ ∀ i, i < m → w.cell? ⟨b, o + i, none⟩ = some (.int .u8 (g i : Nat)) := by
      obtain ⟨-, -, a, c, e, -, -, h4⟩ := hg.rb
      cases e
      exact h4
    have HT : Hid (Dg f n ∧ Dg g m ∧ Gf2.El 8 f ∧ Gf2.El 8 g ∧ m ≤ n ∧ n ≤ 1000) := ⟨hf.dg, hg.dg, hf.el, hg.el, by omega, by omega⟩
    clear hf hg hn hm
    go_enter Try.func64, Try.ntmps64
    go_wp2_with (go_at_call 49; (with_reducible refine c1.mono ?_); rintro e w3 ⟨rfl, hR3, hb3⟩; clear c1)
    obtain ⟨gg, hgg⟩ : ∃ gg, Hid (w.heap.size = gg) := ⟨_, rfl⟩
    have HB : Hid (Below w.heap.size w w3 ∧ w.heap.size = gg) := ⟨hb3, hgg.out⟩
    have hS3 : 0 < m → ∃ b o, ua = some ⟨b, o, none⟩ ∧ b < w3.heap.size ∧ b ≠ gg ∧ ∀ i, i < m → w3.cell? ⟨b, o + i, none⟩ = some (.int .u8 (g i : Nat)) := fun h0 => by
      obtain ⟨b, o, e, hl, hc⟩ := hS4 h0
      exact ⟨b, o, e, Nat.lt_of_lt_of_le hl hb3.size, by have := hgg.out; omega, fun i hi => (hb3.cell (p := ⟨b, o + i, none⟩) hl).trans (hc i hi)⟩
    rw [hgg.out] at hR3 ⊢
    clear hb3 hS4
    go_loopw [19] (fun s wr => ∃ i : Nat, i ≤ m ∧ s = .int .i64 (i : Int) ∧ Kp gg w3 wr ∧ Rw wr gg n (xrow f g i)) (fun s _ => m - (intOf s).toNat)
    case atStart => exact ⟨0, Nat.zero_le _, rfl, Kp.refl _ _, hR3.congr (fun j _ => rfl)⟩
    case round =>
      obtain ⟨i, hi, rfl, hkp, hrw⟩ := hrel
      clear hR3
      by_cases hlt : i < m
      · obtain ⟨b, o, rfl, hbl, hbg, hc⟩ := hS3 (by omega)
        have q1 : wr.cell? ⟨b, o + i, none⟩ = some (.int .u8 (g i : Nat)) := (hkp.cell (q := o + i) hbl hbg).trans (hc i hlt)
        have q2 : wr.cell? ⟨gg, i, none⟩ = some (.int .u8 (f i : Nat)) := by
          have := hrw.2.2.cell (i := i) (by have := HT.out; omega)
          unfold xrow at this
          rw [if_neg (Nat.lt_irrefl _)] at this
          exact this
        have q3 := hrw.2.2.frozen i
        have X := u8_xor_nat (f i) (g i) (HT.out.2.2.1 i) (HT.out.2.2.2.1 i)
        have HC : Hid (i < m ∧ Kp gg w3 (wr.setCell ⟨gg, i, none⟩ (.int .u8 ((f i ^^^ g i : Nat) : Int))) ∧ Rw (wr.setCell ⟨gg, i, none⟩ (.int .u8 ((f i ^^^ g i : Nat) : Int))) gg n (xrow f g (i + 1))) :=
          ⟨hlt, hkp.setCell _ _, (hrw.set i _ (Nat.xor_lt_two_pow (n := 8) (HT.out.2.2.1 i) (HT.out.2.2.2.1 i))).congr (fun j _ => xrow_step _ _ i j)⟩
        have ib : ((i : Nat) : Int) < (m : Int) := Int.ofNat_lt.2 hlt
        have iL : ((i : Nat) : Int) < (n : Int) := by have := HT.out; omega
        have W1 := wrap_lt8 (j := i) (b := m) hlt (by have := HT.out; omega)
        generalize f i ^^^ g i = Y at X HC
        generalize f i = y1 at q2 X
        generalize g i = y2 at q1 X
        clear hrw hkp hc hbl hbg hlt hi hS3
        go_wp2
        go_roundw
        case rel => first | exact ⟨i + 1, HC.out.1, by first | rfl | (rw [W1]; rfl), HC.out.2.1, HC.out.2.2⟩ | ((try rw [W1]); (repeat apply Exists.intro); exact ⟨⟨i + 1, HC.out.1, rfl, HC.out.2.1, HC.out.2.2⟩, rfl⟩)
        case measure => first | exact meas_lt8 HC.out.1 | (rw [W1]; exact meas_lt8 HC.out.1)
      · obtain rfl : i = m := by omega
        have ib : ¬ ((i : Nat) : Int) < (i : Int) := by omega
        have hrw2 : Rw wr gg n (pa f g) := hrw.congr (fun j _ => xrow_end HT.out.2.1 j)
        have c6 := trimmed8 (some ⟨gg, 0, none⟩) n n (pa f g) wr hrw2.rb0 (by have := HT.out; omega)
        have HF : Hid (Rw wr gg n (pa f g) ∧ Below w.heap.size w wr) := ⟨hrw2, HB.out.1.trans (hkp.below (by have := HB.out; omega) HB.out.1.size)⟩
        clear hrw hkp hlt hi hS3 hrw2
        go_wp2_with (go_at_call 50; (with_reducible refine c6.mono ?_); rintro e w9 ⟨d, rfl, hz, q, rfl⟩; clear c6; have HZ : Hid (Nz8 n (pa f g) d) := hz; clear hz)
        go_ret
        refine ⟨_, d, rfl, ?_, by have := HZ.out.le; omega, below_drewN HF.out.2 q⟩
        exact pl8_of (HF.out.1.drewN q) (HT.out.2.2.1.pa HT.out.2.2.2.1) (HT.out.1.pa (HT.out.2.1.mono HT.out.2.2.2.2.1)) HZ.out
end Go.Proofs.Ytfhgamaakkoplaa
