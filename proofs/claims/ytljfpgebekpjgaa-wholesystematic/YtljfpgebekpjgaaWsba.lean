import Derived.Test.YtljfpgebekpjgaaWsaz
import Derived.Deep.RegionHeld
namespace Go.Proofs.Ytljfpgebekpjgaa
open Go.RowKit Gf2
set_option linter.unusedVariables false

-- layer 4: points of which none stands twice; Interpolate
theorem elem_u8p : Try.prog.elem 28 = 5 := by kernel_rfl
theorem size_u8p (W : World) : (sizeOf 5).run Try.prog W = .ok 1 W := by
  have h : (Try.prog.info? 5).map (fun i => i.size) = some 1 := by kernel_rfl
  obtain ⟨i, hi, hs⟩ := Option.map_eq_some_iff.1 h
  simp [sizeOf, typeInfo, hi, hs]
theorem run_head8 (g n cx m : Nat) (hm : m ≤ cx) (W : World) : (Instr.slice 28 (.slice (some ⟨g, 0, none⟩) n cx) none (some (.int .i64 (m : Int))) none).run Try.prog W = .ok (.slice (some ⟨g, 0, none⟩) m cx) W := by
  have hu : Try.prog.underlying 28 = some (.slice (Try.prog.elem 28)) := by rw [elem_u8p]; exact Try.underlying28
  have h := run_slice_h (P := Try.prog) (w := W) 28 (some ⟨g, 0, none⟩) n cx hu .i64 (m : Int) (by omega) (by omega)
  have e : (if cx = 0 then some (⟨g, 0, none⟩ : Addr) else (some (⟨g, 0, none⟩ : Addr)).map (·.add 0)) = some ⟨g, 0, none⟩ := by
    split
    · rfl
    · show some ((⟨g, 0, none⟩ : Addr).add 0) = _
      rw [Addr.add_lit, Nat.add_zero]
  rw [h, elem_u8p, size_u8p]
  simp only [Result.andThen, sliced, Int.toNat_natCast, Nat.zero_mul, Nat.sub_zero, e]
set_option maxHeartbeats 4000000 in
set_option maxRecDepth 100000 in
theorem repeats8 (v : Value) (n : Nat) (F : Nat → Nat) (w : World) (h : Rb w v n F) (up : Up8 n F) (hn : n ≤ 1000) :
    Calls Try.prog 39 #[v] w fun e w' => e = .returned (.bool false) ∧ Below w.heap.size w w' := by
  have c1 := copied8 v n F w h (by omega)
  have HC : Hid (∀ w1, Rw w1 w.heap.size n F → Calls Try.prog 64 #[.slice (some ⟨w.heap.size, 0, none⟩) n n] w1 fun e w' => e = .returned (.tuple #[]) ∧ Below w1.heap.size w1 w') := fun w1 hR => sort8 _ n F w1 hR.rb0 up hn
  clear h
  go_enter Try.func39, Try.ntmps39
  go_wp2_with (first
    | (go_at_call 63; (with_reducible refine c1.mono ?_); rintro e w1 ⟨rfl, hR1, hb1⟩; have c2 := HC.out w1 hR1; clear c1 HC)
    | (go_at_call 64; (with_reducible refine c2.mono ?_); rintro e w2 ⟨rfl, hb2⟩; clear c2))
  have HB : Hid (Below w.heap.size w w2) := hb1.trans (hb2.mono hb1.size)
  have hR2 : Rw w2 w.heap.size n F := hR1.of_block (hb2.block _ hR1.lt)
  obtain ⟨g, hg⟩ : ∃ g, Hid (g = w.heap.size) := ⟨_, rfl⟩
  rw [← hg.out] at hR2 ⊢
  clear hR1 hb1 hb2
  go_loopw [4] (fun s wr => ∃ i q : Nat, 1 ≤ i ∧ s = .int .i64 (i : Int) ∧ Hid (wr = w2.drewN q)) (fun s _ => n - (intOf s).toNat)
  case atStart => exact ⟨1, 0, Nat.le_refl _, rfl, rfl⟩
  case round =>
    obtain ⟨i, q, hi1, rfl, hw⟩ := hrel
    by_cases hlt : i < n
    · obtain ⟨j, hj⟩ : ∃ j, i = j + 1 := ⟨i - 1, by omega⟩
      have q1 : wr.cell? ⟨g, i, none⟩ = some (.int .u8 (F i : Nat)) := by rw [hw.out]; exact hR2.2.2.cell hlt
      have q2 : wr.cell? ⟨g, j, none⟩ = some (.int .u8 (F j : Nat)) := by rw [hw.out]; exact hR2.2.2.cell (by omega)
      have ib : ((i : Nat) : Int) < (n : Int) := Int.ofNat_lt.2 hlt
      have ia : ((j : Nat) : Int) < (n : Int) := by omega
      have W0 : wrap64 (((i : Nat) : Int) - 1) = ((j : Nat) : Int) := by unfold wrap64; omega
      have W1 := wrap_lt8 hlt hn
      have HX : Hid (i < n ∧ 1 ≤ i) := ⟨hlt, hi1⟩
      have ne : ¬ ((F i : Nat) : Int) = ((F j : Nat) : Int) := by have := up j i (by omega) hlt; omega
      have neb : (((F i : Nat) : Int) == ((F j : Nat) : Int)) = false := by simpa using ne
      have nen : ¬ F i = F j := by omega
      generalize F i = x at q1 ne neb nen
      generalize F j = y at q2 ne neb nen
      clear hR2 hn up hlt hj hi1
      go_wp2
      go_quiet (fail)
      go_wp2
      go_roundw
      case rel => exact ⟨i + 1, q + nq, by omega, by first | rfl | (rw [W1]; rfl), by show _ = _; rw [hw.out, World.drewN_drewN]⟩
      case measure => first | exact meas_lt8 HX.out.1 | (rw [W1]; exact meas_lt8 HX.out.1)
    · have ib : ¬ ((i : Nat) : Int) < (n : Int) := by omega
      have HF : Hid (Below w.heap.size w wr) := by show Below _ _ _; rw [hw.out]; exact below_drewN HB.out q
      clear hw hR2 up hn hlt hi1
      go_wp2
      go_ret
      exact ⟨rfl, HF.out⟩
/-- the row while the polynomial is made from the inside out, k of its steps done. -/
theorem nwf_row {pts dd : Nat → Nat} {n k : Nat} (hd : ∀ i, i < n → dd i < 256) (hk : k < n) (j : Nat) : (if j = 0 then widF (pts (n - 1 - k)) (nwf 285 pts dd n k) (k + 1) 0 ^^^ dd (n - 1 - k) else widF (pts (n - 1 - k)) (nwf 285 pts dd n k) (k + 1) j) = nwf 285 pts dd n (k + 1) j := by
  have el := fld8.nwf_el (pts := pts) (dd := dd) hd k (by omega)
  have dgk := fld8.nwf_dg pts dd n k
  show _ = pm 285 (nwf 285 pts dd n k) (px (pts (n - 1 - k))) j ^^^ mo (dd (n - 1 - k)) 0 j
  rw [fld8.pm_px8 el]
  unfold mo widF
  by_cases e : j = 0
  · subst e
    rw [if_pos rfl, if_pos (by omega), if_pos rfl]
  · rw [if_neg e, if_neg e, Nat.xor_zero]
    by_cases e2 : j < k + 1
    · rw [if_pos e2]
    · rw [if_neg e2, if_pos (by omega), dgk (j - 1) (by omega), dgk j (by omega), fld8.zero_fm]; rfl
/-- a polynomial's list: no zero at its end. -/
structure Pl8 (w : World) (v : Value) (n : Nat) (f : Nat → Nat) : Prop where
  rb : Rb w v n f
  dg : Dg f n
  el : Gf2.El 8 f
  top : n = 0 ∨ f (n - 1) ≠ 0
theorem Pl8.below {w w' : World} {v : Value} {n : Nat} {f : Nat → Nat} (h : Pl8 w v n f) (hb : Below w.heap.size w w') : Pl8 w' v n f := ⟨h.rb.below hb, h.dg, h.el, h.top⟩
theorem pl8_of {w : World} {g N d : Nat} {f : Nat → Nat} (hR : Rw w g N f) (el : Gf2.El 8 f) (dg : Dg f N) (hz : Nz8 N f d) : Pl8 w (.slice (some ⟨g, 0, none⟩) d N) d f :=
  ⟨hR.rb0.cut8 hz.le, fun i hi => by
    by_cases e : i < N
    · exact hz.out i hi e
    · exact dg i (by omega), el, hz.top⟩
set_option maxHeartbeats 8000000 in
set_option maxRecDepth 100000 in
theorem interp8_of (r t n : Nat) (pv v : Value) (pts vals dd : Nat → Nat) (w : World) (hr : Rg8 w r t) (hp : Rb w pv n pts) (up : Up8 n pts) (hv : Rb w v n vals) (hn : n ≤ 1000)
    (HC : Hid (∀ w1, Below w.heap.size w w1 → Calls Try.prog 40 #[.pointer (some ⟨r, 0, none⟩), pv, v] w1 fun e w' => e = .returned (.slice (some ⟨w1.heap.size, 0, none⟩) n n) ∧ Rw w' w1.heap.size n dd ∧ Below w1.heap.size w1 w')) :
    Calls Try.prog 13 #[.pointer (some ⟨r, 0, none⟩), pv, v] w fun e w' => ∃ u m, e = .returned (.tuple #[u, .int .i64 0]) ∧ m ≤ n ∧ ((∀ i, i < n → dd i < 256) → Pl8 w' u m (nwf 285 pts dd n n)) ∧ Below w.heap.size w w' := by
  have hsl := rb_slice8 hp
  have hsv := rb_slice8 hv
  have c1 := unfit8 r t n n pv v w hr (by obtain ⟨a, c, e, -⟩ := hsl; exact ⟨a, c, e⟩) (by obtain ⟨a, c, e, -⟩ := hsv; exact ⟨a, c, e⟩) (by omega) (by omega)
  have c2 := repeats8 pv n pts w hp up hn
  obtain ⟨pa0, pc0, rfl, -⟩ := hsl
  obtain ⟨va0, vc0, rfl, -⟩ := hsv
  have hmk := make_u8 n (by omega)
  go_enter Try.func13, Try.ntmps13
  go_wp2_with (first
    | (go_at_call 38; (with_reducible refine c1.mono ?_); rintro e w9 ⟨rfl, hw9⟩; have hw9 := hw9.symm; subst hw9; clear c1)
    | (go_at_call 39; (with_reducible refine c2.mono ?_); rintro e w1 ⟨rfl, hb1⟩; have c3 := HC.out w1 hb1; clear c2 HC)
    | (go_at_call 40; (with_reducible refine c3.mono ?_); rintro e w2 ⟨rfl, hR2, hb2⟩; clear c3))
  obtain ⟨g, hg⟩ : ∃ g, Hid (g = w2.heap.size) := ⟨_, rfl⟩
  obtain ⟨w3, hw3⟩ : ∃ w3, Hid (w2.alloc (.cells (madeCells #[.int .u8 0] n) 5) = w3) := ⟨_, rfl⟩
  have b23 : Below w2.heap.size w2 w3 := by rw [← hw3.out]; exact (Below.refl _ _).alloc (Nat.le_refl _) _
  have hb02 := hb1.trans (hb2.mono hb1.size)
  have hb03 := hb02.trans (b23.mono hb02.size)
  have hR3 : Rw w3 g n (fun _ => 0) := by rw [← hw3.out, hg.out]; exact made_rw n (by omega) w2
  have hr3 := hr.below hb03
  obtain ⟨gd, hgd⟩ : ∃ gd, Hid (gd = w1.heap.size) := ⟨_, rfl⟩
  rw [← hgd.out] at hR2
  have hD3 : Rw w3 gd n dd := hR2.of_block (b23.block _ hR2.lt)
  have hgne : gd ≠ g := by have := hR2.lt; have := hg.out; omega
  have hrne : r ≠ g := by have := hr.lt; have := hb02.size; have := hg.out; omega
  have htne : t ≠ g := by have := hr.tab.lt; have := hb02.size; have := hg.out; omega
  have hP : ∀ i, i < n → pts i < 256 := hp.2.1
  have hp3 : 0 < n → ∃ b o, pa0 = some ⟨b, o, none⟩ ∧ b < w3.heap.size ∧ b ≠ g ∧ ∀ i, i < n → w3.cell? ⟨b, o + i, none⟩ = some (.int .u8 (pts i : Nat)) := fun h0 => by
    obtain ⟨-, -, a, c, e, -, -, h4⟩ := hp
    cases e
    obtain ⟨b, o, e, hl, hc⟩ := h4 h0
    exact ⟨b, o, e, Nat.lt_of_lt_of_le hl hb03.size, by have := hg.out; have := hb02.size; omega, fun i hi => (hb03.cell (p := ⟨b, o + i, none⟩) hl).trans (hc i hi)⟩
  have hdl : ∀ i, i < n → dd i < 256 := hR2.2.1
  have HB : Hid (Below w.heap.size w w3 ∧ w.heap.size ≤ g ∧ n ≤ 1000) := ⟨hb03, by have := hg.out; have := hb02.size; omega, hn⟩
  rw [hw3.out, ← hg.out, ← hgd.out]
  have W0 : wrap64 (((n : Nat) : Int) - 1) = (n : Int) - 1 := by unfold wrap64; omega
  clear hR2 hb1 hb2 b23 hb02 hb03 hr hp hv hw3 hmk hn up
  go_loopw [11] (fun s wr => ∃ k : Nat, k ≤ n ∧ s = .int .i64 ((n : Int) - (k : Int) - 1) ∧ Kp g w3 wr ∧ Rw wr g n (nwf 285 pts dd n k)) (fun s _ => (intOf s + 1).toNat)
  case atStart => exact ⟨0, Nat.zero_le _, by first | rfl | (rw [W0]; simp), Kp.refl _ _, hR3.congr (fun j _ => rfl)⟩
  case round =>
    obtain ⟨k, hk, rfl, hkp, hrw⟩ := hrel
    clear hR3 W0
    by_cases hlt : k < n
    · obtain ⟨b, o, rfl, hbl, hbg, hc⟩ := hp3 (by omega)
      obtain ⟨i, hi⟩ : ∃ i, i = n - 1 - k := ⟨_, rfl⟩
      obtain ⟨L, hL⟩ : ∃ L, L = k + 1 := ⟨_, rfl⟩
      have e1 : ((n : Int) - (k : Int) - 1) = (i : Int) := by omega
      rw [e1]
      have hrg := hr3.kp hkp hrne htne
      have q1 : wr.cell? ⟨b, o + i, none⟩ = some (.int .u8 (pts i : Nat)) := (hkp.cell (q := o + i) hbl hbg).trans (hc i (by omega))
      have c5 := widen8 r t g n L n (pts i) (nwf 285 pts dd n k) wr.drew (hrg.drewN 1) (hrw.drewN 1) hrne htne (by omega) (by omega) (by have := HB.out; omega) (hP i (by omega))
      have HE : Hid (∀ w9, Kp g wr.drew w9 → Rw w9 g n (widF (pts i) (nwf 285 pts dd n k) L) → w9.cell? ⟨b, o + i, none⟩ = some (.int .u8 (pts i : Nat)) ∧ ∃ x y : Nat, w9.cell? ⟨g, 0, none⟩ = some (.int .u8 (x : Nat)) ∧ w9.cell? ⟨gd, i, none⟩ = some (.int .u8 (y : Nat)) ∧ w9.frozen? ⟨g, 0, none⟩ = false ∧ x < 256 ∧ y < 256 ∧ Kp g w3 (w9.setCell ⟨g, 0, none⟩ (.int .u8 ((x ^^^ y : Nat) : Int))) ∧ Rw (w9.setCell ⟨g, 0, none⟩ (.int .u8 ((x ^^^ y : Nat) : Int))) g n (nwf 285 pts dd n (k + 1))) := fun w9 h9 hR9 => by
        have h39 : Kp g w3 w9 := (hkp.drewN 1).trans h9
        refine ⟨(h39.cell (q := o + i) hbl hbg).trans (hc i (by omega)), widF (pts i) (nwf 285 pts dd n k) L 0, dd i, hR9.2.2.cell (i := 0) (by omega), (h39.rw_ hD3 hgne).2.2.cell (i := i) (by omega), hR9.2.2.frozen 0, hR9.2.1 0 (by omega), hdl i (by omega), h39.setCell _ _, (hR9.set 0 _ (Nat.xor_lt_two_pow (n := 8) (hR9.2.1 0 (by omega)) (hdl i (by omega)))).congr (fun j _ => ?_)⟩
        have := nwf_row (pts := pts) (dd := dd) (n := n) (k := k) hdl hlt j
        rw [← hi] at this
        rw [hL]
        exact this
      have HX : Hid (k + 1 ≤ n ∧ (i : Int) - 1 = (n : Int) - ((k + 1 : Nat) : Int) - 1) := ⟨hlt, by omega⟩
      have WL : wrap64 (((n : Nat) : Int) - ((i : Nat) : Int)) = ((L : Nat) : Int) := by have := HB.out; unfold wrap64; omega
      have WLk : IntKind.i64.wrap (((n : Nat) : Int) - ((i : Nat) : Int)) = ((L : Nat) : Int) := by have := HB.out; rw [IntKind.wrap_i64]; omega
      have W1 : wrap64 ((i : Int) - 1) = (i : Int) - 1 := by have := HB.out; unfold wrap64; omega
      have iL : ((L : Nat) : Int) ≤ (n : Int) := by omega
      have iLn : L ≤ n := by omega
      have ii : ((i : Nat) : Int) < (n : Int) := by omega
      have i0 : (0 : Int) < (n : Int) := by omega
      have i0n : 0 < n := by omega
      have s0 := run_head8 g n n L (by omega)
      generalize pts i = x at q1 c5 HE
      clear hrw hkp hrg hc hbl hbg hk hlt hi hL e1 hp3 hD3 hr3 hP hdl
      go_wp2
      go_region_held (fun W => W.cell? ⟨b, o + i, none⟩ = some (.int .u8 (x : Nat))) (first | exact q1 | exact u1) ((go_at_call 41; (with_reducible refine c5.mono ?_); rintro e w9 ⟨rfl, h9, hR9⟩; clear c5; obtain ⟨u1, y0, y1, v0, v1, v2, l0, l1, v3, v4⟩ := HE.out w9 h9 hR9; clear HE h9 hR9))
      have X := u8_xor_nat y0 y1 l0 l1
      have HF : Hid (Kp g w3 (w9.setCell ⟨g, 0, none⟩ (.int .u8 ((y0 ^^^ y1 : Nat) : Int))) ∧ Rw (w9.setCell ⟨g, 0, none⟩ (.int .u8 ((y0 ^^^ y1 : Nat) : Int))) g n (nwf 285 pts dd n (k + 1))) := ⟨v3, v4⟩
      generalize y0 ^^^ y1 = Y at X HF
      clear v3 v4 l0 l1 u1 q1
      go_wp2
      refine region_planT (fun w' => w'.cell? ⟨g, 0, none⟩ = some (.int .u8 (y0 : Nat)) ∧ w'.cell? ⟨gd, i, none⟩ = some (.int .u8 (y1 : Nat))) 8 [8] 63 ⟨v0, v1⟩ (by kernel_rfl) (by kernel_rfl) (fun _ a d v _ h => by cases d <;> exact h) ?_
      refine planT_last ?A2 rfl (fun w' hS => ?s2) rfl ?n2
      case s2 =>
        obtain ⟨z1, z2⟩ := hS
        simp only [List.take_succ_cons, List.take_zero]
        repeat still_step
        exact rfl
      case n2 =>
      simp only [List.drop_succ_cons, List.drop_zero]
      go_wp2
      go_roundw
      case rel => exact ⟨k + 1, HX.out.1, by rw [← HX.out.2]; first | rfl | (rw [W1]), HF.out.1.drewN _, HF.out.2.drewN _⟩
      case measure => simp [intOf]; (try rw [W1]); omega
    · obtain rfl : k = n := by omega
      have e1 : ((k : Int) - (k : Int) - 1) = -1 := by omega
      rw [e1]
      have c6 := trimmed8 (some ⟨g, 0, none⟩) k k (nwf 285 pts dd k k) wr hrw.rb0 (by have := HB.out; omega)
      have HF : Hid (Rw wr g k (nwf 285 pts dd k k) ∧ Below w.heap.size w wr) := ⟨hrw, HB.out.1.trans (hkp.below HB.out.2.1 HB.out.1.size)⟩
      clear hrw hkp hlt hk e1 hp3 hD3 hr3 hP hdl
      go_wp2_with (go_at_call 42; (with_reducible refine c6.mono ?_); rintro e w9 ⟨d, rfl, hz, q, rfl⟩; clear c6; have HZ : Hid (Nz8 k (nwf 285 pts dd k k) d) := hz; clear hz)
      go_ret2
      exact ⟨_, d, rfl, HZ.out.le, fun hd => pl8_of (HF.out.1.drewN q) (fld8.nwf_el hd k (Nat.le_refl _)) (fld8.nwf_dg _ _ _ _) HZ.out, below_drewN HF.out.2 q⟩
/-- Interpolate: the polynomial that Newton's way makes. -/
theorem interp8 (r t n : Nat) (pv v : Value) (pts vals : Nat → Nat) (w : World) (hr : Rg8 w r t) (hp : Rb w pv n pts) (up : Up8 n pts) (hv : Rb w v n vals) (hn : n ≤ 1000) :
    Calls Try.prog 13 #[.pointer (some ⟨r, 0, none⟩), pv, v] w fun e w' => ∃ u m f, e = .returned (.tuple #[u, .int .i64 0]) ∧ m ≤ n ∧ Pl8 w' u m f ∧ (∀ i, i < n → pe 285 (pts i) n f = vals i) ∧ Below w.heap.size w w' := by
  have inj : ∀ i j, i < n → j < n → pts i = pts j → i = j := fun i j hi hj e => by
    rcases Nat.lt_trichotomy i j with h | h | h
    · have := up i j h hj; omega
    · exact h
    · have := up j i h hi; omega
  have hN := fld8.newton (pts := pts) (vals := vals) (n := n) hp.2.1 hv.2.1 inj
  have hd : ∀ i, i < n → (fun i => ddf 285 pts vals i i) i < 256 := fun i hi => by
    have k := fld8.nw (pts := pts) (vals := vals) (n := n) hp.2.1 hv.2.1 inj i i (Nat.le_refl _) hi
    show ddf 285 pts vals i i < 256
    rw [← k.top]; exact k.el _
  refine (interp8_of r t n pv v pts vals (fun i => ddf 285 pts vals i i) w hr hp up hv hn (fun w1 hb => newton8 r t n pv v pts vals w1 (hr.below hb) (hp.below hb) up (hv.below hb) hn)).mono ?_
  rintro e w' ⟨u, m, h1, h2, h3, h4⟩
  exact ⟨u, m, _, h1, h2, h3 hd, hN.2.2, h4⟩
end Go.Proofs.Ytljfpgebekpjgaa
