import Derived.Test.YtdolghlphmjcdaaKj9
namespace Go.Proofs.Ytdolghlphmjcdaa.kernelCalls
open Go.RowKit Gf2
set_option linter.unusedVariables false

set_option maxHeartbeats 8000000 in
set_option maxRecDepth 100000 in
theorem walk (a : Option Addr) (len cap : Nat) (w : World) (h : IsOps9 w a len cap) :
    Calls Try.prog 4 #[.slice a len cap] w fun e w' => e = .returned (.bool true) ∧ Below w.heap.size w w' := by
  obtain ⟨hml, h⟩ := h
  unfold maxLen at hml
  have cF := fixed9_any w
  have cS := fun W => sets9_any W
  go_enter Try.func4, Try.ntmps4
  go_wp2_with (first
    | (go_at_call 9; (with_reducible refine cF.mono ?_); rintro e w1 ⟨rfl, hb1⟩; clear cF; have H1 : Hid (Below w.heap.size w w1) := hb1; clear hb1)
    | (go_at_call 14; (with_reducible refine (cS _).mono ?_); rintro e w2 ⟨v, g, cl, P, rfl, hS, hb2⟩; clear cS; have H2 : Hid (Below w.heap.size w w2) := H1.out.trans (hb2.mono H1.out.size); clear hb2; obtain ⟨lo, hi, rfl, s1, s2, s3, s4⟩ := hS))
  go_loopw [14] (fun x wr => ∃ i : Nat, i ≤ len ∧ x = .int .i64 i ∧ Below w2.heap.size w2 wr) (fun x _ => len - (intOf x).toNat)
  case atStart => exact ⟨0, Nat.zero_le _, rfl, Below.refl _ _⟩
  case round =>
    obtain ⟨i, hi2, rfl, hb⟩ := hrel
    by_cases hlt : i < len
    · rcases h with h | ⟨b, off, rfl, hlc, hcm, hbs, hops⟩
      · omega
      · obtain ⟨kind, c, vr, vR, vS, vD, vd, vs, fr, to, hz, hI⟩ := hops i hlt
        obtain ⟨xr, nr, cr, rfl⟩ := hI.row.form
        obtain ⟨xR, nR, cR, rfl⟩ := hI.rows.form
        obtain ⟨xS, nS, cS, rfl⟩ := hI.srcs.form
        obtain ⟨xD, nD, cD, rfl⟩ := hI.dsts.form
        obtain ⟨xd, nd, cd, rfl⟩ := hI.dst.form
        obtain ⟨xs, ns, cs, rfl⟩ := hI.src.form
        have hb0 : Below w.heap.size w wr := H2.out.trans (hb.mono H2.out.size)
        have zc : ∀ j v, (cv9 kind c (.slice xr nr cr) (.slice xR nR cR) (.slice xS nS cS) (.slice xD nD cD) (.slice xd nd cd) (.slice xs ns cs) fr to)[j]? = some v → wr.cell? ⟨b, off + i * 10 + j, none⟩ = some v := fun j v hv => (hb0.cell (p := ⟨b, off + i * 10 + j, none⟩) hbs).trans (hz j v hv)
        have y0 := zc 0 (.int .i64 kind) rfl
        have y1 := zc 1 (.int .u8 (c : Int)) rfl
        have y2 := zc 2 (.slice xr nr cr) rfl
        have y3 := zc 3 (.slice xR nR cR) rfl
        have y4 := zc 4 (.slice xS nS cS) rfl
        have y5 := zc 5 (.slice xD nD cD) rfl
        have y6 := zc 6 (.slice xd nd cd) rfl
        have y7 := zc 7 (.slice xs ns cs) rfl
        have y8 := zc 8 (.int .i64 fr) rfl
        have y9 := zc 9 (.int .i64 to) rfl
        simp only [Nat.add_zero] at y0
        have hil : ((i : Nat) : Int) < (len : Int) := by omega
        have hX := Bx9.new wr kind c (.slice xr nr cr) (.slice xR nR cR) (.slice xS nS cS) (.slice xD nD cD) (.slice xd nd cd) (.slice xs ns cs) fr to
        have bX : Below wr.heap.size wr (wr.alloc (.cells (cv9 kind c (.slice xr nr cr) (.slice xR nR cR) (.slice xS nS cS) (.slice xD nD cD) (.slice xd nd cd) (.slice xs ns cs) fr to) 25)) := (Below.refl _ _).alloc (Nat.le_refl _) _
        have hcv : cv9 kind c (.slice xr nr cr) (.slice xR nR cR) (.slice xS nS cS) (.slice xD nD cD) (.slice xd nd cd) (.slice xs ns cs) fr to = #[.int .i64 kind, .int .u8 (c : Int), .slice xr nr cr, .slice xR nR cR, .slice xS nS cS, .slice xD nD cD, .slice xd nd cd, .slice xs ns cs, .int .i64 fr, .int .i64 to] := rfl
        rw [hcv] at hX bX
        have hr3 : i % 3 < 3 := Nat.mod_lt _ (by decide)
        have e3 : (i : Int).tmod 3 = ((i % 3 : Nat) : Int) := by rw [Int.tmod_eq_emod_of_nonneg (by omega)]; omega
        generalize i % 3 = r at hr3 e3
        have W3 : IntKind.i64.wrap (r : Int) = (r : Int) := by rw [IntKind.wrap_i64]; omega
        have i3 : ((r : Nat) : Int) < 3 := by omega
        have HR : Hid (∀ y, Below (wr.alloc (.cells #[.int .i64 kind, .int .u8 (c : Int), .slice xr nr cr, .slice xR nR cR, .slice xS nS cS, .slice xD nD cD, .slice xd nd cd, .slice xs ns cs, .int .i64 fr, .int .i64 to] 25)).heap.size (wr.alloc (.cells #[.int .i64 kind, .int .u8 (c : Int), .slice xr nr cr, .slice xR nR cR, .slice xS nS cS, .slice xD nD cD, .slice xd nd cd, .slice xs ns cs, .int .i64 fr, .int .i64 to] 25)) y → (y.cell? ⟨g, r, none⟩ = some (.pointer (some (P r))) ∧ Bx9 y wr.heap.size kind c (.slice xr nr cr) (.slice xR nR cR) (.slice xS nS cS) (.slice xD nD cD) (.slice xd nd cd) (.slice xs ns cs) fr to) ∧ Ks y (P r) r (lo r) (hi r) ∧ In9 y c (.slice xr nr cr) (.slice xR nR cR) (.slice xS nS cS) (.slice xD nD cD) (.slice xd nd cd) (.slice xs ns cs) ∧ Below w2.heap.size w2 y) := fun y hy => by
          have h2 : Below w2.heap.size w2 y := hb.trans ((bX.trans (hy.mono bX.size)).mono hb.size)
          have h0 : Below w.heap.size w y := H2.out.trans (h2.mono H2.out.size)
          exact ⟨⟨(h2.cell (p := ⟨g, r, none⟩) s3).trans (s4 r hr3).1, hX.below hy⟩, (s4 r hr3).2.below h2, hI.below h0, h2⟩
        have W1 := wrap_succ8 (j := i) (by unfold big; omega)
        clear hops hz zc
        go_wp2
        clear y0 y1 y2 y3 y4 y5 y6 y7 y8 y9
        clear hX bX hcv hb hb0 hI s4
        generalize wr.alloc (.cells #[.int .i64 kind, .int .u8 (c : Int), .slice xr nr cr, .slice xR nR cR, .slice xS nS cS, .slice xD nD cD, .slice xd nd cd, .slice xs ns cs, .int .i64 fr, .int .i64 to] 25) = X at HR ⊢
        obtain ⟨r1, r2, r3, r4⟩ := HR.out X (Below.refl _ _)
        obtain ⟨t1, t2, t3, t4⟩ := HR.out X.drew (Below.refl _ _).drew
        have c1 : Calls Try.prog 15 #[.pointer (some (P r)), .agg #[.int .i64 kind, .int .u8 (c : Int), .slice xr nr cr, .slice xR nR cR, .slice xS nS cS, .slice xD nD cD, .slice xd nd cd, .slice xs ns cs, .int .i64 fr, .int .i64 to]] X.drew fun e w' => e = .returned (.bool true) ∧ Below X.drew.heap.size X.drew w' := short9_any (P r) r (lo r) (hi r) kind c (.slice xr nr cr) (.slice xR nR cR) (.slice xS nS cS) (.slice xD nD cD) (.slice xd nd cd) (.slice xs ns cs) fr to X.drew t2 t3
        clear t1 t2 t3 t4 r2 r3 r4
        refine region_planI (fun w' => w'.cell? ⟨g, r, none⟩ = some (.pointer (some (P r))) ∧ w'.cell? ⟨wr.heap.size, 0, none⟩ = some (.int .i64 kind) ∧ w'.cell? ⟨wr.heap.size, 1, none⟩ = some (.int .u8 (c : Int)) ∧ w'.cell? ⟨wr.heap.size, 2, none⟩ = some (.slice xr nr cr) ∧ w'.cell? ⟨wr.heap.size, 3, none⟩ = some (.slice xR nR cR) ∧ w'.cell? ⟨wr.heap.size, 4, none⟩ = some (.slice xS nS cS) ∧ w'.cell? ⟨wr.heap.size, 5, none⟩ = some (.slice xD nD cD) ∧ w'.cell? ⟨wr.heap.size, 6, none⟩ = some (.slice xd nd cd) ∧ w'.cell? ⟨wr.heap.size, 7, none⟩ = some (.slice xs ns cs) ∧ w'.cell? ⟨wr.heap.size, 8, none⟩ = some (.int .i64 fr) ∧ w'.cell? ⟨wr.heap.size, 9, none⟩ = some (.int .i64 to)) [0, 1, 2, 3, 4, 5, 6, 7, 8, 9, 10, 11, 12, 13, 14, 15, 16, 17] [6, 8, 2] 38 ⟨r1.1, r1.2.cell rfl, r1.2.cell rfl, r1.2.cell rfl, r1.2.cell rfl, r1.2.cell rfl, r1.2.cell rfl, r1.2.cell rfl, r1.2.cell rfl, r1.2.cell rfl, r1.2.cell rfl⟩ (by kernel_rfl) (by kernel_rfl) (fun _ a d v _ h => by cases d <;> exact h) ?_
        simp only [atI, List.getElem?_cons_zero, List.getElem?_cons_succ]
        clear r1
        refine planH_step ?A1 rfl (fun w' hS => ?s1) rfl (fun K hK => ?n1)
        case s1 =>
          obtain ⟨z0, z1, z2, z3, z4, z5, z6, z7, z8, z9, z10⟩ := hS
          simp only [List.take_succ_cons, List.take_zero]
          repeat still_step
          exact rfl
        case n1 =>
        go_simp
        go_wp2_with (go_at_call 15; (with_reducible refine c1.mono ?_); rintro e x1 ⟨rfl, bb⟩)
        clear c1
        have b1 := bb.undraw
        clear bb
        obtain ⟨r1, r2, r3, r4⟩ := HR.out x1 b1
        have c2 : Calls Try.prog 16 #[.pointer (some (P r)), .agg #[.int .i64 kind, .int .u8 (c : Int), .slice xr nr cr, .slice xR nR cR, .slice xS nS cS, .slice xD nD cD, .slice xd nd cd, .slice xs ns cs, .int .i64 fr, .int .i64 to]] x1 fun e w' => e = .returned (.bool true) ∧ Below x1.heap.size x1 w' := long9_any (P r) r (lo r) (hi r) kind c (.slice xr nr cr) (.slice xR nR cR) (.slice xS nS cS) (.slice xD nD cD) (.slice xd nd cd) (.slice xs ns cs) fr to x1 r2 r3
        refine hK _ _ ⟨r1.1, r1.2.cell rfl, r1.2.cell rfl, r1.2.cell rfl, r1.2.cell rfl, r1.2.cell rfl, r1.2.cell rfl, r1.2.cell rfl, r1.2.cell rfl, r1.2.cell rfl, r1.2.cell rfl⟩ ?_
        clear hK K r1 r2 r3 r4
        refine planH_step ?A2 rfl (fun w' hS => ?s2) rfl (fun K hK => ?n2)
        case s2 =>
          obtain ⟨z0, z1, z2, z3, z4, z5, z6, z7, z8, z9, z10⟩ := hS
          simp only [List.take_succ_cons, List.take_zero]
          repeat still_step
          exact rfl
        case n2 =>
        go_simp
        go_wp2_with (go_at_call 16; (with_reducible refine c2.mono ?_); rintro e x2 ⟨rfl, bb⟩)
        clear c2
        have b2 := b1.trans (bb.mono b1.size)
        clear bb
        obtain ⟨r1, r2, r3, r4⟩ := HR.out x2 b2
        refine hK _ _ ⟨r1.1, r1.2.cell rfl, r1.2.cell rfl, r1.2.cell rfl, r1.2.cell rfl, r1.2.cell rfl, r1.2.cell rfl, r1.2.cell rfl, r1.2.cell rfl, r1.2.cell rfl, r1.2.cell rfl⟩ ?_
        clear hK K r1 r2 r3
        have H5 : Hid (Below w2.heap.size w2 x2) := r4
        clear r4 b1 b2
        refine planH_last ?A3 rfl (fun w' hS => ?s3) rfl ?n3
        case s3 =>
          simp only [List.take_succ_cons, List.take_zero]
          repeat still_step
          exact rfl
        case n3 =>
        go_wp2
        go_roundw
        case rel => exact ⟨i + 1, hlt, by first | rfl | (rw [W1]; rfl), H5.out⟩
        case measure => first | exact meas_lt8 hlt | (rw [W1]; exact meas_lt8 hlt)
    · clear h
      have HB : Hid (Below w.heap.size w wr) := H2.out.trans (hb.mono H2.out.size)
      have hil : ¬ ((i : Nat) : Int) < (len : Int) := by omega
      clear s4 hb
      go_wp2
      go_ret
      exact ⟨rfl, HB.out⟩
end Go.Proofs.Ytdolghlphmjcdaa.kernelCalls
