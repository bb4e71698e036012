import Derived.Test.YtfbgcednodnioabDoorZpe
namespace Go.Proofs.YtfbgcednodnioabDoor
open Go.RowKit Gf2
set_option linter.unusedVariables false

-- layer 22: a read that has its turn
theorem elem_u8_22 : Tryd.prog.elem 28 = 5 := by kernel_rfl
theorem size_u8_22 (W : World) : (sizeOf 5).run Tryd.prog W = .ok 1 W := by
  obtain ⟨i, hi, -, hs, -⟩ := info_u8a
  simp [sizeOf, typeInfo, hi, hs]
theorem run_cut22 (x : Option Addr) (n cx f t : Nat) (hft : f ≤ t) (ht : t ≤ cx) (W : World) :
    (Instr.slice 28 (.slice x n cx) (some (.int .i64 (f : Int))) (some (.int .i64 (t : Int))) none).run Tryd.prog W = .ok (.slice (if cx = f then x else x.map (·.add f)) (t - f) (cx - f)) W := by
  have hu : Tryd.prog.underlying 28 = some (.slice (Tryd.prog.elem 28)) := by rw [elem_u8_22]; exact Tryd.underlying28
  have h := run_slice_lh (P := Tryd.prog) (w := W) 28 x n cx hu .i64 .i64 (f : Int) (t : Int) (by omega) (by omega) (by omega)
  rw [h, elem_u8_22, size_u8_22]
  simp only [Result.andThen, sliced, Int.toNat_natCast, Nat.mul_one]
theorem cut_at22 {x : Option Addr} {cx f t L b o : Nat} (hft : f < t) (ht : t ≤ L) (hL : L ≤ cx) (hx : 0 < L → x = some ⟨b, o, none⟩) : (if cx = f then x else x.map (·.add f)) = some ⟨b, o + f, none⟩ := by
  rw [if_neg (by omega), hx (by omega)]
  show some ((⟨b, o, none⟩ : Addr).add f) = _
  rw [Addr.add_lit]
/-- a piece of a list. -/
theorem Bi.cut {I : Nat → Prop} {w : World} {x : Option Addr} {n cx f t : Nat} {S : Nat → Nat} (h : Bi I w (.slice x n cx) n S) (hft : f ≤ t) (ht : t ≤ n) :
    ∃ a, Bi I w (.slice a (t - f) (cx - f)) (t - f) (fun j => S (f + j)) ∧ ∀ W : World, (Instr.slice 28 (.slice x n cx) (some (.int .i64 (f : Int))) (some (.int .i64 (t : Int))) none).run Tryd.prog W = .ok (.slice a (t - f) (cx - f)) W := by
  obtain ⟨b1, b2, a, c', b3, b5, b6, b4⟩ := h
  cases b3
  refine ⟨_, ⟨by omega, fun i hi => b2 _ (by omega), _, _, rfl, by omega, by omega, fun h0 => ?_⟩, fun W => run_cut22 x n cx f t hft (by omega) W⟩
  obtain ⟨b, o, e, hI, hl, hc⟩ := b4 (by omega)
  exact ⟨b, o + f, cut_at22 (by omega) ht b5 (fun _ => e), hI, hl, fun i hi => by rw [Nat.add_assoc]; exact hc _ (by omega)⟩
/-- how many bytes a read of l gives. -/
def rd22 (l n p : Nat) (fa : Int) (k : Nat) (C : Nat → Int) (t : Nat) : Nat := mo22 (tw22 l k C t) n p fa
theorem tw22_le (l k : Nat) (C : Nat → Int) (t : Nat) : tw22 l k C t ≤ l := by unfold tw22; split <;> omega
theorem mo22_le (x n p : Nat) (fa : Int) : mo22 x n p fa ≤ x ∧ mo22 x n p fa ≤ n - p ∧ (0 ≤ fa → mo22 x n p fa ≤ fa.toNat - p) := by
  unfold mo22
  split
  · exact ⟨by omega, by omega, fun _ => by omega⟩
  · exact ⟨by omega, by omega, fun h => absurd h (by assumption)⟩
set_option maxHeartbeats 4000000 in
set_option maxRecDepth 100000 in
theorem read22_turn {lo hi b n k f p t : Nat} {D : Nat → Nat} {C : Nat → Int} {fa code : Int} (g o N l c0 : Nat) (G : Nat → Nat) (w : World) (h : So lo hi w b n D k C fa code f p t) (hC : ∀ i, i < k → I6x (C i)) (hl : 0 < l) (hp : ¬ (0 ≤ fa ∧ (p : Int) = fa)) (hn : p < n)
    (hR : Rw w g N G) (hoN : o + l ≤ N) (hlb : l ≤ 140737488355328) (hg : g < lo ∨ hi ≤ g) :
    Calls Tryd.prog 13 #[.pointer (some ⟨b, 0, none⟩), .slice (some ⟨g, o, none⟩) l c0] w fun e w' => e = .returned (.tuple #[.int .i64 ((rd22 l n p fa k C t : Nat) : Int), .nilIface]) ∧
      So lo hi w' b n D k C fa code f (p + rd22 l n p fa k C t) (t + 1) ∧ Rw w' g N (pl G o (rd22 l n p fa k C t) (fun i => D (p + i))) ∧ Ke (fun x => x = b ∨ x = g) w w' := by
  have hgb : g ≠ b := by have := h.bl; omega
  have htl := tw22_le l k C t
  have hm := mo22_le (tw22 l k C t) n p fa
  obtain ⟨m, em⟩ : ∃ m, m = rd22 l n p fa k C t := ⟨_, rfl⟩
  rw [← em]
  have em2 : mo22 (tw22 l k C t) n p fa = m := em.symm
  rw [em2] at hm
  obtain ⟨x, ex⟩ : ∃ x, x = tw22 l k C t := ⟨_, rfl⟩
  rw [← ex] at hm htl em2
  have HW : Hid (∀ W : World, Ke (fun x => x = b ∨ x = g) w W → So lo hi W b n D k C fa code f p t → Rw W g N G → ∃ a cap, W.cell? ⟨b, 0, none⟩ = some (.slice a n cap) ∧ W.cell? ⟨b, 1, none⟩ = some (.int .i64 (p : Int)) ∧
      Calls Tryd.prog 23 #[.pointer (some ⟨b, 0, none⟩), .int .i64 (l : Int)] W fun e w1 => e = .returned (.int .i64 (x : Int)) ∧ w1.cell? ⟨b, 0, none⟩ = some (.slice a n cap) ∧ w1.cell? ⟨b, 1, none⟩ = some (.int .i64 (p : Int)) ∧
        Calls Tryd.prog 22 #[.pointer (some ⟨b, 0, none⟩), .int .i64 (x : Int)] w1 fun e w2 => e = .returned (.int .i64 (m : Int)) ∧ w2.cell? ⟨b, 0, none⟩ = some (.slice a n cap) ∧ w2.cell? ⟨b, 1, none⟩ = some (.int .i64 (p : Int)) ∧
          ∃ a', (∀ W : World, (Instr.slice 28 (.slice a n cap) (some (.int .i64 (p : Int))) (some (.int .i64 ((p + m : Nat) : Int))) none).run Tryd.prog W = .ok (.slice a' m (cap - p)) W) ∧
          ∃ w3, (Builtin.copy_ #[28, 28] 3 #[.slice (some ⟨g, o, none⟩) l c0, .slice a' m (cap - p)]).run Tryd.prog w2 = .ok (goInt m) w3 ∧ w3.cell? ⟨b, 1, none⟩ = some (.int .i64 (p : Int)) ∧ w3.frozen? ⟨b, 1, none⟩ = false ∧
          So lo hi (w3.setCell ⟨b, 1, none⟩ (.int .i64 ((p + m : Nat) : Int))) b n D k C fa code f (p + m) (t + 1) ∧ Rw (w3.setCell ⟨b, 1, none⟩ (.int .i64 ((p + m : Nat) : Int))) g N (pl G o m (fun i => D (p + i))) ∧ Ke (fun x => x = b ∨ x = g) w (w3.setCell ⟨b, 1, none⟩ (.int .i64 ((p + m : Nat) : Int)))) := by
    intro W kW hS hr
    obtain ⟨a, cap, c, ccap, fv, hx, hB, hI, hF⟩ := hS.open_
    refine ⟨a, cap, hx.c0, hx.c1, (turn22 l W hS hlb hC).mono fun e w1 ⟨e1, s1, k1, u1⟩ => ⟨by rw [e1, ex], u1 0 _ (by omega) hx.c0, u1 1 _ (by omega) hx.c1, (most22 x w1 s1 (by omega)).mono fun e w2 ⟨e2, mm, hw2⟩ => ?_⟩⟩
    have s2 : So lo hi w2 b n D k C fa code f p (t + 1) := by rw [hw2]; exact s1.drewN mm
    have k2 : Kp b W w2 := by rw [hw2]; exact k1.drewN mm
    have r2 : Rw w2 g N G := k2.rw_ hr hgb
    obtain ⟨a2, cap2, c2, ccap2, fv2, hx2, hB2, hI2, hF2⟩ := s2.open_
    have ea : w2.cell? ⟨b, 0, none⟩ = some (.slice a n cap) := by rw [hw2]; exact u1 0 _ (by omega) hx.c0
    have ep : w2.cell? ⟨b, 1, none⟩ = some (.int .i64 (p : Int)) := by rw [hw2]; exact u1 1 _ (by omega) hx.c1
    have eq2 := hx2.c0.symm.trans ea
    cases eq2
    obtain ⟨a', hB3, hcut⟩ := hB2.cut (f := p) (t := p + m) (Nat.le_add_right _ _) (by have := hm.2.1; omega)
    rw [Nat.add_sub_cancel_left] at hB3 hcut
    refine ⟨by rw [e2, em2], ea, ep, a', hcut, ?_⟩
    obtain ⟨q1, q2, a'', c'', q3, q4, q5, q6⟩ := hB3
    cases q3
    obtain ⟨w3, hrun, r3, o3⟩ := copy8_min w2 r2 (o := o) (dl := l) (cap := c0) (a := a') (m := m) (n := m) (cap' := cap - p) (S := fun i => D (p + i)) q2 (fun h0 => by
      obtain ⟨y, z, e, -, -, hc⟩ := q6 h0
      exact ⟨y, z, e, hc⟩) hoN (Nat.le_trans hm.1 htl) (Nat.le_refl _) (Nat.min_eq_left (Nat.le_trans hm.1 htl))
    clear q1 q2 q4 q5 q6
    have s3 : So lo hi w3 b n D k C fa code f p (t + 1) := s2.keep o3.kp.ke (fun y h1 h2 e => by rw [e] at h1 h2; omega)
    obtain ⟨_, _, _, _, _, hx3, _⟩ := s3.open_
    refine ⟨w3, hrun, hx3.c1, hx3.fz 1, s3.turned ((Kp.refl b w3).setCell 1 _) (by omega) (fun h0 => by have := hm.2.2 h0; have := h.pf h0; omega) (fun dv cv fv e => ?_), (((Kp.refl b w3).setCell 1 _).rw_ r3 hgb), ?_⟩
    · rw [heap_setCell_same w3 b 1 _ _ _ e]
      rfl
    · exact kW.trans ((k2.ke.mono (fun y _ e => .inl e)).trans ((o3.kp.ke.mono (fun y _ e => .inr e)).trans (((Kp.refl b w3).setCell 1 _).ke.mono (fun y _ e => .inl e))))
  obtain ⟨a, cap, c, ccap, fv, hx, hB, hI, hF⟩ := h.open_
  have z0 := hx.c0
  have z1 := hx.c1
  have z4 := hx.c4
  have z5 := hx.c5
  have hl0 : ((l : Int) == 0) = false := beq_eq_false_iff_ne.2 (by omega)
  have hl0N : ¬ l = 0 := by omega
  have hnp : ((p : Int) == (n : Int)) = false := beq_eq_false_iff_ne.2 (by omega)
  have hnpN : ¬ p = n := by omega
  have HQ : Hid (So lo hi w b n D k C fa code f p t ∧ Rw w g N G) := ⟨h, hR⟩
  have HWr : Hid (IntKind.i64.wrap ((p : Int) + (m : Int)) = ((p + m : Nat) : Int) ∧ wrap64 ((p : Int) + (m : Int)) = ((p + m : Nat) : Int)) := by
    have := h.nb
    refine ⟨?_, ?_⟩
    · rw [IntKind.wrap_i64]; omega
    · unfold wrap64; omega
  rcases hF with ⟨hf, rfl⟩ | ⟨hf, rfl, hfb⟩
  · clear h hx hB hI hp hl hf hR hC hn hoN hlb hg hgb htl hm em em2 ex
    go_enter Tryd.func13, Tryd.ntmps13
    go_wp2
    go_quiet (fail)
    revert nq
    intro j1
    go_wp2
    go_quiet (fail)
    go_wp2
    rw [World.drewN_drewN]
    obtain ⟨wz, hwz⟩ : ∃ wz, wz = w.drewN (j1 + nq) := ⟨_, rfl⟩
    rw [← hwz]
    have kz : Ke (fun x => x = b ∨ x = g) w wz.drew := by rw [hwz]; exact ((Ke.refl _ w).drewN _).drewN 1
    obtain ⟨a1, cap1, y0, y1, c1⟩ := HW.out wz.drew kz (by rw [hwz]; exact (HQ.out.1.drewN _).drewN 1) (by rw [hwz]; exact (HQ.out.2.drewN _).drewN 1)
    clear z0 z1 z4 z5 hwz kz HW HQ
    refine region_planJ (fun w' => w'.cell? ⟨b, 0, none⟩ = some (.slice a1 n cap1) ∧ w'.cell? ⟨b, 1, none⟩ = some (.int .i64 (p : Int))) 21 [16, 0, 0, 2] 80 ⟨y0, y1⟩ (by kernel_rfl) (by kernel_rfl) (fun _ a d v _ h => by cases d <;> exact h) ?_
    refine planT_step ?A1 rfl (fun w' hS => ?s1) rfl (fun K hK => ?n1)
    case s1 =>
      obtain ⟨y0, y1⟩ := hS
      simp only [List.take_succ_cons, List.take_zero]
      repeat still_step
      exact rfl
    case n1 =>
    go_simp
    refine hK _ _ ⟨y0, y1⟩ ?_
    clear hK K
    refine planT_step ?A2 rfl (fun w' hS => ?s2) rfl (fun K hK => ?n2)
    case s2 =>
      simp only [List.take_zero]
      exact rfl
    case n2 =>
    go_simp
    go_wp2_with (go_at_call 23; (with_reducible refine c1.mono ?_); rintro e w1 ⟨rfl, y0', y1', c2⟩; clear c1 y0 y1)
    refine hK _ _ ⟨y0', y1'⟩ ?_
    clear hK K
    refine planT_step ?A3 rfl (fun w' hS => ?s3) rfl (fun K hK => ?n3)
    case s3 =>
      simp only [List.take_zero]
      exact rfl
    case n3 =>
    go_simp
    go_wp2_with (go_at_call 22; (with_reducible refine c2.mono ?_); rintro e w2 ⟨rfl, y0, y1, a', hcut, w3, hrun, v1, v2, hG⟩; have HG : Hid _ := hG; clear c2 hG y0' y1')
    refine hK _ _ ⟨y0, y1⟩ ?_
    clear hK K
    obtain ⟨u, hu⟩ : ∃ u, Hid (p + m = u) := ⟨_, rfl⟩
    rw [hu.out] at hcut HG
    have W1 := HWr.out.1
    rw [hu.out] at W1
    refine planT_last ?A4 rfl (fun w' hS => ?s4) rfl ?n4
    case s4 =>
      obtain ⟨y0, y1⟩ := hS
      simp only [List.take_succ_cons, List.take_zero]
      repeat still_step
      exact rfl
    case n4 =>
    simp only [List.drop_succ_cons, List.drop_zero]
    clear W1 y0 y1
    have W2 := HWr.out.2
    rw [hu.out] at W2
    go_wp2
    go_ret2
    rw [hu.out]
    exact ⟨rfl, HG.out⟩
  · have hpf : ((p : Int) == fa) = false := beq_eq_false_iff_ne.2 (fun e => hp ⟨hf, e⟩)
    have hnil : ∀ W : World, Sem.run Tryd.prog (binOp BinOp.neq 51 (Value.pointer (some ⟨f, 0, none⟩)) (Value.pointer none)) W = .ok (.bool true) W := fun W => by kernel_rfl
    clear h hx hB hI hp hl hf hfb hR hC hn hoN hlb hg hgb htl hm em em2 ex
    go_enter Tryd.func13, Tryd.ntmps13
    go_wp2
    go_quiet (fail)
    revert nq
    intro j1
    go_wp2
    go_quiet (fail)
    go_wp2
    rw [World.drewN_drewN]
    obtain ⟨wz, hwz⟩ : ∃ wz, wz = w.drewN (j1 + nq) := ⟨_, rfl⟩
    rw [← hwz]
    have kz : Ke (fun x => x = b ∨ x = g) w wz.drew := by rw [hwz]; exact ((Ke.refl _ w).drewN _).drewN 1
    obtain ⟨a1, cap1, y0, y1, c1⟩ := HW.out wz.drew kz (by rw [hwz]; exact (HQ.out.1.drewN _).drewN 1) (by rw [hwz]; exact (HQ.out.2.drewN _).drewN 1)
    clear z0 z1 z4 z5 hnil hpf hwz kz HW HQ
    refine region_planJ (fun w' => w'.cell? ⟨b, 0, none⟩ = some (.slice a1 n cap1) ∧ w'.cell? ⟨b, 1, none⟩ = some (.int .i64 (p : Int))) 21 [16, 0, 0, 2] 80 ⟨y0, y1⟩ (by kernel_rfl) (by kernel_rfl) (fun _ a d v _ h => by cases d <;> exact h) ?_
    refine planT_step ?BA1 rfl (fun w' hS => ?Bs1) rfl (fun K hK => ?Bn1)
    case Bs1 =>
      obtain ⟨y0, y1⟩ := hS
      simp only [List.take_succ_cons, List.take_zero]
      repeat still_step
      exact rfl
    case Bn1 =>
    go_simp
    refine hK _ _ ⟨y0, y1⟩ ?_
    clear hK K
    refine planT_step ?BA2 rfl (fun w' hS => ?Bs2) rfl (fun K hK => ?Bn2)
    case Bs2 =>
      simp only [List.take_zero]
      exact rfl
    case Bn2 =>
    go_simp
    go_wp2_with (go_at_call 23; (with_reducible refine c1.mono ?_); rintro e w1 ⟨rfl, y0', y1', c2⟩; clear c1 y0 y1)
    refine hK _ _ ⟨y0', y1'⟩ ?_
    clear hK K
    refine planT_step ?BA3 rfl (fun w' hS => ?Bs3) rfl (fun K hK => ?Bn3)
    case Bs3 =>
      simp only [List.take_zero]
      exact rfl
    case Bn3 =>
    go_simp
    go_wp2_with (go_at_call 22; (with_reducible refine c2.mono ?_); rintro e w2 ⟨rfl, y0, y1, a', hcut, w3, hrun, v1, v2, hG⟩; have HG : Hid _ := hG; clear c2 hG y0' y1')
    refine hK _ _ ⟨y0, y1⟩ ?_
    clear hK K
    obtain ⟨u, hu⟩ : ∃ u, Hid (p + m = u) := ⟨_, rfl⟩
    rw [hu.out] at hcut HG
    have W1 := HWr.out.1
    rw [hu.out] at W1
    refine planT_last ?BA4 rfl (fun w' hS => ?Bs4) rfl ?Bn4
    case Bs4 =>
      obtain ⟨y0, y1⟩ := hS
      simp only [List.take_succ_cons, List.take_zero]
      repeat still_step
      exact rfl
    case Bn4 =>
    simp only [List.drop_succ_cons, List.drop_zero]
    clear W1 y0 y1
    have W2 := HWr.out.2
    rw [hu.out] at W2
    go_wp2
    go_ret2
    rw [hu.out]
    exact ⟨rfl, HG.out⟩
end Go.Proofs.YtfbgcednodnioabDoor
