import Derived.Test.YtaoapplbcgflmaaGreatMlbx
import Derived.Test.YtaoapplbcgflmaaGreatMlbw
namespace Go.Proofs.YtaoapplbcgflmaaGreat
open Go.RowKit Gf2
set_option linter.unusedVariables false

-- layer 17: McodeLists, lists of lists that grow; lists of numbers held against each other
theorem row_ty17 {w : World} {g n1 n2 : Nat} {t1 t2 : TypeId} {f1 f2 : Nat → Value} (h : w.rowIs g t1 n1 f1) (k : w.rowIs g t2 n2 f2) : t1 = t2 := by
  obtain ⟨A, hA, -⟩ := h
  obtain ⟨B, hB, -⟩ := k
  rw [hA] at hB
  cases hB
  rfl
theorem elm_li17 : Elm 40 28 (.slice none 0 0) 24 := by
  refine ⟨Tryz.underlying28, ?_, rfl, by decide⟩
  have h : (Tryz.prog.info? 40).map (fun i => (i.zero, i.size, i.bytes)) = some (some (Value.slice none 0 0), 1, 24) := by kernel_rfl
  obtain ⟨i, hi, hz⟩ := Option.map_eq_some_iff.1 h
  simp only [Prod.mk.injEq] at hz
  exact ⟨i, hi, hz.1, hz.2.1, hz.2.2⟩
theorem appv_nil {te ts : TypeId} {z : Value} {bb : Nat} (E : Elm te ts z bb) (w : World) {x : Option Addr} {n cx : Nat} {S : Nat → Value} (h0 : 0 < n) (h1 : ∀ i, i < n → (S i).oneCell' = true)
    (h4 : ∃ b p, x = some ⟨b, p, none⟩ ∧ ∀ i, i < n → w.cell? ⟨b, p + i, none⟩ = some (S i)) (hn : n * bb ≤ 140737488355328) :
    ∃ w' C' F', (Builtin.append_ #[ts, ts] ts #[.slice none 0 0, .slice x n cx]).run Tryz.prog w = .ok (.slice (some ⟨w.heap.size, 0, none⟩) n C') w' ∧
      n ≤ C' ∧ w'.rowIs w.heap.size te C' F' ∧ (∀ i, i < n → F' i = S i) ∧ w'.heap.size = w.heap.size + 1 ∧ Below w.heap.size w w' := by
  obtain ⟨ti, hi, hz, hs1, hb1⟩ := E.info
  have hu := E.und
  have hbp := E.pos
  have hnb : n ≤ n * bb := Nat.le_mul_of_pos_right _ hbp
  obtain ⟨b, p, rfl, hc⟩ := h4
  have ea : ∀ j, (⟨b, p, none⟩ : Addr).add j = ⟨b, p + j, none⟩ := fun j => by unfold Addr.add; split <;> simp_all
  have hs : Src Tryz.prog ti.size ts (.slice (some ⟨b, p, none⟩) n cx) n (vl n S) w := Src.ofSlice w hu ⟨b, p, none⟩ n cx (vl n S) (by rw [vl_len, hs1, Nat.mul_one]) (fun j u h => by
    have hj : j < n := by
      rcases Nat.lt_or_ge j n with h9 | h9
      · exact h9
      · rw [List.getElem?_eq_none (by rw [vl_len]; exact h9)] at h; cases h
    rw [vl_get n S j hj] at h
    cases h
    rw [ea]
    exact hc j hj) (vl_one h1)
  have hold : (Builtin.firstCells ti.size 0 (.slice none 0 0)).run Tryz.prog w.drew = .ok (([] : List Value)).toArray w.drew := by
    simp [Builtin.firstCells]
  have hrun := run_append_grow_src w ts ts ts te ti z hu hi hz none 0 0 [] hold _ n (vl n S) hs (by omega) (by omega) (growslice_fits (by omega) (by rw [hb1, Nat.zero_add]; exact hn))
  have hge := grownCap_ge w (0 + n) 0 te
  have hcm := grownCap_le_maxLen w (0 + n) 0 te (by unfold maxLen; omega)
  obtain ⟨C', hC'⟩ : ∃ C', C' = grownCap w (0 + n) 0 te := ⟨_, rfl⟩
  rw [← hC'] at hrun hge hcm
  rw [Nat.zero_add] at hrun hge
  refine ⟨_, C', fun i => if i < n then S i else z, hrun, hge, ⟨_, heap_alloc_new _ _, ?_, fun i hi => ?_⟩, fun i hi => if_pos hi, by simp, ?_⟩
  · rw [Array.size_append, List.size_toArray, List.length_append, vl_len, size_zeroCells]
    rw [E.cz]
    show 0 + n + (C' - n) * 1 = C'
    omega
  · show _ = some (if i < n then S i else z)
    rw [List.nil_append]
    by_cases e2 : i < n
    · rw [if_pos e2, Array.getElem?_append_left (by simp [vl_len]; omega), List.getElem?_toArray, vl_get _ _ _ e2]
    · rw [if_neg e2, Array.getElem?_append_right (by simp [vl_len]; omega)]
      have hk : i - ((vl n S).toArray).size < C' - n := by simp [vl_len]; omega
      generalize i - ((vl n S).toArray).size = k at hk
      simp [Builtin.zeroCells, E.cz, hk, Nat.mod_one]
  · exact ((Below.refl w.heap.size w).drew).alloc (by simp) _
/-- a list of one-cell values that grows, in a block from lo on. -/
def Gw17 (te : TypeId) (lo : Nat) (W : World) (v : Value) (L : Nat) (V : Nat → Value) : Prop := (L = 0 ∧ v = .slice none 0 0) ∨ ∃ g C F, v = .slice (some ⟨g, 0, none⟩) L C ∧ L ≤ C ∧ lo ≤ g ∧ W.rowIs g te C F ∧ ∀ i, i < L → F i = V i
theorem Gw17.congr {te : TypeId} {lo : Nat} {W : World} {v : Value} {L : Nat} {V V' : Nat → Value} (h : Gw17 te lo W v L V) (e : ∀ i, i < L → V i = V' i) : Gw17 te lo W v L V' := by
  rcases h with h | ⟨g, C, F, a1, a2, a3, a4, a5⟩
  · exact .inl h
  · exact .inr ⟨g, C, F, a1, a2, a3, a4, fun i hi => (a5 i hi).trans (e i hi)⟩
theorem Gw17.keep {te : TypeId} {lo : Nat} {W W' : World} {v : Value} {L : Nat} {V : Nat → Value} {E : Nat → Prop} (h : Gw17 te lo W v L V) (hk : Ke E W W') (hE : ∀ x C F, E x → W.rowIs x te C F → lo ≤ x → False) : Gw17 te lo W' v L V := by
  rcases h with h | ⟨g, C, F, a1, a2, a3, a4, a5⟩
  · exact .inl h
  · exact .inr ⟨g, C, F, a1, a2, a3, a4.of_block (hk.2 g a4.lt (fun e => hE g C F e a4 a3)), a5⟩
theorem Gw17.form {te : TypeId} {lo : Nat} {W : World} {v : Value} {L : Nat} {V : Nat → Value} (h : Gw17 te lo W v L V) : ∃ a C, v = .slice a L C := by
  rcases h with ⟨rfl, rfl⟩ | ⟨g, C, F, a1, -⟩
  · exact ⟨_, _, rfl⟩
  · exact ⟨_, _, a1⟩
theorem appw17 {te ts : TypeId} {z : Value} {bb : Nat} (E : Elm te ts z bb) {lo : Nat} {W : World} {v : Value} {L : Nat} {V : Nat → Value} (h : Gw17 te lo W v L V) (hlo : lo ≤ W.heap.size) {x : Option Addr} {n cx : Nat} {S : Nat → Value} (h0 : 0 < n) (h1 : ∀ i, i < n → (S i).oneCell' = true)
    (h4 : ∃ b p, x = some ⟨b, p, none⟩ ∧ ∀ i, i < n → W.cell? ⟨b, p + i, none⟩ = some (S i)) (hn : (L + n) * bb ≤ 140737488355328) :
    ∃ w' v', (Builtin.append_ #[ts, ts] ts #[v, .slice x n cx]).run Tryz.prog W = .ok v' w' ∧ Gw17 te lo w' v' (L + n) (fun i => if i < L then V i else S (i - L)) ∧ Ke (fun y => lo ≤ y ∧ ∃ C F, W.rowIs y te C F) W w' := by
  rcases h with ⟨rfl, rfl⟩ | ⟨g, C, F, rfl, a2, a3, a4, a5⟩
  · obtain ⟨w', C', F', hrun, k1, k2, k3, k4, k5⟩ := appv_nil E W h0 h1 h4 (by rw [Nat.zero_add] at hn; exact hn)
    rw [Nat.zero_add]
    refine ⟨w', _, hrun, .inr ⟨_, C', F', rfl, k1, hlo, k2, fun i hi => ?_⟩, ke_below k5 _⟩
    show F' i = if i < 0 then V i else S (i - 0)
    rw [k3 i hi, if_neg (Nat.not_lt_zero _), Nat.sub_zero]
  · obtain ⟨w', g', C', F', hrun, k1, k2, k3, k4, k5⟩ := appv E W a4 a2 (x := x) (n := n) (cx := cx) (S := S) h1 (fun _ => h4) hn
    refine ⟨w', _, hrun, .inr ⟨g', C', F', rfl, k1, ?_, k2, fun i hi => ?_⟩, ?_⟩
    · rcases k5 with ⟨e, -, -⟩ | ⟨e, -, -, -⟩
      · rw [e]; exact a3
      · rw [e]; exact hlo
    · show F' i = if i < L then V i else S (i - L)
      by_cases e : i < L
      · rw [if_pos e, k3 i e, a5 i e]
      · rw [if_neg e, ← k4 (i - L) (by omega), show L + (i - L) = i by omega]
    · rcases k5 with ⟨-, -, ho⟩ | ⟨-, -, -, hb⟩
      · exact ho.kp.ke.mono (fun y _ e => by rw [e]; exact ⟨a3, C, F, a4⟩)
      · exact ke_below hb _
/-- append([]int{}, x...). -/
theorem copy_appi17 (w : World) {x : Option Addr} {n cx : Nat} {S : Nat → Int} (h : Qi w (.slice x n cx) n S) (hn : n ≤ 1000) :
    ∃ w' g C F, (Builtin.append_ #[40, 40] 40 #[.slice (some ⟨w.heap.size, 0, none⟩) 0 0, .slice x n cx]).run Tryz.prog (w.alloc (.cells #[] 3)) = .ok (.slice (some ⟨g, 0, none⟩) n C) w' ∧
      n ≤ C ∧ w.heap.size ≤ g ∧ Ri w' g C F ∧ (∀ i, i < n → F i = S i) ∧ Below w.heap.size w w' := by
  obtain ⟨-, -, a, cap, e, -, -, h4⟩ := h
  cases e
  have b0 : Below w.heap.size w (w.alloc (.cells #[] 3)) := (Below.refl _ _).alloc (Nat.le_refl _) _
  have r0 : Ri (w.alloc (.cells #[] 3)) w.heap.size 0 (fun _ => 0) := ⟨by decide, trivial, _, heap_alloc_new _ _, rfl, fun i hi => absurd hi (Nat.not_lt_zero _)⟩
  have hz : (w.alloc (.cells #[] 3)).heap.size = w.heap.size + 1 := by simp
  obtain ⟨w', g', C', F', hrun, k1, k2, k3, k4, k5⟩ := appi (w.alloc (.cells #[] 3)) r0 (Nat.le_refl 0) (x := x) (n := n) (cx := cx) (S := S) (fun h0 => by
    obtain ⟨b, o, e, hl, hc⟩ := h4 h0
    exact ⟨b, o, e, fun i hi => (b0.cell (p := ⟨b, o + i, none⟩) hl).trans (hc i hi)⟩) (by omega)
  rw [Nat.zero_add] at hrun k1
  refine ⟨w', g', C', F', hrun, k1, ?_, k2, fun i hi => by have := k4 i hi; rw [Nat.zero_add] at this; exact this, ?_⟩
  · rcases k5 with ⟨e, ho⟩ | ⟨e, -, hb⟩ <;> omega
  · rcases k5 with ⟨e, ho⟩ | ⟨e, -, hb⟩
    · exact b0.trans (ho.kp.ke.below (fun x hx => by omega) (by omega))
    · exact b0.trans (hb.mono (by omega))
/-- the numbers below n as a set. -/
theorem rng17 {n t : Nat} (h : n ≤ t) : ems (fun i => decide (i < n)) t = List.range n := by
  induction t with
  | zero =>
    have : n = 0 := by omega
    subst this
    rfl
  | succ t ih =>
    unfold ems at ih ⊢
    rw [List.range_succ, List.filter_append]
    by_cases e : n ≤ t
    · rw [ih e]
      simp; omega
    · have e2 : n = t + 1 := by omega
      subst e2
      rw [List.range_succ]
      congr 1
      · exact List.filter_eq_self.2 (fun a ha => by have := List.mem_range.1 ha; simp; omega)
      · simp
theorem rng_emz17 {n t i : Nat} (h : n ≤ t) (hi : i < n) : emz (fun i => decide (i < n)) t i = (i : Int) := by
  unfold emz
  rw [rng17 h]
  simp [hi]
set_option maxHeartbeats 1000000 in
set_option maxRecDepth 100000 in
theorem same17 (u v : Value) (n : Nat) (E : Nat → Int) (w : World) (hu : Qi w u n E) (hv : Qi w v n E) (hn : n ≤ 1000) :
    Calls Tryz.prog 27 #[u, v] w fun e w' => e = .returned (.bool true) ∧ ∃ q, w' = w.drewN q := by
  obtain ⟨-, -, a, ca, rfl, -, -, h4⟩ := hu
  obtain ⟨-, -, b, cb, rfl, -, -, k4⟩ := hv
  have HH : Hid (n ≤ 1000 ∧ (0 < n → ∃ b o, a = some ⟨b, o, none⟩ ∧ b < w.heap.size ∧ ∀ i, i < n → w.cell? ⟨b, o + i, none⟩ = some (.int .i64 (E i))) ∧ (0 < n → ∃ b' o, b = some ⟨b', o, none⟩ ∧ b' < w.heap.size ∧ ∀ i, i < n → w.cell? ⟨b', o + i, none⟩ = some (.int .i64 (E i)))) := ⟨hn, h4, k4⟩
  clear hn h4 k4
  go_enter Tryz.func27, Tryz.ntmps27
  go_wp2
  go_loopw [5] (fun iv wr => ∃ i : Nat, i ≤ n ∧ iv = .int .i64 i ∧ ∃ q, wr = w.drewN q) (fun iv _ => n - (intOf iv).toNat)
  case atStart => exact ⟨0, Nat.zero_le _, rfl, 0, rfl⟩
  case round =>
    obtain ⟨i, hi, rfl, q, hw⟩ := hrel
    have HW : Hid (wr = w.drewN q) := hw
    by_cases hlt : i < n
    · obtain ⟨b1, o1, rfl, -, z1⟩ := HH.out.2.1 (by omega)
      obtain ⟨b2, o2, rfl, -, z2⟩ := HH.out.2.2 (by omega)
      have q1 : wr.cell? ⟨b1, o1 + i, none⟩ = some (.int .i64 (E i)) := by rw [hw]; exact z1 i hlt
      have q2 : wr.cell? ⟨b2, o2 + i, none⟩ = some (.int .i64 (E i)) := by rw [hw]; exact z2 i hlt
      generalize E i = x at q1 q2
      have ib : ((i : Nat) : Int) < (n : Int) := by omega
      have W1 := wrap_succ8 (j := i) (by have := HH.out.1; unfold big; omega)
      have HX : Hid (i < n) := hlt
      clear z1 z2 hi hlt hw
      go_wp2
      go_quiet (fail)
      go_wp2
      go_roundw
      case rel => exact ⟨i + 1, HX.out, by first | rfl | (rw [W1]; rfl), _, by rw [HW.out]; first | exact World.drewN_drewN _ _ _ | (rw [World.drewN_drewN]; exact World.drewN_drewN _ _ _)⟩
      case measure => first | exact meas_lt8 HX.out | (rw [W1]; exact meas_lt8 HX.out)
    · have htn : ¬ ((i : Nat) : Int) < (n : Int) := by omega
      clear hi hlt hw
      go_wp2
      go_ret
      exact ⟨rfl, q, HW.out⟩
end Go.Proofs.YtaoapplbcgflmaaGreat
namespace Go.Proofs.YtaoapplbcgflmaaGreat
open Go.RowKit Gf2
set_option linter.unusedVariables false

-- layer 17: McodeLists, plans and what becomes of them
/-- a plan in a box. -/
def Bx17 (y : World) (p gm n Cm gu k Cu gd cd : Nat) : Prop := y.heap[p]? = some (.cells #[.slice (some ⟨gm, 0, none⟩) n Cm, .slice (some ⟨gu, 0, none⟩) k Cu, .slice (some ⟨gd, 0, none⟩) n cd, .slice none 0 0] 54 (0, 0))
section
variable {y : World} {p gm n Cm gu k Cu gd cd : Nat}
theorem Bx17.c0 (h : Bx17 y p gm n Cm gu k Cu gd cd) : y.cell? ⟨p, 0, none⟩ = some (.slice (some ⟨gm, 0, none⟩) n Cm) := by rw [cell_of_row _ _ 0 _ _ _ h]; rfl
theorem Bx17.c1 (h : Bx17 y p gm n Cm gu k Cu gd cd) : y.cell? ⟨p, 1, none⟩ = some (.slice (some ⟨gu, 0, none⟩) k Cu) := by rw [cell_of_row _ _ 1 _ _ _ h]; rfl
theorem Bx17.c2 (h : Bx17 y p gm n Cm gu k Cu gd cd) : y.cell? ⟨p, 2, none⟩ = some (.slice (some ⟨gd, 0, none⟩) n cd) := by rw [cell_of_row _ _ 2 _ _ _ h]; rfl
theorem Bx17.c3 (h : Bx17 y p gm n Cm gu k Cu gd cd) : y.cell? ⟨p, 3, none⟩ = some (.slice none 0 0) := by rw [cell_of_row _ _ 3 _ _ _ h]; rfl
theorem Bx17.lt (h : Bx17 y p gm n Cm gu k Cu gd cd) : p < y.heap.size := (Array.getElem?_eq_some_iff.1 h).1
theorem Bx17.ke {y' : World} {E : Nat → Prop} (h : Bx17 y p gm n Cm gu k Cu gd cd) (hk : Ke E y y') (hE : ¬ E p) : Bx17 y' p gm n Cm gu k Cu gd cd := (hk.2 p h.lt hE).trans h
theorem Bx17.below {y' : World} (h : Bx17 y p gm n Cm gu k Cu gd cd) (hb : Below y.heap.size y y') : Bx17 y' p gm n Cm gu k Cu gd cd := h.ke (ke_below hb (fun _ => False)) (fun e => e)
end
/-- the value of a plan. -/
abbrev pv17 (gm n Cm gu k Cu gd cd : Nat) : Value := .agg #[.slice (some ⟨gm, 0, none⟩) n Cm, .slice (some ⟨gu, 0, none⟩) k Cu, .slice (some ⟨gd, 0, none⟩) n cd, .slice none 0 0]
/-- q plans, the p-th made by a call that found z p blocks and left z' p. -/
structure Lp17 (W y : World) (c : Nat) (f : Int) (k m b n q s0 : Nat) (Pp : Nat → Nat → Bool) (z z' gm Cm gu Cu dlo dhi gd cd : Nat → Nat) (DC DB : Nat → Nat → Nat) : Prop where
  pl : ∀ p, p < q → Pm17 y (pv17 (gm p) n (Cm p) (gu p) k (Cu p) (gd p) (cd p)) (gm p) (Cm p) (gu p) (Cu p) (dlo p) (dhi p) (.slice (some ⟨gd p, 0, none⟩) n (cd p)) (DC p) (DB p) f k m (Pp p)
  iv : ∀ p, p < q → (z p ≤ gm p ∧ gm p < z' p) ∧ (z p ≤ gu p ∧ gu p < z' p) ∧ z p ≤ dlo p ∧ dhi p ≤ z' p ∧ s0 ≤ z p ∧ z p ≤ z' p ∧ z' p ≤ y.heap.size
  od : ∀ p r, p < r → r < q → z' p ≤ z r
  ln : ∀ p, p < q → (ems (Pp p) (k + m)).length = n
  co : ∃ Fp N L, Cd y c Fp f k m b N L ∧ N ≤ 256 * q ∧ L.length ≤ q ∧ Ci17 f k m L ∧ (∀ x, Fp x → W.heap.size ≤ x ∧ (x < s0 ∨ ∃ p, p < q ∧ z p ≤ x ∧ x < z' p)) ∧ ∀ p, p < q → ∀ x, Pk17 (gm p) (gu p) (dlo p) (dhi p) x → ¬ Fp x
  bel : Below W.heap.size W y
  sz : W.heap.size ≤ s0 ∧ s0 ≤ y.heap.size
/-- the blocks that plans may turn. -/
def Lz17 (W : World) (q s0 : Nat) (z z' : Nat → Nat) (x : Nat) : Prop := W.heap.size ≤ x ∧ (x < s0 ∨ ∃ p, p < q ∧ z p ≤ x ∧ x < z' p)
section
variable {W y y' : World} {c : Nat} {f : Int} {k m b n q s0 : Nat} {Pp : Nat → Nat → Bool} {z z' gm Cm gu Cu dlo dhi gd cd : Nat → Nat} {DC DB : Nat → Nat → Nat}
theorem Lp17.ke {E : Nat → Prop} (h : Lp17 W y c f k m b n q s0 Pp z z' gm Cm gu Cu dlo dhi gd cd DC DB) (hk : Ke E y y') (hE : ∀ x, E x → s0 ≤ x ∧ ∀ p, p < q → ¬ (z p ≤ x ∧ x < z' p)) : Lp17 W y' c f k m b n q s0 Pp z z' gm Cm gu Cu dlo dhi gd cd DC DB := by
  have hz := hk.size
  have hs := h.sz
  obtain ⟨Fp, N, L, ⟨FT, p, lo, hi, rows, t, hC⟩, c2, c3, c4, c5, c6⟩ := h.co
  refine ⟨fun p hp => (h.pl p hp).ke hk (fun x e ex => ?_), fun p hp => ?_, h.od, h.ln, ⟨Fp, N, L, ⟨_, _, _, _, _, _, hC.ke hk (fun x ex hx => ?_)⟩, c2, c3, c4, c5, c6⟩, h.bel.trans (hk.below (B := W.heap.size) (fun x e => by have := (hE x e).1; omega) h.bel.size), by omega⟩
  · have hi := h.iv p hp
    refine (hE x ex).2 p hp ?_
    rcases e with e | e | e <;> exact ⟨by omega, by omega⟩
  · have := h.iv p hp
    exact ⟨this.1, this.2.1, this.2.2.1, this.2.2.2.1, this.2.2.2.2.1, this.2.2.2.2.2.1, by omega⟩
  · have := hE x ex
    rcases (c5 x hx).2 with e | ⟨p, hp, e⟩
    · omega
    · exact this.2 p hp e
theorem Lp17.below (h : Lp17 W y c f k m b n q s0 Pp z z' gm Cm gu Cu dlo dhi gd cd DC DB) (hb : Below y.heap.size y y') : Lp17 W y' c f k m b n q s0 Pp z z' gm Cm gu Cu dlo dhi gd cd DC DB := h.ke (ke_below hb (fun _ => False)) (fun _ e => e.elim)
theorem plan_step17 (h : Lp17 W y c f k m b n q s0 Pp z z' gm Cm gu Cu dlo dhi gd cd DC DB) (hq : q < 10) (P : Nat → Bool) (hP : (ems P (k + m)).length = n) (n1 : 1 ≤ n) (n2 : n ≤ m) (v : Value) (hv : Qi y v n (emz P (k + m))) :
    Calls Tryz.prog 24 #[.pointer (some ⟨c, 0, none⟩), v] y fun e p => ∃ am aM au aU ad aD, e = .returned (.tuple #[pv17 am n aM au k aU ad aD, .int .i64 0]) ∧ Ke (Lz17 W q s0 z z') y p ∧
      ∃ al ah aC aB, Lp17 W p c f k m b n (q + 1) s0 (up17 Pp q P) (up17 z q y.heap.size) (up17 z' q p.heap.size) (up17 gm q am) (up17 Cm q aM) (up17 gu q au) (up17 Cu q aU) (up17 dlo q al) (up17 dhi q ah) (up17 gd q ad) (up17 cd q aD) (up17 DC q aC) (up17 DB q aB) := by
  obtain ⟨Fp, N, L, ⟨FT, p, lo, hi, rows, t, hC⟩, c2, c3, c4, c5, c6⟩ := h.co
  subst hP
  refine (plan17_room hC P n1 n2 v hv c4 (by omega) (by omega)).mono ?_
  rintro e w' ⟨pl, rfl, hP⟩
  obtain ⟨Fp', N', L', am, aM, au, aU, al, ah, d, aC, aB, hpm, hCd, ⟨r1, r2, r3⟩, hFp', ⟨g1, g2, g3⟩, hdis⟩ := hP.ex
  obtain ⟨ad, aD, Fd, hd, hdc, hdi, hdr⟩ := hpm.dl
  have hpl := hpm.eq
  subst hpl
  subst hd
  have kz : Ke (Lz17 W q s0 z z') y w' := hP.ke.mono (fun x _ e => c5 x e)
  refine ⟨am, aM, au, aU, ad, aD, rfl, kz, al, ah, aC, aB, ?_⟩
  have hz := hP.ke.size
  have hs := h.sz
  have hmlt : am < w'.heap.size := by obtain ⟨F, -, a2, -⟩ := hpm.mr; exact a2.lt
  have hult : au < w'.heap.size := by obtain ⟨F, -, a2, -⟩ := hpm.ur; exact a2.lt
  have hdw := hpm.dr.hw
  refine ⟨fun p hp => ?_, fun p hp => ?_, fun p r hp hr => ?_, fun p hp => ?_, ⟨Fp', N', L', hCd, by omega, by omega, r3, fun x hx => ?_, fun p hp x e => ?_⟩, h.bel.trans (hP.ke.below (B := W.heap.size) (fun x e => (c5 x e).1) h.bel.size), by omega⟩
  · by_cases e : p = q
    · subst e
      simp only [up17_at]
      exact hpm
    · simp only [up17_ne _ _ e]
      exact (h.pl p (by omega)).ke hP.ke (fun x ex => c6 p (by omega) x ex)
  · by_cases e : p = q
    · subst e
      simp only [up17_at]
      exact ⟨⟨g1, hmlt⟩, ⟨g2, hult⟩, g3, hdw, hs.2, hz, Nat.le_refl _⟩
    · simp only [up17_ne _ _ e]
      have := h.iv p (by omega)
      exact ⟨this.1, this.2.1, this.2.2.1, this.2.2.2.1, this.2.2.2.2.1, this.2.2.2.2.2.1, by omega⟩
  · have e1 : p ≠ q := by omega
    rw [up17_ne _ _ e1]
    by_cases e : r = q
    · subst e
      rw [up17_at]
      exact (h.iv p (by omega)).2.2.2.2.2.2
    · rw [up17_ne _ _ e]
      exact h.od p r hp (by omega)
  · by_cases e : p = q
    · subst e; rw [up17_at]
    · rw [up17_ne _ _ e]; exact h.ln p (by omega)
  · have hlt : x < w'.heap.size := by
      obtain ⟨FT2, p2, lo2, hi2, rows2, t2, hC2⟩ := hCd
      exact hC2.lt x hx
    rcases hFp' x hx with e | e
    · refine ⟨(c5 x e).1, ?_⟩
      rcases (c5 x e).2 with e | ⟨p, hp, e1, e2⟩
      · exact .inl e
      · exact .inr ⟨p, by omega, by rw [up17_ne _ _ (by omega)]; exact e1, by rw [up17_ne _ _ (by omega)]; exact e2⟩
    · exact ⟨by omega, .inr ⟨q, Nat.lt_succ_self _, by rw [up17_at]; exact e, by rw [up17_at]; exact hlt⟩⟩
  · by_cases e1 : p = q
    · subst e1
      simp only [up17_at] at e
      exact hdis x e
    · simp only [up17_ne _ _ e1] at e
      intro hx
      have hi := h.iv p (by omega)
      have hxy : x < y.heap.size := by
        rcases e with e | e | e <;> omega
      rcases hFp' x hx with e2 | e2
      · exact c6 p (by omega) x e e2
      · omega
end
end Go.Proofs.YtaoapplbcgflmaaGreat
namespace Go.Proofs.YtaoapplbcgflmaaGreat
open Go.RowKit Gf2
set_option linter.unusedVariables false

-- layer 17: McodeLists, three plans
abbrev n3 {α : Type} (d a b c : α) : Nat → α := up17 (up17 (up17 (fun _ => d) 0 a) 1 b) 2 c
/-- the cells of a plan's box. -/
abbrev pc17 (gm n Cm gu k Cu gd cd : Nat) : Array Value := #[.slice (some ⟨gm, 0, none⟩) n Cm, .slice (some ⟨gu, 0, none⟩) k Cu, .slice (some ⟨gd, 0, none⟩) n cd, .slice none 0 0]
/-- what there is behind the third plan. -/
structure Lq17 (W v0 p1 q1 p2 q4 p3 q5 : World) (c : Nat) (f : Int) (k m b n s0 gv Cv go Co : Nat) (Fv : Nat → Int) (Q : Nat → Bool) (am aM au aU ad aD bm bM bu bU bd bD dm dM du dU dd dD : Nat) : Prop where
  lp : ∃ al ah bl bh dl dh aC aB bC bB dC dB, Lp17 W q5 c f k m b n 3 s0 (n3 Q Q Q (fun i => decide (i < n))) (n3 0 v0.heap.size q1.heap.size q4.heap.size) (n3 0 p1.heap.size p2.heap.size p3.heap.size) (n3 0 am bm dm) (n3 0 aM bM dM) (n3 0 au bu du) (n3 0 aU bU dU) (n3 0 al bl dl) (n3 0 ah bh dh) (n3 0 ad bd dd) (n3 0 aD bD dD) (n3 (fun _ => 0) aC bC dC) (n3 (fun _ => 0) aB bB dB)
  xa : Bx17 q5 p1.heap.size am n aM au k aU ad aD
  xb : Bx17 q5 p2.heap.size bm n bM bu k bU bd bD
  xd : Bx17 q5 p3.heap.size dm n dM du k dU dd dD
  od : ∃ Fo, Ri q5 go Co Fo ∧ n ≤ Co ∧ ∀ i, i < n → Fo i = emz Q (k + m) i
  gw : Ri q5 gv Cv (fun y => if y < n then (y : Int) else Fv y)
  sz : s0 ≤ gv ∧ gv < v0.heap.size ∧ v0.heap.size ≤ p1.heap.size ∧ q1.heap.size = p1.heap.size + 1 ∧ q1.heap.size ≤ p2.heap.size ∧ p2.heap.size < go ∧ go < q4.heap.size ∧ q4.heap.size ≤ p3.heap.size ∧ p3.heap.size < q5.heap.size
set_option maxHeartbeats 4000000 in
theorem lists_a17 {W v0 : World} {c : Nat} {f : Int} {k m b n s0 gv Cv : Nat} {Fv : Nat → Int} {Q : Nat → Bool} (h : Lp17 W v0 c f k m b n 0 s0 (fun _ => Q) (fun _ => 0) (fun _ => 0) (fun _ => 0) (fun _ => 0) (fun _ => 0) (fun _ => 0) (fun _ => 0) (fun _ => 0) (fun _ => 0) (fun _ => 0) (fun _ _ => 0) (fun _ _ => 0))
    (hg : Ri v0 gv Cv Fv) (hgs : s0 ≤ gv) (hc : n ≤ Cv) (hF : ∀ i, i < n → Fv i = emz Q (k + m) i) (hQ : (ems Q (k + m)).length = n) (n1 : 1 ≤ n) (n2 : n ≤ m) (hs : k + m ≤ 256) :
    Calls Tryz.prog 24 #[.pointer (some ⟨c, 0, none⟩), .slice (some ⟨gv, 0, none⟩) n Cv] v0 fun e p1 => ∃ am aM au aU ad aD, e = .returned (.tuple #[pv17 am n aM au k aU ad aD, .int .i64 0]) ∧ ∀ q1, p1.alloc (.cells (pc17 am n aM au k aU ad aD) 54) = q1 →
    Calls Tryz.prog 24 #[.pointer (some ⟨c, 0, none⟩), .slice (some ⟨gv, 0, none⟩) n Cv] q1 fun e p2 => ∃ bm bM bu bU bd bD, e = .returned (.tuple #[pv17 bm n bM bu k bU bd bD, .int .i64 0]) ∧ ∀ q2, p2.alloc (.cells (pc17 bm n bM bu k bU bd bD) 54) = q2 →
    ∃ q3 go Co, (Builtin.append_ #[40, 40] 40 #[.slice (some ⟨p2.heap.size + 1, 0, none⟩) 0 0, .slice (some ⟨gv, 0, none⟩) n Cv]).run Tryz.prog (q2.alloc (.cells #[] 3)) = .ok (.slice (some ⟨go, 0, none⟩) n Co) q3 ∧ Ri q3 gv Cv Fv ∧
    ∀ q4, Only gv q3 q4 → Ri q4 gv Cv (fun y => if y < n then (y : Int) else Fv y) →
    Calls Tryz.prog 24 #[.pointer (some ⟨c, 0, none⟩), .slice (some ⟨gv, 0, none⟩) n Cv] q4 fun e p3 => ∃ dm dM du dU dd dD, e = .returned (.tuple #[pv17 dm n dM du k dU dd dD, .int .i64 0]) ∧ ∀ q5, p3.alloc (.cells (pc17 dm n dM du k dU dd dD) 54) = q5 →
    Lq17 W v0 p1 q1 p2 q4 p3 q5 c f k m b n s0 gv Cv go Co Fv Q am aM au aU ad aD bm bM bu bU bd bD dm dM du dU dd dD := by
  have gl := hg.lt
  refine (plan_step17 h (by decide) Q hQ n1 n2 _ (ri_qi17 hg hc hF)).mono ?_
  rintro e p1 ⟨am, aM, au, aU, ad, aD, rfl, k1, al, ah, aC, aB, h1⟩
  refine ⟨am, aM, au, aU, ad, aD, rfl, fun q1 hq1 => ?_⟩
  have z1 := k1.size
  have b1 : Below p1.heap.size p1 q1 := by rw [← hq1]; exact (Below.refl _ _).alloc (Nat.le_refl _) _
  have s1 : q1.heap.size = p1.heap.size + 1 := by rw [← hq1]; simp
  have x1 : Bx17 q1 p1.heap.size am n aM au k aU ad aD := by show q1.heap[_]? = _; rw [← hq1]; exact heap_alloc_new _ _
  have hg1 : Ri q1 gv Cv Fv := (hg.ke k1 (fun e => by
    rcases e.2 with e | ⟨p, hp, e⟩
    · omega
    · omega)).below b1
  have h1' := h1.below b1
  refine (plan_step17 h1' (by decide) Q hQ n1 n2 _ (ri_qi17 hg1 hc hF)).mono ?_
  rintro e p2 ⟨bm, bM, bu, bU, bd, bD, rfl, k2, bl, bh, bC, bB, h2⟩
  refine ⟨bm, bM, bu, bU, bd, bD, rfl, fun q2 hq2 => ?_⟩
  have z2 := k2.size
  have b2 : Below p2.heap.size p2 q2 := by rw [← hq2]; exact (Below.refl _ _).alloc (Nat.le_refl _) _
  have s2 : q2.heap.size = p2.heap.size + 1 := by rw [← hq2]; simp
  have x2 : Bx17 q2 p2.heap.size bm n bM bu k bU bd bD := by show q2.heap[_]? = _; rw [← hq2]; exact heap_alloc_new _ _
  have n2z : ∀ x, (v0.heap.size ≤ x → p1.heap.size ≤ x) → s0 ≤ x → ¬ Lz17 W (0 + 1) s0 (up17 (fun _ => 0) 0 v0.heap.size) (up17 (fun _ => 0) 0 p1.heap.size) x := fun x hx hx0 e => by
    rcases e.2 with e | ⟨p, hp, e⟩
    · omega
    · have : p = 0 := by omega
      subst this
      rw [up17_at, up17_at] at e
      have := hx e.1
      omega
  have hg2 : Ri q2 gv Cv Fv := (hg1.ke k2 (n2z gv (fun _ => by omega) hgs)).below b2
  have x12 : Bx17 q2 p1.heap.size am n aM au k aU ad aD := (x1.ke k2 (n2z _ (fun _ => Nat.le_refl _) (by have := h.sz; omega))).below b2
  have h2' := h2.below b2
  obtain ⟨q3, go, Co, Fo, hrun, ho1, ho2, ho3, ho4, b3⟩ := copy_appi17 q2 (ri_qi17 hg2 hc hF) (by omega)
  rw [s2] at hrun
  refine ⟨q3, go, Co, hrun, hg2.below b3, fun q4 o4 hg4 => ?_⟩
  have z3 := b3.size
  have z4 := o4.2.1
  have ol := ho3.lt
  have h4 := (h2'.below b3).ke o4.kp.ke (fun x e => by
    have e' : x = gv := e
    refine ⟨by omega, fun p hp => ?_⟩
    by_cases e0 : p = 0
    · subst e0
      show ¬ (v0.heap.size ≤ x ∧ x < p1.heap.size)
      omega
    · have : p = 1 := by omega
      subst this
      show ¬ (q1.heap.size ≤ x ∧ x < p2.heap.size)
      omega)
  have x14 := (x12.below b3).ke o4.kp.ke (fun e => by have e' : p1.heap.size = gv := e; omega)
  have x24 := (x2.below b3).ke o4.kp.ke (fun e => by have e' : p2.heap.size = gv := e; omega)
  have ho34 := o4.ri_ ho3 (by omega)
  refine (plan_step17 h4 (by decide) (fun i => decide (i < n)) (by rw [rng17 (by omega)]; simp) n1 n2 _ (ri_qi17 hg4 hc (fun i hi => by rw [rng_emz17 (by omega) hi]; exact if_pos hi))).mono ?_
  rintro e p3 ⟨dm, dM, du, dU, dd, dD, rfl, k3, dl, dh, dC, dB, h3⟩
  refine ⟨dm, dM, du, dU, dd, dD, rfl, fun q5 hq5 => ?_⟩
  have z5 := k3.size
  have b5 : Below p3.heap.size p3 q5 := by rw [← hq5]; exact (Below.refl _ _).alloc (Nat.le_refl _) _
  have s5 : q5.heap.size = p3.heap.size + 1 := by rw [← hq5]; simp
  have x5 : Bx17 q5 p3.heap.size dm n dM du k dU dd dD := by show q5.heap[_]? = _; rw [← hq5]; exact heap_alloc_new _ _
  have n3z : ∀ x, (v0.heap.size ≤ x → p1.heap.size ≤ x) → (q1.heap.size ≤ x → p2.heap.size ≤ x) → s0 ≤ x → ¬ Lz17 W (0 + 1 + 1) s0 (up17 (up17 (fun _ => 0) 0 v0.heap.size) (0 + 1) q1.heap.size) (up17 (up17 (fun _ => 0) 0 p1.heap.size) (0 + 1) p2.heap.size) x := fun x hx1 hx2 hx0 e => by
    rcases e.2 with e | ⟨p, hp, e⟩
    · omega
    · by_cases e0 : p = 0
      · subst e0
        have e : v0.heap.size ≤ x ∧ x < p1.heap.size := e
        have := hx1 e.1
        omega
      · have : p = 1 := by omega
        subst this
        have e : q1.heap.size ≤ x ∧ x < p2.heap.size := e
        have := hx2 e.1
        omega
  have hsz := h.sz
  exact ⟨⟨al, ah, bl, bh, dl, dh, aC, aB, bC, bB, dC, dB, h3.below b5⟩, (x14.ke k3 (n3z _ (fun _ => Nat.le_refl _) (fun _ => by omega) (by omega))).below b5, (x24.ke k3 (n3z _ (fun _ => by omega) (fun _ => Nat.le_refl _) (by omega))).below b5, x5, ⟨Fo, (ho34.ke k3 (n3z _ (fun _ => by omega) (fun _ => by omega) (by omega))).below b5, ho1, ho4⟩, (hg4.ke k3 (n3z _ (fun _ => by omega) (fun _ => by omega) hgs)).below b5, hgs, gl, z1, s1, z2, by omega, by omega, z5, by omega⟩
end Go.Proofs.YtaoapplbcgflmaaGreat
namespace Go.Proofs.YtaoapplbcgflmaaGreat
open Go.RowKit Gf2
set_option linter.unusedVariables false

-- layer 17: McodeLists, what is asked of the plans
section
variable {W v0 p1 q1 p2 q4 p3 q5 y : World} {c : Nat} {f : Int} {k m b n s0 gv Cv go Co : Nat} {Fv : Nat → Int} {Q : Nat → Bool} {am aM au aU ad aD bm bM bu bU bd bD dm dM du dU dd dD : Nat}
theorem Lq17.below (h : Lq17 W v0 p1 q1 p2 q4 p3 q5 c f k m b n s0 gv Cv go Co Fv Q am aM au aU ad aD bm bM bu bU bd bD dm dM du dU dd dD) (hb : Below q5.heap.size q5 y) : Lq17 W v0 p1 q1 p2 q4 p3 y c f k m b n s0 gv Cv go Co Fv Q am aM au aU ad aD bm bM bu bU bd bD dm dM du dU dd dD := by
  obtain ⟨al, ah, bl, bh, dl, dh, aC, aB, bC, bB, dC, dB, h1⟩ := h.lp
  obtain ⟨Fo, o1, o2, o3⟩ := h.od
  have hz := hb.size
  have hs := h.sz
  exact ⟨⟨al, ah, bl, bh, dl, dh, aC, aB, bC, bB, dC, dB, h1.below hb⟩, h.xa.below hb, h.xb.below hb, h.xd.below hb, ⟨Fo, o1.below hb, o2, o3⟩, h.gw.below hb, hs.1, hs.2.1, hs.2.2.1, hs.2.2.2.1, hs.2.2.2.2.1, hs.2.2.2.2.2.1, hs.2.2.2.2.2.2.1, hs.2.2.2.2.2.2.2.1, by omega⟩
theorem Lq17.qo (h : Lq17 W v0 p1 q1 p2 q4 p3 q5 c f k m b n s0 gv Cv go Co Fv Q am aM au aU ad aD bm bM bu bU bd bD dm dM du dU dd dD) : Qi q5 (.slice (some ⟨go, 0, none⟩) n Co) n (emz Q (k + m)) := by
  obtain ⟨Fo, o1, o2, o3⟩ := h.od
  exact ri_qi17 o1 o2 o3
/-- the three plans. -/
theorem Lq17.pa (h : Lq17 W v0 p1 q1 p2 q4 p3 q5 c f k m b n s0 gv Cv go Co Fv Q am aM au aU ad aD bm bM bu bU bd bD dm dM du dU dd dD) :
    (Qi q5 (.slice (some ⟨am, 0, none⟩) n aM) n (emz Q (k + m)) ∧ Qi q5 (.slice (some ⟨au, 0, none⟩) k aU) k (emz (fun i => !Q i) (k + m)) ∧ Lb q5 (.slice (some ⟨ad, 0, none⟩) n aD) n (fun _ => k) (dec17 f k m Q)) ∧ (Qi q5 (.slice (some ⟨bm, 0, none⟩) n bM) n (emz Q (k + m)) ∧ Qi q5 (.slice (some ⟨bu, 0, none⟩) k bU) k (emz (fun i => !Q i) (k + m)) ∧ Lb q5 (.slice (some ⟨bd, 0, none⟩) n bD) n (fun _ => k) (dec17 f k m Q)) := by
  obtain ⟨al, ah, bl, bh, dl, dh, aC, aB, bC, bB, dC, dB, h1⟩ := h.lp
  have e0 : (ems Q (k + m)).length = n := h1.ln 0 (by decide)
  have h0 : Pm17 q5 (pv17 am n aM au k aU ad aD) am aM au aU al ah (.slice (some ⟨ad, 0, none⟩) n aD) aC aB f k m Q := h1.pl 0 (by decide)
  have h2 : Pm17 q5 (pv17 bm n bM bu k bU bd bD) bm bM bu bU bl bh (.slice (some ⟨bd, 0, none⟩) n bD) bC bB f k m Q := h1.pl 1 (by decide)
  have t1 := h0.qm
  have t2 := h0.dr.lb
  have t3 := h2.qm
  have t4 := h2.dr.lb
  rw [e0] at t1 t2 t3 t4
  exact ⟨⟨t1, h0.qu, t2⟩, t3, h2.qu, t4⟩
/-- what there is ahead of the loop that gathers the lists. -/
structure Lr17 (W v0 p1 q1 p2 q4 p3 y4 u1 u2 : World) (c : Nat) (f : Int) (k m b n s0 gv Cv go Co : Nat) (Fv : Nat → Int) (Q : Nat → Bool) (am aM au aU ad aD bm bM bu bU bd bD dm dM du dU dd dD gw Cw : Nat) : Prop where
  lq : Lq17 W v0 p1 q1 p2 q4 p3 u2 c f k m b n s0 gv Cv go Co Fv Q am aM au aU ad aD bm bM bu bU bd bD dm dM du dU dd dD
  kp : ∃ C B T, Cs y4.heap.size u1.heap.size u2 (.slice (some ⟨y4.heap.size, 0, none⟩) n n) n (fun _ => k) C B T ∧ ∀ i, i < n → ∀ t, t < k → T i t = dec17 f k m Q i t
  us : ∃ F, Ri u2 gw Cw F ∧ k ≤ Cw ∧ ∀ i, i < k → F i = emz (fun i => !Q i) (k + m) i
  sz : p3.heap.size < y4.heap.size ∧ y4.heap.size ≤ u1.heap.size ∧ u1.heap.size ≤ gw ∧ gw < u2.heap.size
theorem lists_b17 (h : Lq17 W v0 p1 q1 p2 q4 p3 q5 c f k m b n s0 gv Cv go Co Fv Q am aM au aU ad aD bm bM bu bU bd bD dm dM du dU dd dD) (k1 : 1 ≤ k) (k2 : k ≤ 20) (n2 : n ≤ 12) :
    Calls Tryz.prog 27 #[.slice (some ⟨am, 0, none⟩) n aM, .slice (some ⟨go, 0, none⟩) n Co] q5 fun e y1 => e = .returned (.bool true) ∧ Bx17 y1 p2.heap.size bm n bM bu k bU bd bD ∧
    Calls Tryz.prog 27 #[.slice (some ⟨bm, 0, none⟩) n bM, .slice (some ⟨go, 0, none⟩) n Co] y1 fun e y2 => e = .returned (.bool true) ∧ (Bx17 y2 p1.heap.size am n aM au k aU ad aD ∧ Bx17 y2 p2.heap.size bm n bM bu k bU bd bD) ∧
    Calls Tryz.prog 27 #[.slice (some ⟨au, 0, none⟩) k aU, .slice (some ⟨bu, 0, none⟩) k bU] y2 fun e y3 => e = .returned (.bool true) ∧ (Bx17 y3 p1.heap.size am n aM au k aU ad aD ∧ Bx17 y3 p2.heap.size bm n bM bu k bU bd bD) ∧
    Calls Tryz.prog 14 #[.slice (some ⟨ad, 0, none⟩) n aD, .slice (some ⟨bd, 0, none⟩) n bD] y3 fun e y4 => e = .returned (.bool true) ∧ Bx17 y4 p1.heap.size am n aM au k aU ad aD ∧
    Calls Tryz.prog 12 #[.slice (some ⟨ad, 0, none⟩) n aD] y4 fun e u1 => e = .returned (.slice (some ⟨y4.heap.size, 0, none⟩) n n) ∧
    ∃ u2 gw Cw, (u1.alloc (.cells #[] 3)).cell? ⟨p1.heap.size, 1, none⟩ = some (.slice (some ⟨au, 0, none⟩) k aU) ∧
      (Builtin.append_ #[40, 40] 40 #[.slice (some ⟨u1.heap.size, 0, none⟩) 0 0, .slice (some ⟨au, 0, none⟩) k aU]).run Tryz.prog (u1.alloc (.cells #[] 3)) = .ok (.slice (some ⟨gw, 0, none⟩) k Cw) u2 ∧
      Lr17 W v0 p1 q1 p2 q4 p3 y4 u1 u2 c f k m b n s0 gv Cv go Co Fv Q am aM au aU ad aD bm bM bu bU bd bD dm dM du dU dd dD gw Cw := by
  have dr : ∀ (y : World) q, Below y.heap.size y (y.drewN q) := fun y q => below_drewN (Below.refl _ _) q
  refine (same17 _ _ n _ q5 h.pa.1.1 h.qo (by omega)).mono ?_
  rintro e y1 ⟨rfl, r1, rfl⟩
  have h1 := h.below (dr q5 r1)
  refine ⟨rfl, h1.xb, (same17 _ _ n _ _ h1.pa.2.1 h1.qo (by omega)).mono ?_⟩
  rintro e y2 ⟨rfl, r2, rfl⟩
  have h2 := h1.below (dr _ r2)
  refine ⟨rfl, ⟨h2.xa, h2.xb⟩, (same17 _ _ k _ _ h2.pa.1.2.1 h2.pa.2.2.1 (by omega)).mono ?_⟩
  rintro e y3 ⟨rfl, r3, rfl⟩
  have h3 := h2.below (dr _ r3)
  refine ⟨rfl, ⟨h3.xa, h3.xb⟩, (alike17 _ _ n _ _ _ h3.pa.1.2.2 h3.pa.2.2.2 (by omega) (fun _ _ => by show k ≤ _; omega)).mono ?_⟩
  rintro e y4 ⟨rfl, r4, rfl⟩
  have h4 := h3.below (dr _ r4)
  generalize (((q5.drewN r1).drewN r2).drewN r3).drewN r4 = y4 at h4 ⊢
  refine ⟨rfl, h4.xa, (copied17 _ n (fun _ => k) _ y4 h4.pa.1.2.2 (by omega) (fun _ _ => by show k ≤ _; omega)).mono ?_⟩
  rintro e u1 ⟨rfl, hQ⟩
  refine ⟨rfl, ?_⟩
  have h5 := h4.below hQ.bel
  obtain ⟨Ck, Bk, Tk, hk1, hk2, -⟩ := hQ.cs
  obtain ⟨u2, gw, Cw, F, hrun, a1, a2, a3, a4, a5⟩ := copy_appi17 u1 h5.pa.1.2.1 (by omega)
  have bb : Below u1.heap.size u1 (u1.alloc (.cells #[] 3)) := (Below.refl _ _).alloc (Nat.le_refl _) _
  exact ⟨u2, gw, Cw, (h5.xa.below bb).c1, hrun, h5.below a5, ⟨_, _, _, hk1.below a5, hk2⟩, ⟨F, a3, a1, a4⟩, h4.sz.2.2.2.2.2.2.2.2, hQ.bel.size, a2, a3.lt⟩
end
end Go.Proofs.YtaoapplbcgflmaaGreat
namespace Go.Proofs.YtaoapplbcgflmaaGreat
open Go.RowKit Gf2
set_option linter.unusedVariables false

-- layer 17: McodeLists, the lists gathered, marked and grown
/-- the r-th of the lists of numbers: of a plan's two. -/
def bI17 (gm gu : Nat → Nat) (r : Nat) : Nat := if r % 2 = 0 then gm (r / 2) else gu (r / 2)
def lI17 (n k r : Nat) : Nat := if r % 2 = 0 then n else k
def vI17 (n k : Nat) (gm Cm gu Cu : Nat → Nat) (r : Nat) : Value := .slice (some ⟨bI17 gm gu r, 0, none⟩) (lI17 n k r) (bI17 Cm Cu r)
def vR17 (n k : Nat) (DB DC : Nat → Nat → Nat) (r : Nat) : Value := .slice (some ⟨DB (r / n) (r % n), 0, none⟩) k (DC (r / n) (r % n))
section
variable {W y y' : World} {c : Nat} {f : Int} {k m b n q s0 : Nat} {Pp : Nat → Nat → Bool} {z z' gm Cm gu Cu dlo dhi gd cd : Nat → Nat} {DC DB : Nat → Nat → Nat}
/-- blocks of two plans. -/
theorem Lp17.far (h : Lp17 W y c f k m b n q s0 Pp z z' gm Cm gu Cu dlo dhi gd cd DC DB) {p r x x' : Nat} (hp : p < q) (hr : r < q) (hne : p ≠ r) (hx : z p ≤ x ∧ x < z' p) (hx' : z r ≤ x' ∧ x' < z' r) : x ≠ x' := by
  rcases Nat.lt_or_gt_of_ne hne with e | e
  · have := h.od p r e hr; omega
  · have := h.od r p e hp; omega
theorem Lp17.ints (h : Lp17 W y c f k m b n 3 s0 Pp z z' gm Cm gu Cu dlo dhi gd cd DC DB) {lo gI CI : Nat} {FI : Nat → Value} (hI : y.rowIs gI 40 CI FI) (hC : 6 ≤ CI) (hF : ∀ i, i < 6 → FI i = vI17 n k gm Cm gu Cu i) (hl : ∀ p, p < 3 → z' p ≤ gI) (hn : n ≤ 1000) (hk : k ≤ 1000) :
    ∃ F, A1i17 y y gI 6 (bI17 gm gu) (lI17 n k) (bI17 Cm Cu) F := by
  have hiv : ∀ r, r < 6 → z (r / 2) ≤ bI17 gm gu r ∧ bI17 gm gu r < z' (r / 2) := fun r hr => by
    have := h.iv (r / 2) (by omega)
    unfold bI17
    split
    · exact this.1
    · exact this.2.1
  have hrow : ∀ r, ∃ F, r < 6 → Ri y (bI17 gm gu r) (bI17 Cm Cu r) F ∧ lI17 n k r ≤ bI17 Cm Cu r := fun r => by
    by_cases hr : r < 6
    · have hp := h.pl (r / 2) (by omega)
      by_cases e : r % 2 = 0
      · obtain ⟨F, a1, a2, -⟩ := hp.mr
        rw [h.ln _ (by omega)] at a1
        refine ⟨F, fun _ => ?_⟩
        unfold bI17 lI17
        rw [if_pos e, if_pos e, if_pos e]
        exact ⟨a2, a1⟩
      · obtain ⟨F, a1, a2, -⟩ := hp.ur
        refine ⟨F, fun _ => ?_⟩
        unfold bI17 lI17
        rw [if_neg e, if_neg e, if_neg e]
        exact ⟨a2, a1⟩
    · exact ⟨fun _ => 0, fun x => absurd x hr⟩
  obtain ⟨F, hF2⟩ := Classical.axiomOfChoice hrow
  refine ⟨F, ⟨fun r hr => ?_, fun r hr => (hF2 r hr).1, fun r s hr hs e => ?_, fun r hr => ?_, hI.lt, fun r hr => ⟨(hF2 r hr).2, ?_⟩, Ke.refl _ _⟩⟩
  · rw [hI.cell (by omega), hF r hr]; rfl
  · by_cases e2 : r / 2 = s / 2
    · by_cases e3 : r = s
      · exact e3
      · have hp := (h.pl (r / 2) (by omega)).ne.1
        unfold bI17 at e
        rw [← e2] at e
        by_cases e4 : r % 2 = 0
        · rw [if_pos e4, if_neg (by omega)] at e
          exact absurd e hp
        · rw [if_neg e4, if_pos (by omega)] at e
          exact absurd e.symm hp
    · exact absurd e (h.far (by omega) (by omega) e2 (hiv r hr) (hiv s hs))
  · have := hiv r hr
    have := hl (r / 2) (by omega)
    omega
  · unfold lI17; split <;> omega
theorem div_in17 {r n q : Nat} (hn : 1 ≤ n) (h : r < q * n) : r / n < q ∧ r % n < n := ⟨Nat.div_lt_of_lt_mul (by rw [Nat.mul_comm]; exact h), Nat.mod_lt _ (by omega)⟩
/-- rows of bytes, behind a call that turned the lists of numbers alone. -/
theorem Lp17.bytes (h : Lp17 W y c f k m b n 3 s0 Pp z z' gm Cm gu Cu dlo dhi gd cd DC DB) (hk1 : Ke (fun x => ∃ r, r < 6 ∧ x = bI17 gm gu r) y y') {gR CR : Nat} {FR : Nat → Value} (hR : y'.rowIs gR 27 CR FR) (hC : 3 * n ≤ CR) (hF : ∀ i, i < 3 * n → FR i = vR17 n k DB DC i) (hl : ∀ p, p < 3 → z' p ≤ gR) (n1 : 1 ≤ n) (hk : k ≤ 1000) :
    ∃ F, A1b17 y' y' gR (3 * n) (fun r => DB (r / n) (r % n)) (fun _ => k) (fun r => DC (r / n) (r % n)) F := by
  have hrw : ∀ p, p < 3 → ∀ i, i < n → (dlo p ≤ DB p i ∧ DB p i < dhi p) ∧ k ≤ DC p i ∧ Rw y (DB p i) (DC p i) (dec17 f k m (Pp p) i) := fun p hp i hi => by
    have := (h.pl p hp).dr.row i (by rw [h.ln p hp]; exact hi)
    exact ⟨⟨this.1, this.2.1⟩, this.2.2.1, this.2.2.2⟩
  have hiv : ∀ p, p < 3 → ∀ i, i < n → z p ≤ DB p i ∧ DB p i < z' p := fun p hp i hi => by
    have := h.iv p hp
    have := (hrw p hp i hi).1
    omega
  have hno : ∀ p, p < 3 → ∀ i, i < n → ¬ ∃ r, r < 6 ∧ DB p i = bI17 gm gu r := fun p hp i hi ⟨r, hr, e⟩ => by
    have hv := h.iv (r / 2) (by omega)
    by_cases e2 : p = r / 2
    · have hn := (h.pl (r / 2) (by omega)).ne
      have h1 := (hrw p hp i hi).1
      rw [e2] at h1 e
      unfold bI17 at e
      split at e <;> omega
    · have hb : z (r / 2) ≤ bI17 gm gu r ∧ bI17 gm gu r < z' (r / 2) := by
        unfold bI17
        split
        · exact hv.1
        · exact hv.2.1
      exact h.far hp (by omega) e2 (hiv p hp i hi) hb e
  refine ⟨fun r => dec17 f k m (Pp (r / n)) (r % n), ⟨fun r hr => ?_, fun r hr => ?_, fun r s hr hs e => ?_, fun r hr => ?_, hR.lt, fun r hr => ?_, Ke.refl _ _⟩⟩
  · rw [hR.cell (by omega), hF r hr]; rfl
  · obtain ⟨d1, d2⟩ := div_in17 n1 hr
    exact hk1.rw_ (hrw _ d1 _ d2).2.2 (hno _ d1 _ d2)
  · obtain ⟨d1, d2⟩ := div_in17 n1 hr
    obtain ⟨d3, d4⟩ := div_in17 n1 hs
    by_cases e2 : r / n = s / n
    · have e : DB (r / n) (r % n) = DB (s / n) (s % n) := e
      rw [← e2] at e
      have e3 := (h.pl _ d1).dr.inj _ _ (by rw [h.ln _ d1]; exact d2) (by rw [h.ln _ d1]; exact d4) e
      rw [← Nat.div_add_mod r n, ← Nat.div_add_mod s n, e2, e3]
    · exact absurd e (h.far d1 d3 e2 (hiv _ d1 _ d2) (hiv _ d3 _ d4))
  · obtain ⟨d1, d2⟩ := div_in17 n1 hr
    have := hiv _ d1 _ d2
    have := hl _ d1
    show DB (r / n) (r % n) ≠ gR
    omega
  · obtain ⟨d1, d2⟩ := div_in17 n1 hr
    exact ⟨(hrw _ d1 _ d2).2.1, hk⟩
end
section
variable {W v0 p1 q1 p2 q4 p3 y4 u1 u2 wr : World} {c : Nat} {f : Int} {k m b n s0 gv Cv go Co : Nat} {Fv : Nat → Int} {Q : Nat → Bool} {am aM au aU ad aD bm bM bu bU bd bD dm dM du dU dd dD gw Cw : Nat}
/-- what is asked in the end. -/
def Le17 (W p1 p2 p4 q6 y4 : World) (c : Nat) (n k gv go Co gw Cw zm zM zu zU zd zD : Nat) : Prop := Bx17 q6 p4.heap.size zm n zM zu k zU zd zD ∧
    (∀ q, Calls Tryz.prog 27 #[.slice (some ⟨zm, 0, none⟩) n zM, .slice (some ⟨go, 0, none⟩) n Co] (q6.drewN q) fun e w' => e = .returned (.bool true) ∧ ∃ j, w' = (q6.drewN q).drewN j) ∧
    (∀ q, Calls Tryz.prog 27 #[.slice (some ⟨zu, 0, none⟩) k zU, .slice (some ⟨gw, 0, none⟩) k Cw] (q6.drewN q) fun e w' => e = .returned (.bool true) ∧ ∃ j, w' = (q6.drewN q).drewN j) ∧
    (∀ q, Calls Tryz.prog 14 #[.slice (some ⟨zd, 0, none⟩) n zD, .slice (some ⟨y4.heap.size, 0, none⟩) n n] (q6.drewN q) fun e w' => e = .returned (.bool true) ∧ ∃ j, w' = (q6.drewN q).drewN j) ∧
    q6.cell? ⟨gv, 0, none⟩ = some (.int .i64 0) ∧ Below W.heap.size W q6
set_option maxHeartbeats 4000000 in
theorem lists_c17 (h : Lr17 W v0 p1 q1 p2 q4 p3 y4 u1 u2 c f k m b n s0 gv Cv go Co Fv Q am aM au aU ad aD bm bM bu bU bd bD dm dM du dU dd dD gw Cw) (hb : Below u2.heap.size u2 wr) {iv rv : Value} {aB bB dB aC bC dC : Nat → Nat} {al ah bl bh dl dh : Nat} {lo : Nat} (hlo : u2.heap.size ≤ lo)
    (hL : Lp17 W wr c f k m b n 3 s0 (n3 Q Q Q (fun i => decide (i < n))) (n3 0 v0.heap.size q1.heap.size q4.heap.size) (n3 0 p1.heap.size p2.heap.size p3.heap.size) (n3 0 am bm dm) (n3 0 aM bM dM) (n3 0 au bu du) (n3 0 aU bU dU) (n3 0 al bl dl) (n3 0 ah bh dh) (n3 0 ad bd dd) (n3 0 aD bD dD) (n3 (fun _ => 0) aC bC dC) (n3 (fun _ => 0) aB bB dB))
    (hI : Gw17 40 lo wr iv 6 (vI17 n k (n3 0 am bm dm) (n3 0 aM bM dM) (n3 0 au bu du) (n3 0 aU bU dU))) (hR : Gw17 27 lo wr rv (3 * n) (vR17 n k (n3 (fun _ => 0) aB bB dB) (n3 (fun _ => 0) aC bC dC))) (k1 : 1 ≤ k) (k2 : k ≤ 20) (n1 : 1 ≤ n) (n2 : n ≤ 12) (nm : n ≤ m) (hCv : n ≤ Cv) :
    Calls Tryz.prog 28 #[iv] wr fun e v1 => e = .returned (.bool true) ∧
    Calls Tryz.prog 29 #[rv] v1 fun e v2 => e = .returned (.bool true) ∧ Bx17 v2 p1.heap.size am n aM au k aU ad aD ∧ (∃ C F, n ≤ C ∧ v2.rowIs ad 27 C F) ∧
    ∀ v3, Only ad v2 v3 → Bx17 v3 p2.heap.size bm n bM bu k bU bd bD ∧ (∃ x y, v3.cell? ⟨bd, 0, none⟩ = some (.slice (some ⟨x, 0, none⟩) k y)) ∧
    Calls Tryz.prog 24 #[.pointer (some ⟨c, 0, none⟩), .slice (some ⟨go, 0, none⟩) n Co] v3 fun e p4 => ∃ zm zM zu zU zd zD, e = .returned (.tuple #[pv17 zm n zM zu k zU zd zD, .int .i64 0]) ∧ ∀ q6, p4.alloc (.cells (pc17 zm n zM zu k zU zd zD) 54) = q6 → Le17 W p1 p2 p4 q6 y4 c n k gv go Co gw Cw zm zM zu zU zd zD := by
  have hq := h.lq.below hb
  have sz := hq.sz
  have sz2 := h.sz
  have hz' : ∀ p, p < 3 → n3 0 p1.heap.size p2.heap.size p3.heap.size p ≤ p3.heap.size := fun p hp => by
    match p, hp with
    | 0, _ => show p1.heap.size ≤ _; omega
    | 1, _ => show p2.heap.size ≤ _; omega
    | 2, _ => exact Nat.le_refl _
  rcases hI with ⟨e, -⟩ | ⟨gI, CI, FI, rfl, i2, i3, i4, i5⟩
  · omega
  rcases hR with ⟨e, -⟩ | ⟨gR, CR, FR, rfl, r2, r3, r4, r5⟩
  · omega
  obtain ⟨F1, hA1⟩ := hL.ints (lo := lo) i4 i2 i5 (fun p hp => by have := hz' p hp; omega) (by omega) (by omega)
  refine (law_apartInts17 gI 6 CI _ _ _ F1 wr (by omega) hA1).mono ?_
  rintro e v1 ⟨rfl, kv1⟩
  refine ⟨rfl, ?_⟩
  have hgR : ¬ ∃ r, r < 6 ∧ gR = bI17 (n3 0 am bm dm) (n3 0 au bu du) r := fun ⟨r, hr, e⟩ => by
    have := hA1.row r hr
    rw [← e] at this
    exact ri_ll17 this r4
  obtain ⟨F2, hA2⟩ := hL.bytes kv1 (r4.of_block (kv1.2 gR r4.lt hgR)) r2 r5 (fun p hp => by have := hz' p hp; omega) n1 (by omega)
  refine (law_apart17 gR (3 * n) CR _ _ _ F2 v1 (by omega) hA2).mono ?_
  rintro e v2 ⟨rfl, kv2⟩
  -- all that has turned lies in the plans
  obtain ⟨EP, hEP⟩ : ∃ EP : Nat → Prop, EP = fun x => ∃ p, p < 3 ∧ Pk17 (n3 0 am bm dm p) (n3 0 au bu du p) (n3 0 al bl dl p) (n3 0 ah bh dh p) x := ⟨_, rfl⟩
  have kva : Ke EP wr v1 := kv1.mono (fun x _ ⟨r, hr, e⟩ => by
    rw [hEP, e]
    refine ⟨r / 2, by omega, ?_⟩
    unfold bI17
    split
    · exact .inl rfl
    · exact .inr (.inl rfl))
  have kvb : Ke EP v1 v2 := kv2.mono (fun x _ ⟨r, hr, e⟩ => by
    obtain ⟨d1, d2⟩ := div_in17 n1 hr
    have := (hL.pl _ d1).dr.row _ (by rw [hL.ln _ d1]; exact d2)
    rw [hEP]
    refine ⟨r / n, d1, .inr (.inr ?_)⟩
    rw [e]
    exact ⟨this.1, this.2.1⟩)
  have kv : Ke EP wr v2 := kva.trans kvb
  have hEz : ∀ x, EP x → (v0.heap.size ≤ x ∧ x < p1.heap.size) ∨ (q1.heap.size ≤ x ∧ x < p2.heap.size) ∨ (q4.heap.size ≤ x ∧ x < p3.heap.size) := fun x e => by
    rw [hEP] at e
    obtain ⟨p, hp, e⟩ := e
    match p, hp with
    | 0, _ =>
      have iv0 : (v0.heap.size ≤ am ∧ am < p1.heap.size) ∧ (v0.heap.size ≤ au ∧ au < p1.heap.size) ∧ v0.heap.size ≤ al ∧ ah ≤ p1.heap.size ∧ s0 ≤ v0.heap.size ∧ _ := hL.iv 0 (by decide)
      have e : Pk17 am au al ah x := e
      rcases e with e | e | e <;> omega
    | 1, _ =>
      have iv0 : (q1.heap.size ≤ bm ∧ bm < p2.heap.size) ∧ (q1.heap.size ≤ bu ∧ bu < p2.heap.size) ∧ q1.heap.size ≤ bl ∧ bh ≤ p2.heap.size ∧ s0 ≤ q1.heap.size ∧ _ := hL.iv 1 (by decide)
      have e : Pk17 bm bu bl bh x := e
      rcases e with e | e | e <;> omega
    | 2, _ =>
      have iv0 : (q4.heap.size ≤ dm ∧ dm < p3.heap.size) ∧ (q4.heap.size ≤ du ∧ du < p3.heap.size) ∧ q4.heap.size ≤ dl ∧ dh ≤ p3.heap.size ∧ s0 ≤ q4.heap.size ∧ _ := hL.iv 2 (by decide)
      have e : Pk17 dm du dl dh x := e
      rcases e with e | e | e <;> omega
  have hpa : Pm17 wr (pv17 am n aM au k aU ad aD) am aM au aU al ah (.slice (some ⟨ad, 0, none⟩) n aD) aC aB f k m Q := hL.pl 0 (by decide)
  have hpb : Pm17 wr (pv17 bm n bM bu k bU bd bD) bm bM bu bU bl bh (.slice (some ⟨bd, 0, none⟩) n bD) bC bB f k m Q := hL.pl 1 (by decide)
  have hln : (ems Q (k + m)).length = n := hL.ln 0 (by decide)
  obtain ⟨ga, Ca, Fa, ea, ca1, ca2, ca3⟩ := hpa.dl
  rw [hln] at ca1 ea
  cases ea
  obtain ⟨gb, Cb, Fb, eb, cb1, cb2, cb3⟩ := hpb.dl
  rw [hln] at cb1 eb
  cases eb
  -- the lists of rows are no rows
  have hla : ∀ {g D : Nat} {G : Nat → Value}, wr.rowIs g 27 D G → (¬ ∃ r, r < 6 ∧ g = bI17 (n3 0 am bm dm) (n3 0 au bu du) r) ∧ ¬ ∃ r, r < 3 * n ∧ g = n3 (fun _ => 0) aB bB dB (r / n) (r % n) := fun hg => ⟨fun ⟨r, hr, e⟩ => by
      have := hA1.row r hr
      rw [← e] at this
      exact ri_ll17 this hg, fun ⟨r, hr, e⟩ => by
      obtain ⟨d1, d2⟩ := div_in17 n1 hr
      have := ((hL.pl _ d1).dr.row _ (by rw [hL.ln _ d1]; exact d2)).2.2.2.2.2
      rw [← e] at this
      have := row_ty17 this hg
      exact absurd this (by decide)⟩
  have hva : v2.rowIs ad 27 aD Fa := by
    obtain ⟨t1, t2⟩ := hla ca3
    have a1 := ca3.of_block (kv1.2 _ ca3.lt t1)
    exact a1.of_block (kv2.2 _ a1.lt t2)
  have hvb : v2.rowIs bd 27 bD Fb := by
    obtain ⟨t1, t2⟩ := hla cb3
    have a1 := cb3.of_block (kv1.2 _ cb3.lt t1)
    exact a1.of_block (kv2.2 _ a1.lt t2)
  have hxa := hq.xa.ke kv (fun e => by have := hEz _ e; omega)
  refine ⟨rfl, hxa, ⟨aD, Fa, ca1, hva⟩, fun v3 o3 => ?_⟩
  have k3 : Ke EP wr v3 := kv.trans (o3.kp.ke.mono (fun x _ e => by
    rw [hEP, e]
    exact ⟨0, by decide, .inr (.inr ca2)⟩))
  have hgab : bd ≠ ad := by
    have iv0 : (v0.heap.size ≤ am ∧ am < p1.heap.size) ∧ (v0.heap.size ≤ au ∧ au < p1.heap.size) ∧ v0.heap.size ≤ al ∧ ah ≤ p1.heap.size ∧ _ := hL.iv 0 (by decide)
    have iv1 : (q1.heap.size ≤ bm ∧ bm < p2.heap.size) ∧ (q1.heap.size ≤ bu ∧ bu < p2.heap.size) ∧ q1.heap.size ≤ bl ∧ bh ≤ p2.heap.size ∧ _ := hL.iv 1 (by decide)
    omega
  have hcb : ∃ x y, v3.cell? ⟨bd, 0, none⟩ = some (.slice (some ⟨x, 0, none⟩) k y) := by
    have hc1 := hpb.dr
    rw [hln] at hc1
    obtain ⟨g', cap', e, -, -, -, -, -, gc⟩ := hc1.at17 (by omega)
    cases e
    have c0 := gc 0 (by omega)
    have f0 := cb3.cell (i := 0) (by omega)
    rw [f0] at c0
    have e0 : Fb 0 = _ := Option.some.inj c0
    have q := hvb.of_block (o3.2.2 _ hgab)
    refine ⟨bB 0, bC 0, ?_⟩
    rw [q.cell (by omega), e0]
  refine ⟨hq.xb.ke k3 (fun e => by have := hEz _ e; omega), hcb, ?_⟩
  obtain ⟨Fp, N, L, ⟨FT, p, lo', hi, rows, t, hC⟩, c2, c3, c4, c5, c6⟩ := hL.co
  have hC3 := hC.ke k3 (fun x e hx => by
    rw [hEP] at e
    obtain ⟨p, hp, e⟩ := e
    exact c6 p hp x e hx)
  have hFz : ∀ x, Fp x → W.heap.size ≤ x ∧ (x < s0 ∨ (v0.heap.size ≤ x ∧ x < p1.heap.size) ∨ (q1.heap.size ≤ x ∧ x < p2.heap.size) ∨ (q4.heap.size ≤ x ∧ x < p3.heap.size)) := fun x hx => by
    refine ⟨(c5 x hx).1, ?_⟩
    rcases (c5 x hx).2 with e | ⟨p, hp, e1, e2⟩
    · exact .inl e
    · match p, hp with
      | 0, _ => exact .inr (.inl ⟨e1, e2⟩)
      | 1, _ => exact .inr (.inr (.inl ⟨e1, e2⟩))
      | 2, _ => exact .inr (.inr (.inr ⟨e1, e2⟩))
  obtain ⟨Fo, o1, o2, o4⟩ := hq.od
  have ho3 := o1.ke k3 (fun e => by have := hEz _ e; omega)
  have bW3 := hL.bel.trans (k3.below (B := W.heap.size) (fun x e => by have := hEz x e; have := hL.sz; omega) hL.bel.size)
  subst hln
  refine (plan17_room hC3 Q n1 nm _ (ri_qi17 ho3 o2 o4) c4 (by omega) (by omega)).mono ?_
  rintro e p4 ⟨pl, rfl, hP⟩
  obtain ⟨Fp', N', L', zm, zM, zu, zU, zl, zh, d, zC, zB, hpm, hCd, -, -, ⟨g1, g2, g3⟩, -⟩ := hP.ex
  obtain ⟨zd, zD, Fz, hd, -⟩ := hpm.dl
  have hpl := hpm.eq
  subst hpl
  subst hd
  refine ⟨zm, zM, zu, zU, zd, zD, rfl, fun q6 hq6 => ?_⟩
  have b6 : Below p4.heap.size p4 q6 := by rw [← hq6]; exact (Below.refl _ _).alloc (Nat.le_refl _) _
  have x6 : Bx17 q6 p4.heap.size zm (ems Q (k + m)).length zM zu k zU zd zD := by show q6.heap[_]? = _; rw [← hq6]; exact heap_alloc_new _ _
  have ho6 := (ho3.ke hP.ke (fun e => by have := hFz _ e; omega)).below b6
  obtain ⟨Fw, w1, w2, w3⟩ := h.us
  have hw6 := (((w1.below hb).ke k3 (fun e => by have := hEz _ e; omega)).ke hP.ke (fun e => by have := hFz _ e; omega)).below b6
  obtain ⟨Ck, Bk, Tk, hk1, hk2⟩ := h.kp
  have hk6 := (((hk1.below hb).keep k3 (fun x a1 a2 e => by have := hEz _ e; omega)).keep hP.ke (fun x a1 a2 e => by have := hFz _ e; omega)).below b6
  have hg6 := ((hq.gw.ke k3 (fun e => by have := hEz _ e; omega)).ke hP.ke (fun e => by have := hFz _ e; omega)).below b6
  have hz6 := hpm.below b6
  have d6 : ∀ q, Below q6.heap.size q6 (q6.drewN q) := fun q => below_drewN (Below.refl _ _) q
  refine ⟨x6, fun q => same17 _ _ _ _ _ ((hz6.below (d6 q)).qm) (ri_qi17 (ho6.below (d6 q)) o2 o4) (by omega), fun q => same17 _ _ k _ _ ((hz6.below (d6 q)).qu) (ri_qi17 (hw6.below (d6 q)) w2 w3) (by omega), fun q => alike17 _ _ _ _ _ _ ((hz6.below (d6 q)).dr.lb) ((hk6.below (d6 q)).lb.congr hk2) (by omega) (fun _ _ => by show k ≤ _; omega), ?_, ?_⟩
  · have q := hg6.2.2.cell (i := 0) (by omega)
    have e0 : (fun y : Nat => if y < (ems Q (k + m)).length then (y : Int) else Fv y) 0 = 0 := if_pos (by omega)
    rw [e0] at q
    exact q
  · have := bW3.trans (hP.ke.below (B := W.heap.size) (fun x e => (hFz x e).1) bW3.size)
    exact this.trans (b6.mono this.size)
end
end Go.Proofs.YtaoapplbcgflmaaGreat
