import Derived.Test.YtdeophhcbkahgaaKja
namespace Go.Proofs.Ytdeophhcbkahgaa
open Go.RowKit Gf2
set_option linter.unusedVariables false

-- layer 9: KernelLives: the other slices, and a byte for each
/-- an element's type of one cell, the list's type, the zero value, the bytes. -/
structure Ely (te ts : TypeId) (z : Value) (bb : Nat) : Prop where
  und : Try.prog.underlying ts = some (.slice te)
  info : ∃ i, Try.prog.info? te = some i ∧ i.zero = some z ∧ i.size = 1 ∧ i.bytes = bb
  cz : z.cells.size = 1
theorem ely_u8 : Ely 5 22 (.int .u8 0) 1 := ⟨Try.underlying22, info_u8a, rfl⟩
theorem ely_l8 : Ely 22 23 (.slice none 0 0) 24 := ⟨Try.underlying23, info_l9, rfl⟩
/-- a list that grows by append, in a block of its own not below base. -/
def Gx (te : TypeId) (w : World) (base : Nat) (av : Value) (m : Nat) (V : Nat → Value) : Prop := w.ownsRow base te 1 av m (lv9 V m)
section
variable {te ts : TypeId} {z : Value} {bb : Nat}
theorem Gx.zero (te : TypeId) (w : World) (base : Nat) (V : Nat → Value) : Gx te w base (.slice none 0 0) 0 V := World.ownsRow_nil _ _ _ _
theorem Gx.below {w w' : World} {base m : Nat} {av : Value} {V : Nat → Value} (h : Gx te w base av m V) (hb : Below w.heap.size w w') : Gx te w' base av m V := by
  refine World.ownsRow.kept (row := Option.none) h ⟨hb.os, hb.tape, hb.output, hb.size, fun k hk _ => hb.block k hk⟩ ?_
  cases e : av.ownBlock with
  | none => exact .inl rfl
  | some k => exact .inr (by simp)
theorem Gx.congr {w : World} {base m : Nat} {av : Value} {V V' : Nat → Value} (h : Gx te w base av m V) (e : ∀ r, r < m → V r = V' r) : Gx te w base av m V' := by
  unfold Gx at h ⊢
  rw [← lv9_congr e]
  exact h
theorem Gx.form {w : World} {base m : Nat} {av : Value} {V : Nat → Value} (h : Gx te w base av m V) : ∃ a c, av = .slice a m c ∧ m ≤ c ∧ c ≤ maxLen ∧ (0 < m → ∃ g, a = some ⟨g, 0, none⟩ ∧ base ≤ g ∧ g < w.heap.size ∧ av.ownBlock = some g ∧ ∀ i, i < m → w.cell? ⟨g, i, none⟩ = some (V i)) := by
  rcases h.2 with ⟨h1, h2⟩ | ⟨g, cap, cur, rfl, hb, hg, r1, r2, r3, r4⟩
  · subst h1 h2
    exact ⟨Option.none, 0, rfl, Nat.le_refl _, Nat.zero_le _, fun h0 => absurd h0 (Nat.lt_irrefl _)⟩
  · refine ⟨_, cap, rfl, r1, r2, fun h0 => ⟨g, rfl, hb, (Array.getElem?_eq_some_iff.1 hg).1, rfl, fun i hi => ?_⟩⟩
    have := World.ownsRow.cellAt (j := i) h (by omega)
    rw [this, lv9_get _ hi]
/-- one element more. -/
theorem gx_one (E : Ely te ts z bb) {w : World} {base m : Nat} {av : Value} {V : Nat → Value} (h : Gx te w base av m V) (hbase : base ≤ w.heap.size) (hv : (V m).oneCell' = true) (hm : (m + 1) * bb ≤ 140737488355328) (hm2 : m + 1 ≤ 140737488355328) :
    ∃ g cp w5, (Builtin.append_ #[ts, ts] ts #[av, .slice (some ⟨w.heap.size, 0, none⟩) 1 1]).run Try.prog (w.alloc (.cells #[V m] te)) = .ok (.slice (some ⟨g, 0, none⟩) (m + 1) cp) w5 ∧
      Gx te w5 base (.slice (some ⟨g, 0, none⟩) (m + 1) cp) (m + 1) V ∧ (av.ownBlock = some g ∨ g = w.heap.size + 1) ∧ w.grownBy w5 av.ownBlock ∧ Below base w w5 ∧ w.heap.size ≤ w5.heap.size := by
  obtain ⟨iL, k1, k2, k3, k4⟩ := E.info
  obtain ⟨g, cp, w5, hrun, own, gr, lies, lt⟩ := run_append_lies (P := Try.prog) (w.alloc (.cells #[V m] te)) ts ts base te iL z 1 bb E.und k1 k2 k3 k4 E.cz (by decide)
    av m (lv9 V m) (World.ownsRow.alloc h _) ⟨w.heap.size, 0, Option.none⟩ 1 1 (lv9 (fun _ => V m) 1) (by rw [lv9_len]) (fun j u hu => World.news_of_block (heap_alloc_new w _) j u (by simpa [lv9] using hu))
    (fun u hu => by
      simp [lv9] at hu
      subst hu
      exact hv) (by decide) (by unfold maxLen; omega) (by omega) (by simp; omega) (w.heap.size + 1) (by simp)
  have hsz : (w.alloc (.cells #[V m] te)).heap.size = w.heap.size + 1 := by simp
  have hgs := gr.size
  have gr2 : w.grownBy w5 av.ownBlock := ⟨gr.os, gr.tape, gr.output, by omega, fun x hx hne => (gr.block x (by omega) hne).trans (Below.heap_alloc w _ x hx)⟩
  refine ⟨g, cp, w5, hrun, ?_, lies, gr2, ⟨gr.os, gr.tape, gr.output, by omega, fun x hx => gr2.block x (by omega) (fun e => ?_)⟩, by omega⟩
  · unfold Gx
    rw [lv9_snoc] at own
    refine (lv9_congr (fun r hr => ?_)) ▸ own
    by_cases e : r < m
    · rw [if_pos e]
    · rw [if_neg e, show r = m by omega]
  · have := (World.ownsRow.lt h x e.symm).1
    omega
end
/-- two lists that grow side by side, above w0. -/
structure Ot9 (w0 w : World) (av bv : Value) (k : Nat) (V : Nat → Value) (F : Nat → Nat) : Prop where
  bel : Below w0.heap.size w0 w
  l : Gx 22 w w0.heap.size av k V
  b : Gx 5 w w0.heap.size bv k (fun i => .int .u8 (F i : Nat))
  ne : ∀ x, av.ownBlock = some x → bv.ownBlock ≠ some x
theorem Ot9.start (w : World) (V : Nat → Value) (F : Nat → Nat) : Ot9 w w (.slice none 0 0) (.slice none 0 0) 0 V F :=
  ⟨Below.refl _ _, Gx.zero _ _ _ _, Gx.zero _ _ _ _, fun x e => by cases e⟩
theorem Ot9.step {w0 w : World} {av bv : Value} {k : Nat} {V : Nat → Value} {F : Nat → Nat} (h : Ot9 w0 w av bv k V F) (hv : (V k).oneCell' = true) (hk : (k + 1) * 24 ≤ 140737488355328) :
    ∃ v5 w5 v7 w7, (Builtin.append_ #[23, 23] 23 #[av, .slice (some ⟨w.heap.size, 0, none⟩) 1 1]).run Try.prog (w.alloc (.cells #[V k] 22)) = .ok v5 w5 ∧ Below w0.heap.size w0 w5 ∧
      (Builtin.append_ #[22, 22] 22 #[bv, .slice (some ⟨w5.heap.size, 0, none⟩) 1 1]).run Try.prog (w5.alloc (.cells #[.int .u8 (F k : Nat)] 5)) = .ok v7 w7 ∧ Ot9 w0 w7 v5 v7 (k + 1) V F := by
  obtain ⟨g5, c5, w5, run5, G5, lies5, gr5, b5, s5⟩ := gx_one ely_l8 h.l h.bel.size hv hk (by omega)
  have hb5 : Gx 5 w5 w0.heap.size bv k (fun i => .int .u8 (F i : Nat)) := World.ownsRow.kept h.b gr5 (by
    cases e : bv.ownBlock with
    | none => exact .inl rfl
    | some x => exact .inr (fun e2 => h.ne x e2.symm e))
  have B5 : Below w0.heap.size w0 w5 := h.bel.trans b5
  obtain ⟨g7, c7, w7, run7, G7, lies7, gr7, b7, s7⟩ := gx_one ely_u8 hb5 B5.size rfl (by omega) (by omega)
  have l5 : g5 < w5.heap.size := (World.ownsRow.lt G5 g5 rfl).2
  have ne5 : bv.ownBlock ≠ some g5 := by
    intro e
    rcases lies5 with l | l
    · exact h.ne g5 l e
    · have := (World.ownsRow.lt h.b g5 e).2
      omega
  refine ⟨_, w5, _, w7, run5, B5, run7, B5.trans b7, World.ownsRow.kept G5 gr7 (.inr (fun e => ne5 e.symm)), G7, fun x e1 e2 => ?_⟩
  have e1 : g5 = x := by simpa [Value.ownBlock] using e1
  have e2 : g7 = x := by simpa [Value.ownBlock] using e2
  subst e2 e1
  rcases lies7 with l | l
  · exact ne5 l
  · omega
/-- the place of the i-th of the others. -/
def oth (n i : Nat) : Nat := if i < n then i else i + 1
/-- how many others there are among the first k. -/
def cn (n k : Nat) : Nat := if k ≤ n then k else k - 1
theorem oth_cn {n k : Nat} (h : k ≠ n) : oth n (cn n k) = k := by unfold oth cn; split <;> split <;> omega
theorem cn_succ {n k : Nat} (h : k ≠ n) : cn n (k + 1) = cn n k + 1 := by unfold cn; split <;> split <;> omega
theorem cn_same (n : Nat) : cn n (n + 1) = cn n n := by unfold cn; split <;> split <;> omega
theorem cn_le (n k : Nat) : cn n k ≤ k := by unfold cn; split <;> omega
theorem cn_all {n m : Nat} (h : n < m) : cn n m = m - 1 := by unfold cn; rw [if_neg (by omega)]
theorem oth_lt {n m i : Nat} (hn : n < m) (h : i < m - 1) : oth n i < m := by unfold oth; split <;> omega
theorem oth_ne (n i : Nat) : oth n i ≠ n := by unfold oth; split <;> omega
theorem oth_inj {n i j : Nat} (h : oth n i = oth n j) : i = j := by unfold oth at h; split at h <;> split at h <;> omega
/-- the byte of the row, or 1. -/
def at9 (nr : Nat) (R : Nat → Nat) (i : Nat) : Nat := if i < nr then R i else 1
theorem at9_any (row : Value) (nr : Nat) (R : Nat → Nat) (i : Nat) (w : World) (h : Rb w row nr R) : Calls Try.prog 43 #[row, .int .i64 (i : Int)] w fun e w' => e = .returned (.int .u8 (at9 nr R i : Nat)) ∧ w' = w := by
  obtain ⟨h1, h2, a, cap, rfl, -, -, h4⟩ := h
  by_cases hlt : i < nr
  · obtain ⟨b, o, rfl, hb, hc⟩ := h4 (by omega)
    have y := hc i hlt
    have e : at9 nr R i = R i := by unfold at9; rw [if_pos hlt]
    rw [e]
    clear h4 hc
    have il : ((i : Nat) : Int) < (nr : Int) := by omega
    go_enter Try.func43, Try.ntmps43
    go_wp2
    go_ret
    exact ⟨rfl, rfl⟩
  · have e : at9 nr R i = 1 := by unfold at9; rw [if_neg hlt]
    rw [e]
    clear h4
    have il : ¬ ((i : Nat) : Int) < (nr : Int) := by omega
    go_enter Try.func43, Try.ntmps43
    go_wp2
    go_ret
    exact ⟨rfl, rfl⟩
set_option maxHeartbeats 2000000 in
set_option maxRecDepth 100000 in
theorem others9 (u row : Value) (m nr n : Nat) (V : Nat → Value) (R : Nat → Nat) (w : World) (h : Lv (fun _ => False) w u m V) (hV : ∀ i, i < m → ∃ x k c, V i = .slice x k c) (hr : Rb w row nr R) (hn : n < m) (hm : 24 * m ≤ 140737488351232) :
    Calls Try.prog 36 #[u, .int .i64 (n : Int), row] w fun e w' => ∃ av bv, e = .returned (.tuple #[av, bv]) ∧ Ot9 w w' av bv (m - 1) (fun i => V (oth n i)) (fun i => at9 nr R (oth n i)) := by
  obtain ⟨hmb, a, cap, rfl, -, -, h4⟩ := h
  obtain ⟨b, o', rfl, hbl, hc⟩ := h4 (by omega)
  obtain ⟨xr, cr, rfl⟩ := Rb.form9 hr
  have HR : Hid (Rb w (.slice xr nr cr) nr R) := hr
  have HC : Hid (∀ i, i < m → w.cell? ⟨b, o' + i, none⟩ = some (V i)) := hc
  have HV : Hid (∀ i, i < m → ∃ x k c, V i = .slice x k c) := hV
  have HM : Hid (24 * m ≤ 140737488351232 ∧ n < m ∧ b < w.heap.size) := ⟨hm, hn, hbl.1⟩
  clear h4 hc hr hV hm hn hbl hmb
  go_enter Try.func36, Try.ntmps36
  go_wp2
  go_loopw [8, 9, 14] (fun av bv i wr => ∃ k : Nat, k ≤ m ∧ i = .int .i64 (k : Nat) ∧ Ot9 w wr av bv (cn n k) (fun i => V (oth n i)) (fun i => at9 nr R (oth n i))) (fun _ _ i _ => m - (intOf i).toNat)
  case atStart => exact ⟨0, Nat.zero_le _, rfl, by have e : cn n 0 = 0 := (by unfold cn; rw [if_pos (Nat.zero_le _)]); rw [e]; exact Ot9.start _ _ _⟩
  case round =>
    obtain ⟨k, hk, rfl, hG⟩ := hrel
    obtain ⟨oa, oC, rfl, -⟩ := hG.l.form
    obtain ⟨ob, oD, rfl, -⟩ := hG.b.form
    by_cases hlt : k < m
    case neg =>
      obtain rfl : k = m := by omega
      have HG : Hid _ := hG
      have e := cn_all HM.out.2.1
      have ib : ¬ ((k : Nat) : Int) < (k : Int) := Int.lt_irrefl _
      clear hG
      go_wp2
      go_ret2
      exact ⟨_, _, rfl, by have := HG.out; rw [e] at this; exact this⟩
    case pos =>
    have q1 : wr.cell? ⟨b, o' + k, none⟩ = some (V k) := (hG.bel.cell (p := ⟨b, o' + k, none⟩) HM.out.2.2).trans (HC.out k hlt)
    have ib : ((k : Nat) : Int) < (m : Int) := by omega
    have W1 := wrap_succ8 (j := k) (by have := HM.out.1; unfold big; omega)
    obtain ⟨x1, l1, y1, e1⟩ := HV.out k hlt
    rw [e1] at q1
    by_cases hkn : k = n
    case pos =>
      subst hkn
      have HG : Hid _ := hG
      clear hG e1
      go_wp2
      go_roundw
      case rel => exact ⟨k + 1, hlt, by first | rfl | (rw [W1]; rfl), by have := HG.out; rw [cn_same]; exact this⟩
      case measure => first | exact meas_lt8 hlt | (rw [W1]; exact meas_lt8 hlt)
    case neg =>
    have hkI : ¬ ((k : Nat) : Int) = (n : Int) := by omega
    have ok : oth n (cn n k) = k := oth_cn hkn
    obtain ⟨v5, w5, v7, w7, run5, b5, run7, hG7⟩ := hG.step (by rw [ok, e1]; rfl) (by have := cn_le n k; have := HM.out.1; omega)
    rw [ok, e1] at run5
    rw [ok] at run7
    have c1 := at9_any (.slice xr nr cr) nr R k w5 (HR.out.below b5)
    have HG : Hid (Ot9 w w7 v5 v7 (cn n (k + 1)) (fun i => V (oth n i)) (fun i => at9 nr R (oth n i))) := by rw [cn_succ hkn]; exact hG7
    obtain ⟨oa5, oC5, rfl, -⟩ := hG7.l.form
    obtain ⟨oa7, oC7, rfl, -⟩ := hG7.b.form
    have H7 : Hid _ := run7
    clear hG hG7 e1 ok hkn b5 run7
    go_wp2_with (first
      | (at_builtin; refine Lib.wpList_append_run _ rfl _ _ _ _ rfl _ _ rfl rfl _ _ run5 ?_; clear run5; have run7 := H7.out)
      | (go_at_call 43; (with_reducible refine c1.mono ?_); rintro e w6 ⟨rfl, hw6⟩; have hw6 := hw6.symm; subst hw6; clear c1)
      | (at_builtin; refine Lib.wpList_append_run _ rfl _ _ _ _ rfl _ _ rfl rfl _ _ run7 ?_; clear run7))
    go_roundw
    case rel => exact ⟨k + 1, hlt, by first | rfl | (rw [W1]; rfl), HG.out⟩
    case measure => first | exact meas_lt8 hlt | (rw [W1]; exact meas_lt8 hlt)
/-- what the others are. -/
theorem Ot9.ll {w0 w : World} {av bv : Value} {k : Nat} {V : Nat → Value} {F : Nat → Nat} (h : Ot9 w0 w av bv k V F) {E : Nat → Prop} (hE : ∀ x, E x → x < w0.heap.size) : Lv E w av k V := by
  obtain ⟨a, c, rfl, c1, c2, hf⟩ := h.l.form
  refine ⟨by unfold big; unfold maxLen at c2; omega, _, _, rfl, c1, by unfold big; unfold maxLen at c2; omega, fun h0 => ?_⟩
  obtain ⟨g, e1, g1, g2, -, g4⟩ := hf h0
  exact ⟨g, 0, e1, ⟨g2, fun e => by have := hE g e; omega⟩, fun i hi => by rw [Nat.zero_add]; exact g4 i hi⟩
theorem Ot9.re {w0 w : World} {av bv : Value} {k : Nat} {V : Nat → Value} {F : Nat → Nat} (h : Ot9 w0 w av bv k V F) (hF : ∀ i, i < k → F i < 256) {E : Nat → Prop} (hE : ∀ x, E x → x < w0.heap.size) : Re E w bv k F := by
  obtain ⟨a, c, rfl, c1, c2, hf⟩ := h.b.form
  refine ⟨by unfold big; unfold maxLen at c2; omega, hF, _, _, rfl, c1, by unfold big; unfold maxLen at c2; omega, fun h0 => ?_⟩
  obtain ⟨g, e1, g1, g2, -, g4⟩ := hf h0
  exact ⟨g, 0, e1, ⟨g2, fun e => by have := hE g e; omega⟩, fun i hi => by rw [Nat.zero_add]; exact g4 i hi⟩
theorem at9_lt {nr : Nat} {R : Nat → Nat} (h : ∀ i, i < nr → R i < 256) (i : Nat) : at9 nr R i < 256 := by unfold at9; split; exact h _ (by assumption); decide
end Go.Proofs.Ytdeophhcbkahgaa
namespace Go.Proofs.Ytdeophhcbkahgaa
open Go.RowKit Gf2
set_option linter.unusedVariables false

-- layer 9: KernelLives: played (laid by wip/genkvb.py)
/-- a step's seven cells. -/
def cz9 (kind : Int) (c : Nat) (kto kfo : Int) (vr : Value) (fr tt : Int) : Array Value := #[.int .i64 kind, .int .u8 (c : Int), .int .i64 kto, .int .i64 kfo, vr, .int .i64 fr, .int .i64 tt]
section
variable {l h m : Nat} {w w' : World} {v : Value} {n C B : Nat → Nat} {T : Nat → Nat → Nat}
theorem Cs.one (hd : Cs l h w v m n C B T) {t : Nat} (ht : t < m) {F : Nat → Nat} (hk : Kp (B t) w w') (r : Rw w' (B t) (C t) F) : Ke (In l h) w w' ∧ Cs l h w' v m n C B (upn T t F) := by
  refine ⟨hk.ke.mono (fun x _ e => by subst e; exact ⟨(hd.row t ht).1, (hd.row t ht).2.1⟩), hd.turn (hk.ke.mono (fun x _ e => ⟨t, ht, e⟩)) (fun i hi => ?_)⟩
  by_cases e : i = t
  · subst e; rw [upn_same]; exact r
  · rw [upn_other _ _ e]
    exact hk.ke.rw_ (hd.row i hi).2.2.2 (fun e' => e (hd.inj i t hi ht e'))
theorem Cs.mem {gh ch : Nat} (hd : Cs l h w (.slice (some ⟨gh, 0, none⟩) m ch) m n C B T) {i : Nat} (hi : i < m) : w.cell? ⟨gh, i, none⟩ = some (.slice (some ⟨B i, 0, none⟩) (n i) (C i)) := by
  obtain ⟨a, c, e, -, -, hf⟩ := hd.form
  cases e
  obtain ⟨g, e1, -, -, -, g4⟩ := hf (by omega)
  cases e1
  exact g4 i hi
variable {p : Addr} {bk klo khi to fo c : Nat}
theorem lv_mul (hd : Cs l h w v m n n B T) (hk : Ks w p bk klo khi) (hkl : khi ≤ l) (ht : to < m) (hf : fo < m) (hc : c < 256) :
    Calls Try.prog 34 #[.pointer (some p), .int .u8 (c : Int), .slice (some ⟨B to, 0, none⟩) (n to) (n to), .slice (some ⟨B fo, 0, none⟩) (n fo) (n fo)] w fun e w' => e = .returned (.int .i64 (er9 (n to) (n fo) : Nat)) ∧ Ke (In l h) w w' ∧ Cs l h w' v m n n B (upn T to (vl9 (n to) (n fo) (T to) (fun j => fm 285 c (T fo j)))) := by
  have r := (hd.row to ht).2.2.2
  have g1 := (hd.row to ht).1
  by_cases e : to = fo
  · subst e
    refine (kmul_same p bk klo khi c (n to) (B to) 0 (n to) (T to) _ _ w (Nat.le_refl _) r.1 hk hc r.1 (.inr (by omega)) r (fun _ => rfl) (by omega)).mono ?_
    rintro e w' ⟨rfl, k1, r1⟩
    refine ⟨by unfold er9; rw [if_pos rfl]; rfl, hd.one ht k1 (r1.congr (fun j hj => ?_))⟩
    unfold vl9
    rw [if_pos rfl, pl_all hj, Nat.zero_add]
  · have r2 := (hd.row fo hf).2.2.2
    refine (rw_mul9 r (r2.re (Nat.le_refl _) (Nat.le_refl _) r2.1 (fun e' => e (hd.inj to fo ht hf e'.symm))) hk (.inr (by omega)) hc).mono ?_
    rintro e w' ⟨rfl, k1, r1⟩
    exact ⟨rfl, hd.one ht k1 r1⟩
theorem lv_add (hd : Cs l h w v m n n B T) (hk : Ks w p bk klo khi) (hkl : khi ≤ l) (ht : to < m) (hf : fo < m) (hc : c < 256) :
    Calls Try.prog 10 #[.pointer (some p), .int .u8 (c : Int), .slice (some ⟨B to, 0, none⟩) (n to) (n to), .slice (some ⟨B fo, 0, none⟩) (n fo) (n fo)] w fun e w' => e = .returned (.int .i64 (er9 (n to) (n fo) : Nat)) ∧ Ke (In l h) w w' ∧ Cs l h w' v m n n B (upn T to (vl9 (n to) (n fo) (T to) (fun j => fm 285 c (T fo j) ^^^ T to j))) := by
  have r := (hd.row to ht).2.2.2
  have g1 := (hd.row to ht).1
  by_cases e : to = fo
  · subst e
    refine (kadd_same p bk klo khi c (n to) (B to) 0 (n to) (T to) _ _ w (Nat.le_refl _) r.1 hk hc r.1 (.inr (by omega)) r (fun _ => rfl) (by omega)).mono ?_
    rintro e w' ⟨rfl, k1, r1⟩
    refine ⟨by unfold er9; rw [if_pos rfl]; rfl, hd.one ht k1 (r1.congr (fun j hj => ?_))⟩
    unfold vl9
    rw [if_pos rfl, pl_all hj, Nat.zero_add, Nat.xor_comm]
  · have r2 := (hd.row fo hf).2.2.2
    refine (rw_add9 r (r2.re (Nat.le_refl _) (Nat.le_refl _) r2.1 (fun e' => e (hd.inj to fo ht hf e'.symm))) hk (.inr (by omega)) hc).mono ?_
    rintro e w' ⟨rfl, k1, r1⟩
    exact ⟨rfl, hd.one ht k1 r1⟩
theorem lv_xor (hd : Cs l h w v m n n B T) (ht : to < m) (hf : fo < m) :
    Calls Try.prog 35 #[.slice (some ⟨B to, 0, none⟩) (n to) (n to), .slice (some ⟨B fo, 0, none⟩) (n fo) (n fo)] w fun e w' => e = .returned (.int .i64 (er9 (n to) (n fo) : Nat)) ∧ Ke (In l h) w w' ∧ Cs l h w' v m n n B (upn T to (vl9 (n to) (n fo) (T to) (fun j => T fo j ^^^ T to j))) := by
  have r := (hd.row to ht).2.2.2
  have g1 := (hd.row to ht).1
  by_cases e : to = fo
  · subst e
    refine (kxor_same (n to) (B to) 0 (n to) (T to) _ _ w (Nat.le_refl _) r.1 r.1 r (fun _ => rfl) (by omega)).mono ?_
    rintro e w' ⟨rfl, k1, r1⟩
    refine ⟨by unfold er9; rw [if_pos rfl]; rfl, hd.one ht k1 (r1.congr (fun j hj => ?_))⟩
    unfold vl9
    rw [if_pos rfl, pl_all hj, Nat.zero_add]
  · have r2 := (hd.row fo hf).2.2.2
    refine (rw_xor9 r (r2.re (Nat.le_refl _) (Nat.le_refl _) r2.1 (fun e' => e (hd.inj to fo ht hf e'.symm)))).mono ?_
    rintro e w' ⟨rfl, k1, r1⟩
    exact ⟨rfl, hd.one ht k1 r1⟩
variable {nr : Nat} {R : Nat → Nat} {vr av bv : Value} {w1 : World} {gh ch : Nat}
/-- the value of the i-th slice. -/
def vh9 (n B : Nat → Nat) (i : Nat) : Value := .slice (some ⟨B i, 0, none⟩) (n i) (n i)
theorem lv_dot (hd : Cs l h w v m n n B T) (hk : Ks w p bk klo khi) (hkl : khi ≤ l) (ht : to < m) (hm : 24 * m ≤ 140737488351232) (hR : ∀ i, i < nr → R i < 256)
    (ho : Ot9 w w1 av bv (m - 1) (fun i => vh9 n B (oth to i)) (fun i => at9 nr R (oth to i))) :
    Calls Try.prog 11 #[.pointer (some p), bv, av, .slice (some ⟨B to, 0, none⟩) (n to) (n to)] w1 fun e w' => e = .returned (.int .i64 (de9 (m - 1) (m - 1) (n to) (fun i => n (oth to i)) : Nat)) ∧ Ke (In l h) w1 w' ∧ Cs l h w' v m n n B (upn T to (dv9 (m - 1) (m - 1) (n to) (fun i => n (oth to i)) (fun i => at9 nr R (oth to i)) (T to) (fun i => T (oth to i)))) := by
  have hd1 := hd.below ho.bel
  have r := (hd1.row to ht).2.2.2
  have g1 := (hd1.row to ht).1
  have g2 := (hd.row to ht).2.1
  have hw := hd.hw
  have hE : ∀ x, x = B to → x < w.heap.size := fun x e => by omega
  have hs : Ll (fun x => x = B to) w1 av (m - 1) (fun i => n (oth to i)) (fun i => T (oth to i)) := ⟨_, ho.ll hE, fun i hi => by
    have hl := oth_lt ht hi
    have r2 := (hd1.row _ hl).2.2.2
    exact r2.re (Nat.le_refl _) (Nat.le_refl _) r2.1 (fun e' => oth_ne to i (hd.inj _ _ hl ht e'))⟩
  refine (rw_dot9 r (ho.re (fun i _ => at9_lt hR _) hE) hs (hk.below ho.bel) (.inr (by omega)) (by omega) (by omega)).mono ?_
  rintro e w' ⟨rfl, k1, r1⟩
  exact ⟨rfl, hd1.one ht k1 r1⟩
theorem spread_eb {d L c : Nat} {nd C B K F : Nat → Nat} {D : Nat → Nat → Nat} {col diff dsts : Value} {lo hi : Nat} (hd : Cs lo hi w dsts d nd C B D) (hc : Re (Eb d B) w col c K) (hs : Re (Eb d B) w diff L F) (hk : Ks w p bk klo khi) (hkl : ∀ r, r < d → B r < klo ∨ khi ≤ B r)
    (fr to : Int) (hcb : c ≤ 140737488351232) (hdb : 24 * d ≤ 140737488351232) :
    Calls Try.prog 13 #[.pointer (some p), col, diff, dsts, .agg #[.int .i64 fr, .int .i64 to]] w fun e w' => e = .returned (.int .i64 (sf9 c d L nd fr to : Nat)) ∧ Ke (Eb d B) w w' ∧ ∀ i, i < d → Rw w' (B i) (C i) (sp9 c d L nd fr to K F D i) := by
  by_cases hf : sf9 c d L nd fr to = 0
  · obtain ⟨⟨rfl, hnd⟩, r1, r2, r3⟩ := sf9_split hf
    obtain ⟨f, rfl⟩ : ∃ f : Nat, fr = (f : Int) := ⟨fr.toNat, by omega⟩
    obtain ⟨t, rfl⟩ : ∃ t : Nat, to = (t : Int) := ⟨to.toNat, by omega⟩
    refine (kspread_ok p bk klo khi c L f t B _ _ K F _ col diff dsts w hk (by omega) hkl hc hs (hd.dl hnd) (by omega) (by omega)).mono ?_
    rintro e w' ⟨rfl, hke, hrw⟩
    refine ⟨by rw [hf]; rfl, hke, fun i hi => ?_⟩
    have := hrw i hi
    rw [inv9_at hd.inj hi] at this
    refine this.congr (fun j _ => ?_)
    rw [cs_spb hd.inj f t (fun r j => fm 285 (K r) (F j)) D hi]
    unfold sp9
    by_cases e : f ≤ j ∧ j < t
    · rw [if_pos e, if_pos ⟨hf, by omega, by omega⟩]
    · rw [if_neg e, if_neg (fun h => e ⟨by omega, by omega⟩)]
  · refine (kspread_fit p bk klo khi c L d nd K F D fr to col diff dsts w hk (by omega) (by omega) hc.rb hs.rb hd.lb hf).mono ?_
    rintro e w' ⟨rfl, hb⟩
    refine ⟨rfl, ke_below hb _, fun i hi => ((hd.below hb).row i hi).2.2.2.congr (fun j hj => ?_)⟩
    unfold sp9
    rw [if_neg (fun h => hf h.1)]
theorem lv_cs (hd : Cs l h w (.slice (some ⟨gh, 0, none⟩) m ch) m n n B T) (h0 : 0 < m) : Lv (fun _ => False) w (.slice (some ⟨gh, 0, none⟩) m ch) m (vh9 n B) := by
  obtain ⟨a, c, e, c1, c2, hf⟩ := hd.form
  cases e
  obtain ⟨g, e1, g1, g2, -, g4⟩ := hf h0
  cases e1
  have := hd.hw
  exact ⟨hd.mb, _, _, rfl, c1, c2, fun _ => ⟨gh, 0, rfl, ⟨by omega, fun e => e⟩, fun i hi => by rw [Nat.zero_add]; exact g4 i hi⟩⟩
/-- what Spread over the others makes of all. -/
def sq9 (m : Nat) (n : Nat → Nat) (nr : Nat) (R : Nat → Nat) (T : Nat → Nat → Nat) (fr tt : Int) (fo i : Nat) : Nat → Nat :=
  if i = fo then T fo else sp9 (m - 1) (m - 1) (n fo) (fun i => n (oth fo i)) fr tt (fun i => at9 nr R (oth fo i)) (T fo) (fun i => T (oth fo i)) (cn fo i)
theorem cn_lt {n k m : Nat} (hn : n < m) (hk : k < m) (h : k ≠ n) : cn n k < m - 1 := by unfold cn; split <;> omega
theorem lv_spread (hd : Cs l h w v m n n B T) (hk : Ks w p bk klo khi) (hkl : khi ≤ l) (hf : fo < m) (hm : 24 * m ≤ 140737488351232) (hR : ∀ i, i < nr → R i < 256) (fr tt : Int)
    (ho : Ot9 w w1 av bv (m - 1) (fun i => vh9 n B (oth fo i)) (fun i => at9 nr R (oth fo i))) {w2 : World} (h2 : Below w1.heap.size w1 w2) :
    Calls Try.prog 13 #[.pointer (some p), bv, .slice (some ⟨B fo, 0, none⟩) (n fo) (n fo), av, .agg #[.int .i64 fr, .int .i64 tt]] w2 fun e w' => e = .returned (.int .i64 (sf9 (m - 1) (m - 1) (n fo) (fun i => n (oth fo i)) fr tt : Nat)) ∧ Ke (In l h) w2 w' ∧ Cs l h w' v m n n B (sq9 m n nr R T fr tt fo) := by
  have hd1 := hd.below ho.bel
  have hw := hd.hw
  have hs1 := ho.bel.size
  have hin : ∀ x, Eb (m - 1) (fun i => B (oth fo i)) x → In l h x := fun x ⟨r, hr, e⟩ => by
    have := hd.row _ (oth_lt hf hr)
    subst e
    exact ⟨this.1, this.2.1⟩
  have hE : ∀ x, Eb (m - 1) (fun i => B (oth fo i)) x → x < w.heap.size := fun x e => by have := (hin x e).2; omega
  obtain ⟨-, aa, ca, eav, c1, c2, hfv⟩ := ho.ll (E := fun x => x < w.heap.size) (fun x e => e)
  have hl : l ≤ h := by have := hd.row fo hf; omega
  have hC : Cs l w1.heap.size w1 av (m - 1) (fun i => n (oth fo i)) (fun i => n (oth fo i)) (fun i => B (oth fo i)) (fun i => T (oth fo i)) := by
    refine ⟨by unfold big; omega, Nat.le_refl _, ⟨aa, ca, eav, c1, c2, fun h0 => ?_⟩, fun i hi => ?_, fun i j hi hj e => oth_inj (hd.inj _ _ (oth_lt hf hi) (oth_lt hf hj) e)⟩
    · obtain ⟨a, c, e3, -, -, hf3⟩ := ho.l.form
      rw [eav] at e3
      cases e3
      obtain ⟨g, e1, g1, g2, -, g4⟩ := hf3 h0
      refine ⟨g, e1, by omega, g2, fun i hi e => ?_, g4⟩
      have := (hd.row _ (oth_lt hf hi)).2.1
      omega
    · obtain ⟨r1, r2, r3, r4⟩ := hd1.row _ (oth_lt hf hi)
      exact ⟨r1, by omega, r3, r4⟩
  have hd2 := hd1.below h2
  have r2 := (hd2.row fo hf).2.2.2
  have hcol : Re (Eb (m - 1) (fun i => B (oth fo i))) w2 bv (m - 1) (fun i => at9 nr R (oth fo i)) := (ho.re (fun i _ => at9_lt hR _) hE).ke (ke_below h2 _)
  refine (spread_eb (hC.below h2) hcol (r2.re (Nat.le_refl _) (Nat.le_refl _) r2.1 (fun ⟨i, hi, e'⟩ => oth_ne fo i (hd.inj _ _ (oth_lt hf hi) hf e'.symm))) ((hk.below ho.bel).below h2) (fun r hr => .inr (by have := (hd.row _ (oth_lt hf hr)).1; omega)) fr tt (by omega) (by omega)).mono ?_
  rintro e w' ⟨rfl, k1, r1⟩
  refine ⟨rfl, k1.mono (fun x _ e => hin x e), hd2.turn (k1.mono (fun x _ ⟨r, hr, e⟩ => ⟨oth fo r, oth_lt hf hr, e⟩)) (fun i hi => ?_)⟩
  by_cases e : i = fo
  · subst e
    unfold sq9
    rw [if_pos rfl]
    exact k1.rw_ r2 (fun ⟨j, hj, e'⟩ => oth_ne i j (hd.inj _ _ (oth_lt hf hj) hf e'.symm))
  · unfold sq9
    rw [if_neg e]
    have := r1 (cn fo i) (cn_lt hf hi e)
    rw [oth_cn e] at this
    exact this
end

set_option maxHeartbeats 4000000 in
set_option maxRecDepth 100000 in
theorem played9_0 (p : Addr) (bk klo khi : Nat) (l h m gh ch : Nat) (n B : Nat → Nat) (T : Nat → Nat → Nat) (c : Nat) (kto kfo : Int) (vr : Value) (nr : Nat) (R : Nat → Nat) (fr tt : Int) (to fo : Nat) (w : World) (hd : Cs l h w (.slice (some ⟨gh, 0, none⟩) m ch) m n n B T) (hk : Ks w p bk klo khi) (hkl : khi ≤ l) (hr : Rb w vr nr R) (hc : c < 256) (ht : to < m) (hf : fo < m) (hnr : nr ≤ 140737488351232) (hm : 24 * m ≤ 140737488351232) :
    Calls Try.prog 20 #[.pointer (some p), .agg (cz9 0 c kto kfo vr fr tt), .slice (some ⟨gh, 0, none⟩) m ch, .int .i64 (to : Int), .int .i64 (fo : Int)] w fun e w' => e = .returned (.int .i64 (er9 (n to) (n fo) : Nat)) ∧ Ke (In l h) w w' ∧ Cs l h w' (.slice (some ⟨gh, 0, none⟩) m ch) m n n B (upn T to (vl9 (n to) (n fo) (T to) (fun j => fm 285 c (T fo j)))) := by
  have bX : Below w.heap.size w (w.alloc (.cells (cz9 0 c kto kfo vr fr tt) 55)) := (Below.refl _ _).alloc (Nat.le_refl _) _
  have hX : Box9 (w.alloc (.cells (cz9 0 c kto kfo vr fr tt) 55)) w.heap.size (cz9 0 c kto kfo vr fr tt) 55 := Box9.new _ _ _
  have y0 := hX.cell (i := 0) (v := .int .i64 (0)) rfl
  have y1 := hX.cell (i := 1) (v := .int .u8 (c : Int)) rfl
  have y4 := hX.cell (i := 4) (v := vr) rfl
  have y5 := hX.cell (i := 5) (v := .int .i64 fr) rfl
  have y6 := hX.cell (i := 6) (v := .int .i64 tt) rfl
  generalize cz9 0 c kto kfo vr fr tt = A at bX hX y0 y1 y4 y5 y6 ⊢
  have HX : Hid (Below w.heap.size w (w.alloc (.cells A 55)) ∧ Box9 (w.alloc (.cells A 55)) w.heap.size A 55) := ⟨bX, hX⟩
  have itm : ((to : Nat) : Int) < (m : Int) := by omega
  have ifm : ((fo : Nat) : Int) < (m : Int) := by omega

  have cC := lv_mul (hd.below bX.drew) (hk.below bX.drew) hkl ht hf hc
  have z1 := (hd.below bX).mem ht
  have z2 := (hd.below bX).mem hf
  have HH : Hid (h ≤ w.heap.size) := hd.hw
  clear hd hk hr bX hX y4 y5 y6
  go_enter Try.func20, Try.ntmps20
  go_wp2
  generalize w.alloc (.cells A 55) = x0 at HX y0 y1 z1 z2 cC ⊢
  have HY1 : Hid (x0.cell? ⟨w.heap.size, 1, none⟩ = some (.int .u8 (c : Int))) := y1
  refine region_planI (fun w' => w'.cell? ⟨gh, to, none⟩ = some (.slice (some ⟨B to, 0, none⟩) (n to) (n to)) ∧ w'.cell? ⟨gh, fo, none⟩ = some (.slice (some ⟨B fo, 0, none⟩) (n fo) (n fo)) ∧ w'.cell? ⟨w.heap.size, 1, none⟩ = some (.int .u8 (c : Int))) [0, 1, 2, 3, 4, 5, 6, 7, 8, 9, 10, 11, 12] [11, 1] 94 ⟨z1, z2, y1⟩ (by kernel_rfl) (by kernel_rfl) (fun _ a d v _ h => by cases d <;> exact h) ?_
  simp only [atI, List.getElem?_cons_zero, List.getElem?_cons_succ]
  clear y0 y1 z1 z2
  refine planH_step ?A1 rfl (fun w' hS => ?s1) rfl (fun K hK => ?n1)
  case s1 =>
    obtain ⟨z1, z2, y1⟩ := hS
    simp only [List.take_succ_cons, List.take_zero]
    repeat still_step
    exact rfl
  case n1 =>
  go_simp
  go_wp2_with (go_at_call 34; (with_reducible refine cC.mono ?_); rintro e x1 ⟨rfl, hk, hC⟩)
  clear cC
  have HC : Hid (Ke (In l h) w x1 ∧ Cs l h x1 (.slice (some ⟨gh, 0, none⟩) m ch) m n n B (upn T to (vl9 (n to) (n fo) (T to) (fun j => fm 285 c (T fo j))))) := ⟨(ke_below HX.out.1.drew _).trans hk, hC⟩
  have HY : Hid (x1.cell? ⟨w.heap.size, 1, none⟩ = some (.int .u8 (c : Int))) := (hk.cell (h := w.heap.size) (q := 1) HX.out.2.lt (fun e => Nat.lt_irrefl _ (Nat.lt_of_lt_of_le e.2 HH.out))).trans HY1.out
  refine hK _ _ ⟨HC.out.2.mem ht, HC.out.2.mem hf, HY.out⟩ ?_
  clear hK K hk hC HY
  refine planH_last ?A2 rfl (fun w' hS => ?s2) rfl ?n2
  case s2 =>
    simp only [List.take_succ_cons, List.take_zero]
    repeat still_step
    exact rfl
  case n2 =>
  go_wp2
  go_ret
  exact ⟨rfl, HC.out⟩
set_option maxHeartbeats 4000000 in
set_option maxRecDepth 100000 in
theorem played9_1 (p : Addr) (bk klo khi : Nat) (l h m gh ch : Nat) (n B : Nat → Nat) (T : Nat → Nat → Nat) (c : Nat) (kto kfo : Int) (vr : Value) (nr : Nat) (R : Nat → Nat) (fr tt : Int) (to fo : Nat) (w : World) (hd : Cs l h w (.slice (some ⟨gh, 0, none⟩) m ch) m n n B T) (hk : Ks w p bk klo khi) (hkl : khi ≤ l) (hr : Rb w vr nr R) (hc : c < 256) (ht : to < m) (hf : fo < m) (hnr : nr ≤ 140737488351232) (hm : 24 * m ≤ 140737488351232) :
    Calls Try.prog 20 #[.pointer (some p), .agg (cz9 1 c kto kfo vr fr tt), .slice (some ⟨gh, 0, none⟩) m ch, .int .i64 (to : Int), .int .i64 (fo : Int)] w fun e w' => e = .returned (.int .i64 (er9 (n to) (n fo) : Nat)) ∧ Ke (In l h) w w' ∧ Cs l h w' (.slice (some ⟨gh, 0, none⟩) m ch) m n n B (upn T to (vl9 (n to) (n fo) (T to) (fun j => fm 285 c (T fo j) ^^^ T to j))) := by
  have bX : Below w.heap.size w (w.alloc (.cells (cz9 1 c kto kfo vr fr tt) 55)) := (Below.refl _ _).alloc (Nat.le_refl _) _
  have hX : Box9 (w.alloc (.cells (cz9 1 c kto kfo vr fr tt) 55)) w.heap.size (cz9 1 c kto kfo vr fr tt) 55 := Box9.new _ _ _
  have y0 := hX.cell (i := 0) (v := .int .i64 (1)) rfl
  have y1 := hX.cell (i := 1) (v := .int .u8 (c : Int)) rfl
  have y4 := hX.cell (i := 4) (v := vr) rfl
  have y5 := hX.cell (i := 5) (v := .int .i64 fr) rfl
  have y6 := hX.cell (i := 6) (v := .int .i64 tt) rfl
  generalize cz9 1 c kto kfo vr fr tt = A at bX hX y0 y1 y4 y5 y6 ⊢
  have HX : Hid (Below w.heap.size w (w.alloc (.cells A 55)) ∧ Box9 (w.alloc (.cells A 55)) w.heap.size A 55) := ⟨bX, hX⟩
  have itm : ((to : Nat) : Int) < (m : Int) := by omega
  have ifm : ((fo : Nat) : Int) < (m : Int) := by omega

  have cC := lv_add (hd.below bX.drew) (hk.below bX.drew) hkl ht hf hc
  have z1 := (hd.below bX).mem ht
  have z2 := (hd.below bX).mem hf
  have HH : Hid (h ≤ w.heap.size) := hd.hw
  clear hd hk hr bX hX y4 y5 y6
  go_enter Try.func20, Try.ntmps20
  go_wp2
  generalize w.alloc (.cells A 55) = x0 at HX y0 y1 z1 z2 cC ⊢
  have HY1 : Hid (x0.cell? ⟨w.heap.size, 1, none⟩ = some (.int .u8 (c : Int))) := y1
  refine region_planI (fun w' => w'.cell? ⟨gh, to, none⟩ = some (.slice (some ⟨B to, 0, none⟩) (n to) (n to)) ∧ w'.cell? ⟨gh, fo, none⟩ = some (.slice (some ⟨B fo, 0, none⟩) (n fo) (n fo)) ∧ w'.cell? ⟨w.heap.size, 1, none⟩ = some (.int .u8 (c : Int))) [0, 1, 2, 3, 4, 5, 6, 7, 8, 9, 10, 11, 12] [11, 1] 94 ⟨z1, z2, y1⟩ (by kernel_rfl) (by kernel_rfl) (fun _ a d v _ h => by cases d <;> exact h) ?_
  simp only [atI, List.getElem?_cons_zero, List.getElem?_cons_succ]
  clear y0 y1 z1 z2
  refine planH_step ?A1 rfl (fun w' hS => ?s1) rfl (fun K hK => ?n1)
  case s1 =>
    obtain ⟨z1, z2, y1⟩ := hS
    simp only [List.take_succ_cons, List.take_zero]
    repeat still_step
    exact rfl
  case n1 =>
  go_simp
  go_wp2_with (go_at_call 10; (with_reducible refine cC.mono ?_); rintro e x1 ⟨rfl, hk, hC⟩)
  clear cC
  have HC : Hid (Ke (In l h) w x1 ∧ Cs l h x1 (.slice (some ⟨gh, 0, none⟩) m ch) m n n B (upn T to (vl9 (n to) (n fo) (T to) (fun j => fm 285 c (T fo j) ^^^ T to j)))) := ⟨(ke_below HX.out.1.drew _).trans hk, hC⟩
  have HY : Hid (x1.cell? ⟨w.heap.size, 1, none⟩ = some (.int .u8 (c : Int))) := (hk.cell (h := w.heap.size) (q := 1) HX.out.2.lt (fun e => Nat.lt_irrefl _ (Nat.lt_of_lt_of_le e.2 HH.out))).trans HY1.out
  refine hK _ _ ⟨HC.out.2.mem ht, HC.out.2.mem hf, HY.out⟩ ?_
  clear hK K hk hC HY
  refine planH_last ?A2 rfl (fun w' hS => ?s2) rfl ?n2
  case s2 =>
    simp only [List.take_succ_cons, List.take_zero]
    repeat still_step
    exact rfl
  case n2 =>
  go_wp2
  go_ret
  exact ⟨rfl, HC.out⟩
set_option maxHeartbeats 4000000 in
set_option maxRecDepth 100000 in
theorem played9_2 (p : Addr) (bk klo khi : Nat) (l h m gh ch : Nat) (n B : Nat → Nat) (T : Nat → Nat → Nat) (c : Nat) (kto kfo : Int) (vr : Value) (nr : Nat) (R : Nat → Nat) (fr tt : Int) (to fo : Nat) (w : World) (hd : Cs l h w (.slice (some ⟨gh, 0, none⟩) m ch) m n n B T) (hk : Ks w p bk klo khi) (hkl : khi ≤ l) (hr : Rb w vr nr R) (hc : c < 256) (ht : to < m) (hf : fo < m) (hnr : nr ≤ 140737488351232) (hm : 24 * m ≤ 140737488351232) :
    Calls Try.prog 20 #[.pointer (some p), .agg (cz9 2 c kto kfo vr fr tt), .slice (some ⟨gh, 0, none⟩) m ch, .int .i64 (to : Int), .int .i64 (fo : Int)] w fun e w' => e = .returned (.int .i64 (er9 (n to) (n fo) : Nat)) ∧ Ke (In l h) w w' ∧ Cs l h w' (.slice (some ⟨gh, 0, none⟩) m ch) m n n B (upn T to (vl9 (n to) (n fo) (T to) (fun j => T fo j ^^^ T to j))) := by
  have bX : Below w.heap.size w (w.alloc (.cells (cz9 2 c kto kfo vr fr tt) 55)) := (Below.refl _ _).alloc (Nat.le_refl _) _
  have hX : Box9 (w.alloc (.cells (cz9 2 c kto kfo vr fr tt) 55)) w.heap.size (cz9 2 c kto kfo vr fr tt) 55 := Box9.new _ _ _
  have y0 := hX.cell (i := 0) (v := .int .i64 (2)) rfl
  have y1 := hX.cell (i := 1) (v := .int .u8 (c : Int)) rfl
  have y4 := hX.cell (i := 4) (v := vr) rfl
  have y5 := hX.cell (i := 5) (v := .int .i64 fr) rfl
  have y6 := hX.cell (i := 6) (v := .int .i64 tt) rfl
  generalize cz9 2 c kto kfo vr fr tt = A at bX hX y0 y1 y4 y5 y6 ⊢
  have HX : Hid (Below w.heap.size w (w.alloc (.cells A 55)) ∧ Box9 (w.alloc (.cells A 55)) w.heap.size A 55) := ⟨bX, hX⟩
  have itm : ((to : Nat) : Int) < (m : Int) := by omega
  have ifm : ((fo : Nat) : Int) < (m : Int) := by omega

  have cC := lv_xor (hd.below bX.drew) ht hf
  have z1 := (hd.below bX).mem ht
  have z2 := (hd.below bX).mem hf
  have HH : Hid (h ≤ w.heap.size) := hd.hw
  clear hd hk hr bX hX y4 y5 y6
  go_enter Try.func20, Try.ntmps20
  go_wp2
  generalize w.alloc (.cells A 55) = x0 at HX y0 y1 z1 z2 cC ⊢
  have HY1 : Hid (x0.cell? ⟨w.heap.size, 1, none⟩ = some (.int .u8 (c : Int))) := y1
  refine region_planI (fun w' => w'.cell? ⟨gh, to, none⟩ = some (.slice (some ⟨B to, 0, none⟩) (n to) (n to)) ∧ w'.cell? ⟨gh, fo, none⟩ = some (.slice (some ⟨B fo, 0, none⟩) (n fo) (n fo)) ∧ w'.cell? ⟨w.heap.size, 1, none⟩ = some (.int .u8 (c : Int))) [0, 1, 2, 3, 4, 5, 6, 7, 8, 9] [8, 1] 94 ⟨z1, z2, y1⟩ (by kernel_rfl) (by kernel_rfl) (fun _ a d v _ h => by cases d <;> exact h) ?_
  simp only [atI, List.getElem?_cons_zero, List.getElem?_cons_succ]
  clear y0 y1 z1 z2
  refine planH_step ?A1 rfl (fun w' hS => ?s1) rfl (fun K hK => ?n1)
  case s1 =>
    obtain ⟨z1, z2, y1⟩ := hS
    simp only [List.take_succ_cons, List.take_zero]
    repeat still_step
    exact rfl
  case n1 =>
  go_simp
  go_wp2_with (go_at_call 35; (with_reducible refine cC.mono ?_); rintro e x1 ⟨rfl, hk, hC⟩)
  clear cC
  have HC : Hid (Ke (In l h) w x1 ∧ Cs l h x1 (.slice (some ⟨gh, 0, none⟩) m ch) m n n B (upn T to (vl9 (n to) (n fo) (T to) (fun j => T fo j ^^^ T to j)))) := ⟨(ke_below HX.out.1.drew _).trans hk, hC⟩
  have HY : Hid (x1.cell? ⟨w.heap.size, 1, none⟩ = some (.int .u8 (c : Int))) := (hk.cell (h := w.heap.size) (q := 1) HX.out.2.lt (fun e => Nat.lt_irrefl _ (Nat.lt_of_lt_of_le e.2 HH.out))).trans HY1.out
  refine hK _ _ ⟨HC.out.2.mem ht, HC.out.2.mem hf, HY.out⟩ ?_
  clear hK K hk hC HY
  refine planH_last ?A2 rfl (fun w' hS => ?s2) rfl ?n2
  case s2 =>
    simp only [List.take_succ_cons, List.take_zero]
    repeat still_step
    exact rfl
  case n2 =>
  go_wp2
  go_ret
  exact ⟨rfl, HC.out⟩
set_option maxHeartbeats 4000000 in
set_option maxRecDepth 100000 in
theorem played9_3 (p : Addr) (bk klo khi : Nat) (l h m gh ch : Nat) (n B : Nat → Nat) (T : Nat → Nat → Nat) (c : Nat) (kto kfo : Int) (vr : Value) (nr : Nat) (R : Nat → Nat) (fr tt : Int) (to fo : Nat) (w : World) (hd : Cs l h w (.slice (some ⟨gh, 0, none⟩) m ch) m n n B T) (hk : Ks w p bk klo khi) (hkl : khi ≤ l) (hr : Rb w vr nr R) (hc : c < 256) (ht : to < m) (hf : fo < m) (hnr : nr ≤ 140737488351232) (hm : 24 * m ≤ 140737488351232) :
    Calls Try.prog 20 #[.pointer (some p), .agg (cz9 3 c kto kfo vr fr tt), .slice (some ⟨gh, 0, none⟩) m ch, .int .i64 (to : Int), .int .i64 (fo : Int)] w fun e w' => e = .returned (.int .i64 (de9 (m - 1) (m - 1) (n to) (fun i => n (oth to i)) : Nat)) ∧ Ke (In l h) w w' ∧ Cs l h w' (.slice (some ⟨gh, 0, none⟩) m ch) m n n B (upn T to (dv9 (m - 1) (m - 1) (n to) (fun i => n (oth to i)) (fun i => at9 nr R (oth to i)) (T to) (fun i => T (oth to i)))) := by
  have bX : Below w.heap.size w (w.alloc (.cells (cz9 3 c kto kfo vr fr tt) 55)) := (Below.refl _ _).alloc (Nat.le_refl _) _
  have hX : Box9 (w.alloc (.cells (cz9 3 c kto kfo vr fr tt) 55)) w.heap.size (cz9 3 c kto kfo vr fr tt) 55 := Box9.new _ _ _
  have y0 := hX.cell (i := 0) (v := .int .i64 (3)) rfl
  have y1 := hX.cell (i := 1) (v := .int .u8 (c : Int)) rfl
  have y4 := hX.cell (i := 4) (v := vr) rfl
  have y5 := hX.cell (i := 5) (v := .int .i64 fr) rfl
  have y6 := hX.cell (i := 6) (v := .int .i64 tt) rfl
  generalize cz9 3 c kto kfo vr fr tt = A at bX hX y0 y1 y4 y5 y6 ⊢
  have HX : Hid (Below w.heap.size w (w.alloc (.cells A 55)) ∧ Box9 (w.alloc (.cells A 55)) w.heap.size A 55) := ⟨bX, hX⟩
  have itm : ((to : Nat) : Int) < (m : Int) := by omega
  have ifm : ((fo : Nat) : Int) < (m : Int) := by omega

  have HD : Hid (Cs l h (w.alloc (.cells A 55)) (.slice (some ⟨gh, 0, none⟩) m ch) m n n B T ∧ Ks (w.alloc (.cells A 55)) p bk klo khi ∧ (∀ i, i < nr → R i < 256) ∧ khi ≤ l ∧ 24 * m ≤ 140737488351232) := ⟨hd.below bX, hk.below bX, hr.2.1, hkl, hm⟩
  have cO := others9 (.slice (some ⟨gh, 0, none⟩) m ch) vr m nr to (vh9 n B) R (w.alloc (.cells A 55)) (lv_cs HD.out.1 (by omega)) (fun i _ => ⟨_, _, _, rfl⟩) (hr.below bX) ht hm
  clear hd hk hr hkl hm bX hX
  clear y5 y6 y1
  go_enter Try.func20, Try.ntmps20
  go_wp2_with (first
    | (go_at_call 36; (with_reducible refine cO.mono ?_); rintro e w1 ⟨av, bv, rfl, ho⟩; clear cO; have cD := lv_dot (to := to) HD.out.1 HD.out.2.1 HD.out.2.2.2.1 ht HD.out.2.2.2.2 HD.out.2.2.1 ho; have z1 := (HD.out.1.below ho.bel).mem ht; have HB : Hid (Below w.heap.size w w1) := bta9 HX.out.1 ho.bel; clear ho y0 y4)
    | (go_at_call 11; (with_reducible refine cD.mono ?_); rintro e w2 ⟨rfl, hk2, hC2⟩; clear cD; have HC : Hid _ := And.intro ((ke_below HB.out (In l h)).trans hk2) hC2; clear hk2 hC2))
  go_ret
  exact ⟨rfl, HC.out⟩
set_option maxHeartbeats 4000000 in
set_option maxRecDepth 100000 in
theorem played9_4 (p : Addr) (bk klo khi : Nat) (l h m gh ch : Nat) (n B : Nat → Nat) (T : Nat → Nat → Nat) (c : Nat) (kto kfo : Int) (vr : Value) (nr : Nat) (R : Nat → Nat) (fr tt : Int) (to fo : Nat) (w : World) (hd : Cs l h w (.slice (some ⟨gh, 0, none⟩) m ch) m n n B T) (hk : Ks w p bk klo khi) (hkl : khi ≤ l) (hr : Rb w vr nr R) (hc : c < 256) (ht : to < m) (hf : fo < m) (hnr : nr ≤ 140737488351232) (hm : 24 * m ≤ 140737488351232) :
    Calls Try.prog 20 #[.pointer (some p), .agg (cz9 4 c kto kfo vr fr tt), .slice (some ⟨gh, 0, none⟩) m ch, .int .i64 (to : Int), .int .i64 (fo : Int)] w fun e w' => e = .returned (.int .i64 (sf9 (m - 1) (m - 1) (n fo) (fun i => n (oth fo i)) fr tt : Nat)) ∧ Ke (In l h) w w' ∧ Cs l h w' (.slice (some ⟨gh, 0, none⟩) m ch) m n n B (sq9 m n nr R T fr tt fo) := by
  have bX : Below w.heap.size w (w.alloc (.cells (cz9 4 c kto kfo vr fr tt) 55)) := (Below.refl _ _).alloc (Nat.le_refl _) _
  have hX : Box9 (w.alloc (.cells (cz9 4 c kto kfo vr fr tt) 55)) w.heap.size (cz9 4 c kto kfo vr fr tt) 55 := Box9.new _ _ _
  have y0 := hX.cell (i := 0) (v := .int .i64 (4)) rfl
  have y1 := hX.cell (i := 1) (v := .int .u8 (c : Int)) rfl
  have y4 := hX.cell (i := 4) (v := vr) rfl
  have y5 := hX.cell (i := 5) (v := .int .i64 fr) rfl
  have y6 := hX.cell (i := 6) (v := .int .i64 tt) rfl
  generalize cz9 4 c kto kfo vr fr tt = A at bX hX y0 y1 y4 y5 y6 ⊢
  have HX : Hid (Below w.heap.size w (w.alloc (.cells A 55)) ∧ Box9 (w.alloc (.cells A 55)) w.heap.size A 55) := ⟨bX, hX⟩
  have itm : ((to : Nat) : Int) < (m : Int) := by omega
  have ifm : ((fo : Nat) : Int) < (m : Int) := by omega

  have HY : Hid ((w.alloc (.cells A 55)).cell? ⟨w.heap.size, 5, none⟩ = some (.int .i64 fr) ∧ (w.alloc (.cells A 55)).cell? ⟨w.heap.size, 6, none⟩ = some (.int .i64 tt)) := ⟨y5, y6⟩
  have HH : Hid (h ≤ w.heap.size) := hd.hw
  have HD : Hid (Cs l h (w.alloc (.cells A 55)) (.slice (some ⟨gh, 0, none⟩) m ch) m n n B T ∧ Ks (w.alloc (.cells A 55)) p bk klo khi ∧ (∀ i, i < nr → R i < 256) ∧ khi ≤ l ∧ 24 * m ≤ 140737488351232) := ⟨hd.below bX, hk.below bX, hr.2.1, hkl, hm⟩
  have cO := others9 (.slice (some ⟨gh, 0, none⟩) m ch) vr m nr fo (vh9 n B) R (w.alloc (.cells A 55)) (lv_cs HD.out.1 (by omega)) (fun i _ => ⟨_, _, _, rfl⟩) (hr.below bX) hf hm
  clear hd hk hr hkl hm bX hX
  clear y5 y6 y1
  go_enter Try.func20, Try.ntmps20
  go_wp2_with (go_at_call 36; (with_reducible refine cO.mono ?_); rintro e w1 ⟨av, bv, rfl, ho⟩; clear cO)
  have cD := lv_spread (fo := fo) HD.out.1 HD.out.2.1 HD.out.2.2.2.1 hf HD.out.2.2.2.2 HD.out.2.2.1 fr tt ho (w2 := w1.drew) (Below.refl _ _).drew
  have z1 := (HD.out.1.below ho.bel).mem hf
  have HB : Hid (Below w.heap.size w w1 ∧ Below (w.alloc (.cells A 55)).heap.size (w.alloc (.cells A 55)) w1) := ⟨bta9 HX.out.1 ho.bel, ho.bel⟩
  have z5 := (ho.bel.cell (p := ⟨w.heap.size, 5, none⟩) HX.out.2.lt).trans HY.out.1
  have z6 := (ho.bel.cell (p := ⟨w.heap.size, 6, none⟩) HX.out.2.lt).trans HY.out.2
  have HZ : Hid (w1.cell? ⟨w.heap.size, 5, none⟩ = some (.int .i64 fr) ∧ w1.cell? ⟨w.heap.size, 6, none⟩ = some (.int .i64 tt)) := ⟨z5, z6⟩
  clear ho y0 y4
  refine region_planI (fun w' => w'.cell? ⟨gh, fo, none⟩ = some (.slice (some ⟨B fo, 0, none⟩) (n fo) (n fo)) ∧ w'.cell? ⟨w.heap.size, 5, none⟩ = some (.int .i64 fr) ∧ w'.cell? ⟨w.heap.size, 6, none⟩ = some (.int .i64 tt)) [0, 1, 2, 3, 4, 5, 6, 7, 8, 9, 10] [9, 1] 94 ⟨z1, z5, z6⟩ (by kernel_rfl) (by kernel_rfl) (fun _ a d v _ h => by cases d <;> exact h) ?_
  simp only [atI, List.getElem?_cons_zero, List.getElem?_cons_succ]
  clear z1 z5 z6
  refine planH_step ?A1 rfl (fun w' hS => ?s1) rfl (fun K hK => ?n1)
  case s1 =>
    obtain ⟨z1, z5, z6⟩ := hS
    simp only [List.take_succ_cons, List.take_zero]
    repeat still_step
    exact rfl
  case n1 =>
  go_simp
  go_wp2_with (go_at_call 13; (with_reducible refine cD.mono ?_); rintro e x1 ⟨rfl, hk, hC⟩)
  clear cD
  have HC : Hid (Ke (In l h) w x1 ∧ Cs l h x1 (.slice (some ⟨gh, 0, none⟩) m ch) m n n B (sq9 m n nr R T fr tt fo)) := ⟨(ke_below HB.out.1.drew _).trans hk, hC⟩
  have hl : w.heap.size < w1.heap.size := Nat.lt_of_lt_of_le HX.out.2.lt HB.out.2.size
  have hn : ¬ In l h w.heap.size := fun e => Nat.lt_irrefl _ (Nat.lt_of_lt_of_le e.2 HH.out)
  refine hK _ _ ⟨HC.out.2.mem hf, (hk.cell (h := w.heap.size) (q := 5) hl hn).trans HZ.out.1, (hk.cell (h := w.heap.size) (q := 6) hl hn).trans HZ.out.2⟩ ?_
  clear hK K hk hC hl hn
  refine planH_last ?A2 rfl (fun w' hS => ?s2) rfl ?n2
  case s2 =>
    simp only [List.take_succ_cons, List.take_zero]
    repeat still_step
    exact rfl
  case n2 =>
  go_wp2
  go_ret
  exact ⟨rfl, HC.out⟩
set_option maxHeartbeats 4000000 in
set_option maxRecDepth 100000 in
theorem played9_e (kind : Int) (hk0 : kind ≠ 0) (hk1 : kind ≠ 1) (hk2 : kind ≠ 2) (hk3 : kind ≠ 3) (hk4 : kind ≠ 4) (p : Addr) (bk klo khi : Nat) (l h m gh ch : Nat) (n B : Nat → Nat) (T : Nat → Nat → Nat) (c : Nat) (kto kfo : Int) (vr : Value) (nr : Nat) (R : Nat → Nat) (fr tt : Int) (to fo : Nat) (w : World) (hd : Cs l h w (.slice (some ⟨gh, 0, none⟩) m ch) m n n B T) (hk : Ks w p bk klo khi) (hkl : khi ≤ l) (hr : Rb w vr nr R) (hc : c < 256) (ht : to < m) (hf : fo < m) (hnr : nr ≤ 140737488351232) (hm : 24 * m ≤ 140737488351232) :
    Calls Try.prog 20 #[.pointer (some p), .agg (cz9 kind c kto kfo vr fr tt), .slice (some ⟨gh, 0, none⟩) m ch, .int .i64 (to : Int), .int .i64 (fo : Int)] w fun e w' => e = .returned (.int .i64 (0 : Nat)) ∧ Ke (In l h) w w' ∧ Cs l h w' (.slice (some ⟨gh, 0, none⟩) m ch) m n n B (T) := by
  have bX : Below w.heap.size w (w.alloc (.cells (cz9 kind c kto kfo vr fr tt) 55)) := (Below.refl _ _).alloc (Nat.le_refl _) _
  have hX : Box9 (w.alloc (.cells (cz9 kind c kto kfo vr fr tt) 55)) w.heap.size (cz9 kind c kto kfo vr fr tt) 55 := Box9.new _ _ _
  have y0 := hX.cell (i := 0) (v := .int .i64 (kind)) rfl
  have y1 := hX.cell (i := 1) (v := .int .u8 (c : Int)) rfl
  have y4 := hX.cell (i := 4) (v := vr) rfl
  have y5 := hX.cell (i := 5) (v := .int .i64 fr) rfl
  have y6 := hX.cell (i := 6) (v := .int .i64 tt) rfl
  generalize cz9 kind c kto kfo vr fr tt = A at bX hX y0 y1 y4 y5 y6 ⊢
  have HX : Hid (Below w.heap.size w (w.alloc (.cells A 55)) ∧ Box9 (w.alloc (.cells A 55)) w.heap.size A 55) := ⟨bX, hX⟩
  have itm : ((to : Nat) : Int) < (m : Int) := by omega
  have ifm : ((fo : Nat) : Int) < (m : Int) := by omega

  have D0 : (kind == 0) = false := by simpa using hk0
  have D1 : (kind == 1) = false := by simpa using hk1
  have D2 : (kind == 2) = false := by simpa using hk2
  have D3 : (kind == 3) = false := by simpa using hk3
  have D4 : (kind == 4) = false := by simpa using hk4
  have HC : Hid (Ke (In l h) w (w.alloc (.cells A 55)) ∧ Cs l h (w.alloc (.cells A 55)) (.slice (some ⟨gh, 0, none⟩) m ch) m n n B T) := ⟨ke_below bX _, hd.below bX⟩
  clear hd hk hr bX hX y4 y5 y6 y1
  go_enter Try.func20, Try.ntmps20
  go_wp2
  go_ret
  exact ⟨rfl, HC.out⟩
end Go.Proofs.Ytdeophhcbkahgaa
