import Derived.Test.YtfhgamaakkoplaaMvbg
import Derived.Deep.Cut
import Derived.Test.YtfhgamaakkoplaaMvbi
import Derived.Test.YtfhgamaakkoplaaMvbb
import Derived.Test.YtfhgamaakkoplaaMvae
import Derived.Test.YtfhgamaakkoplaaMvam
import Derived.Test.YtfhgamaakkoplaaMval
import Derived.OwnWalk
import Derived.Test.YtfhgamaakkoplaaMvbe
import Derived.Test.YtfhgamaakkoplaaMvak
import Derived.Test.YtfhgamaakkoplaaMvbf
import Derived.Test.YtfhgamaakkoplaaMvan
import Derived.Test.YtfhgamaakkoplaaMvao
namespace Go.Proofs.Ytfhgamaakkoplaa
open Go.RowKit Gf2
set_option linter.unusedVariables false

-- layer 19: numbers that are named, and Partial's answer
theorem cnb_not19 (P : Nat → Bool) : ∀ n, cnb P n + cnb (fun x => !P x) n = n
  | 0 => rfl
  | n + 1 => by
    have ih := cnb_not19 P n
    cases h : P n with
    | true => rw [cnb_yes h, cnb_no (P := fun x => !P x) (by rw [h]; rfl)]; omega
    | false => rw [cnb_no h, cnb_yes (P := fun x => !P x) (by rw [h]; rfl)]; omega
end Go.Proofs.Ytfhgamaakkoplaa
namespace Go.Proofs.Ytfhgamaakkoplaa
open Go.RowKit Gf2
set_option linter.unusedVariables false

-- the top's own lists: general growing lists (as in Kva)
/-- an element's type of one cell, the list's type, the zero value, the bytes. -/
structure ElyT (te ts : TypeId) (z : Value) (bb : Nat) : Prop where
  und : Try.prog.underlying ts = some (.slice te)
  info : ∃ i, Try.prog.info? te = some i ∧ i.zero = some z ∧ i.size = 1 ∧ i.bytes = bb
  cz : z.cells.size = 1
theorem elyT_l8 : ElyT 25 82 (.slice none 0 0) 24 := ⟨Try.underlying82, info_l9, rfl⟩
/-- a list that grows by append, in a block of its own not below base. -/
def GxT (te : TypeId) (w : World) (base : Nat) (av : Value) (m : Nat) (V : Nat → Value) : Prop := w.ownsRow base te 1 av m (lv9 V m)
section
variable {te ts : TypeId} {z : Value} {bb : Nat}
theorem GxT.zero (te : TypeId) (w : World) (base : Nat) (V : Nat → Value) : GxT te w base (.slice none 0 0) 0 V := World.ownsRow_nil _ _ _ _
theorem GxT.below {w w' : World} {base m : Nat} {av : Value} {V : Nat → Value} (h : GxT te w base av m V) (hb : Below w.heap.size w w') : GxT te w' base av m V := by
  refine World.ownsRow.kept (row := Option.none) h ⟨hb.os, hb.tape, hb.output, hb.size, fun k hk _ => hb.block k hk⟩ ?_
  cases e : av.ownBlock with
  | none => exact .inl rfl
  | some k => exact .inr (by simp)
theorem GxT.congr {w : World} {base m : Nat} {av : Value} {V V' : Nat → Value} (h : GxT te w base av m V) (e : ∀ r, r < m → V r = V' r) : GxT te w base av m V' := by
  unfold GxT at h ⊢
  rw [← lv9_congr e]
  exact h
theorem GxT.form {w : World} {base m : Nat} {av : Value} {V : Nat → Value} (h : GxT te w base av m V) : ∃ a c, av = .slice a m c ∧ m ≤ c ∧ c ≤ maxLen ∧ (0 < m → ∃ g, a = some ⟨g, 0, none⟩ ∧ base ≤ g ∧ g < w.heap.size ∧ av.ownBlock = some g ∧ ∀ i, i < m → w.cell? ⟨g, i, none⟩ = some (V i)) := by
  rcases h.2 with ⟨h1, h2⟩ | ⟨g, cap, cur, rfl, hb, hg, r1, r2, r3, r4⟩
  · subst h1 h2
    exact ⟨Option.none, 0, rfl, Nat.le_refl _, Nat.zero_le _, fun h0 => absurd h0 (Nat.lt_irrefl _)⟩
  · refine ⟨_, cap, rfl, r1, r2, fun h0 => ⟨g, rfl, hb, (Array.getElem?_eq_some_iff.1 hg).1, rfl, fun i hi => ?_⟩⟩
    have := World.ownsRow.cellAt (j := i) h (by omega)
    rw [this, lv9_get _ hi]
/-- one element more. -/
theorem gxT_one (E : ElyT te ts z bb) {w : World} {base m : Nat} {av : Value} {V : Nat → Value} (h : GxT te w base av m V) (hbase : base ≤ w.heap.size) (hv : (V m).oneCell' = true) (hm : (m + 1) * bb ≤ 140737488355328) (hm2 : m + 1 ≤ 140737488355328) :
    ∃ g cp w5, (Builtin.append_ #[ts, ts] ts #[av, .slice (some ⟨w.heap.size, 0, none⟩) 1 1]).run Try.prog (w.alloc (.cells #[V m] te)) = .ok (.slice (some ⟨g, 0, none⟩) (m + 1) cp) w5 ∧
      GxT te w5 base (.slice (some ⟨g, 0, none⟩) (m + 1) cp) (m + 1) V ∧ (av.ownBlock = some g ∨ g = w.heap.size + 1) ∧ w.grownBy w5 av.ownBlock ∧ Below base w w5 ∧ w.heap.size ≤ w5.heap.size := by
  obtain ⟨iL, k1, k2, k3, k4⟩ := E.info
  obtain ⟨g, cp, w5, hrun, own, gr, lies, lt⟩ := run_append_lies (P := Try.prog) (w.alloc (.cells #[V m] te)) ts ts base te iL z 1 bb E.und k1 k2 k3 k4 E.cz (by decide)
    av m (lv9 V m) (World.ownsRow.alloc h _) ⟨w.heap.size, 0, Option.none⟩ 1 1 (lv9 (fun _ => V m) 1) (by rw [lv9_len]) (fun j u hu => World.news_of_block (heap_alloc_new w _) j u (by simpa [lv9] using hu))
    (fun u hu => by
      simp [lv9] at hu
      subst hu
      exact hv) (by decide) (by unfold maxLen; omega) (by omega) (by simp; omega) (w.heap.size + 1) (by simp)
  have hsz : (w.alloc (.cells #[V m] te)).heap.size = w.heap.size + 1 := by simp
  have hgs := gr.size
  have gr2 : w.grownBy w5 av.ownBlock := ⟨gr.os, gr.tape, gr.output, by omega, fun x hx hne => (gr.block x (by omega) hne).trans (Below.heap_alloc w _ x hx)⟩
  refine ⟨g, cp, w5, hrun, ?_, lies, gr2, ⟨gr.os, gr.tape, gr.output, by omega, fun x hx => gr2.block x (by omega) (fun e => ?_)⟩, by omega⟩
  · unfold GxT
    rw [lv9_snoc] at own
    refine (lv9_congr (fun r hr => ?_)) ▸ own
    by_cases e : r < m
    · rw [if_pos e]
    · rw [if_neg e, show r = m by omega]
  · have := (World.ownsRow.lt h x e.symm).1
    omega
end
/-- N rows, each in a block of its own at or above lo; the list of them grows by append. -/
structure Gl8 (lo : Nat) (W : World) (v : Value) (N : Nat) (n C B : Nat → Nat) (S : Nat → Nat → Nat) : Prop where
  list : GxT 25 W lo v N (fun r => .slice (some ⟨B r, 0, none⟩) (n r) (C r))
  rows : ∀ r, r < N → lo ≤ B r ∧ n r ≤ C r ∧ Rw W (B r) (C r) (S r)
  inj : ∀ r s, r < N → s < N → r ≠ s → B r ≠ B s
  ne : ∀ r, r < N → v.ownBlock ≠ some (B r)
section
variable {lo N : Nat} {W W' : World} {v : Value} {n C B : Nat → Nat} {S : Nat → Nat → Nat}
theorem Gl8.start (lo : Nat) (W : World) (n C B : Nat → Nat) (S : Nat → Nat → Nat) : Gl8 lo W (.slice none 0 0) 0 n C B S :=
  ⟨GxT.zero _ _ _ _, fun r hr => absurd hr (Nat.not_lt_zero _), fun r s hr => absurd hr (Nat.not_lt_zero _), fun r hr => absurd hr (Nat.not_lt_zero _)⟩
theorem Gl8.below (h : Gl8 lo W v N n C B S) (hb : Below W.heap.size W W') : Gl8 lo W' v N n C B S :=
  ⟨h.list.below hb, fun r hr => ⟨(h.rows r hr).1, (h.rows r hr).2.1, rw_below (h.rows r hr).2.2 hb⟩, h.inj, h.ne⟩
theorem Gl8.lb (h : Gl8 lo W v N n C B S) : Lb W v N n S := by
  obtain ⟨a, c, rfl, h1, h2, h3⟩ := h.list.form
  refine ⟨fun r => .slice (some ⟨B r, 0, none⟩) (n r) (C r), ⟨by unfold big; unfold maxLen at h2; omega, a, c, rfl, h1, by unfold big; unfold maxLen at h2; exact h2, fun h0 => ?_⟩, fun i hi => ((h.rows i hi).2.2.rb0.cut8 (h.rows i hi).2.1).re (fun _ _ e => e)⟩
  obtain ⟨g, rfl, -, hl, -, hc⟩ := h3 h0
  exact ⟨g, 0, rfl, ⟨hl, fun e => e⟩, fun i hi => by rw [Nat.zero_add]; exact hc i hi⟩
end
end Go.Proofs.Ytfhgamaakkoplaa
namespace Go.Proofs.Ytfhgamaakkoplaa
open Go.RowKit Gf2
set_option linter.unusedVariables false

-- the top's own twin
theorem Gl8.own {lo N : Nat} {W : World} {v : Value} {n C B : Nat → Nat} {S : Nat → Nat → Nat} (h : Gl8 lo W v N n C B S) {x : Nat} (e : v.ownBlock = some x) : lo ≤ x ∧ x < W.heap.size := World.ownsRow.lt h.list x e
end Go.Proofs.Ytfhgamaakkoplaa
namespace Go.Proofs.Ytfhgamaakkoplaa
open Go.RowKit Gf2
set_option linter.unusedVariables false

-- a list of rows whose rows turn and change places, and a list of ints: told apart by what their blocks hold
/-- block x holds cells of a type. -/
def Hs (te : TypeId) (W : World) (x : Nat) : Prop := ∃ A, W.heap[x]? = some (.cells A te)
theorem Hs.ne {te tf : TypeId} {W : World} {x y : Nat} (h : Hs te W x) (k : Hs tf W y) (hne : te ≠ tf) : x ≠ y := by
  rintro rfl
  obtain ⟨A, hA⟩ := h
  obtain ⟨B, hB⟩ := k
  rw [hA] at hB
  cases hB
  exact hne rfl
theorem hs_rw {W : World} {g N : Nat} {F : Nat → Nat} (h : Rw W g N F) : Hs 5 W g := by
  obtain ⟨A, hA, -⟩ := h.2.2
  exact ⟨_, hA⟩
theorem hs_ri {W : World} {g N : Nat} {F : Nat → Int} (h : Ri W g N F) : Hs 3 W g := by
  obtain ⟨A, hA, -⟩ := h.2.2
  exact ⟨_, hA⟩
theorem hs_gx {te : TypeId} {W : World} {lo m g : Nat} {av : Value} {V : Nat → Value} (h : GxT te W lo av m V) (e : av.ownBlock = some g) : Hs te W g := by
  rcases h.2 with ⟨rfl, -⟩ | ⟨g', cap, cur, rfl, hb, hg, -⟩
  · cases e
  · have e2 : g' = g := Option.some.inj e
    subst e2
    exact ⟨_, hg⟩
theorem GxT.ke {te : TypeId} {E : Nat → Prop} {W W' : World} {lo m : Nat} {av : Value} {V : Nat → Value} (h : GxT te W lo av m V) (hk : Ke E W W') (hE : ∀ x, Hs te W x → ¬ E x) : GxT te W' lo av m V := by
  have hgx := fun g => hs_gx (g := g) h
  refine ⟨h.1, ?_⟩
  rcases h.2 with hn | ⟨g, cap, cur, rfl, hb, hgg, rest⟩
  · exact .inl hn
  · refine .inr ⟨g, cap, cur, rfl, hb, ?_, rest⟩
    rw [hk.2 g (Array.getElem?_eq_some_iff.1 hgg).1 (hE g (hgx g rfl))]
    exact hgg
theorem GxT.set {te : TypeId} {W : World} {lo m g c : Nat} {V : Nat → Value} (h : GxT te W lo (.slice (some ⟨g, 0, none⟩) m c) m V) (j : Nat) (u : Value) : GxT te (W.setCell ⟨g, j, none⟩ u) lo (.slice (some ⟨g, 0, none⟩) m c) m (fun r => if r = j then u else V r) := by
  have h1 := (World.ownsRow.stored h j u).1
  have e : (lv9 V m).set j u = lv9 (fun r => if r = j then u else V r) m := by
    apply List.ext_getElem?
    intro r
    rw [List.getElem?_set]
    by_cases hr : r < m
    · rw [lv9_get (fun r => if r = j then u else V r) hr, lv9_get V hr]
      by_cases e : j = r
      · rw [if_pos e, if_pos (by rw [lv9_len]; omega)]
        exact congrArg some (if_pos e.symm).symm
      · rw [if_neg e]
        exact congrArg some (if_neg (fun x => e x.symm)).symm
    · have n1 : (lv9 (fun r => if r = j then u else V r) m)[r]? = none := List.getElem?_eq_none (by rw [lv9_len]; omega)
      have n2 : (lv9 V m)[r]? = none := List.getElem?_eq_none (by rw [lv9_len]; omega)
      rw [n1, n2]
      by_cases e : j = r
      · rw [if_pos e, if_neg (by rw [lv9_len]; omega)]
      · rw [if_neg e]
  rw [e] at h1
  exact h1
section
variable {lo N : Nat} {W W' : World} {v : Value} {n C B : Nat → Nat} {S : Nat → Nat → Nat}
theorem Gl8.hs (h : Gl8 lo W v N n C B S) {j : Nat} (hj : j < N) : Hs 5 W (B j) := hs_rw (h.rows j hj).2.2
theorem Gl8.turn (h : Gl8 lo W v N n C B S) {j : Nat} (hj : j < N) (hk : Kp (B j) W W') {T : Nat → Nat} (hr : Rw W' (B j) (C j) T) : Gl8 lo W' v N n C B (upn S j T) := by
  refine ⟨h.list.ke hk.ke (fun x hx e => ?_), fun r hr2 => ?_, h.inj, h.ne⟩
  · exact hx.ne (h.hs hj) (by decide) e
  · by_cases e : r = j
    · subst e
      rw [upn_same]
      exact ⟨(h.rows r hj).1, (h.rows r hj).2.1, hr⟩
    · rw [upn_other _ _ e]
      obtain ⟨a, b, c⟩ := h.rows r hr2
      exact ⟨a, b, hk.rw_ c (h.inj r j hr2 hj e)⟩
theorem Gl8.typ {E : Nat → Prop} (h : Gl8 lo W v N n C B S) (hk : Ke E W W') (hE : ∀ x, Hs 25 W x → ¬ E x) (hE2 : ∀ x, Hs 5 W x → ¬ E x) : Gl8 lo W' v N n C B S :=
  ⟨h.list.ke hk hE, fun r hr => ⟨(h.rows r hr).1, (h.rows r hr).2.1, hk.rw_ (h.rows r hr).2.2 (hE2 _ (h.hs hr))⟩, h.inj, h.ne⟩
theorem Gl8.cong (h : Gl8 lo W v N n C B S) {n' C' B' : Nat → Nat} {S' : Nat → Nat → Nat} (e : ∀ r, r < N → n r = n' r ∧ C r = C' r ∧ B r = B' r ∧ ∀ i, i < C r → S r i = S' r i) : Gl8 lo W v N n' C' B' S' := by
  refine ⟨h.list.congr (fun r hr => ?_), fun r hr => ?_, fun r s hr hs hne => ?_, fun r hr => ?_⟩
  · obtain ⟨e1, e2, e3, e4⟩ := e r hr
    rw [e1, e2, e3]
  · obtain ⟨e1, e2, e3, e4⟩ := e r hr
    obtain ⟨a, b, c⟩ := h.rows r hr
    exact ⟨e3 ▸ a, e1 ▸ e2 ▸ b, e2 ▸ e3 ▸ c.congr e4⟩
  · rw [← (e r hr).2.2.1, ← (e s hs).2.2.1]
    exact h.inj r s hr hs hne
  · rw [← (e r hr).2.2.1]
    exact h.ne r hr
/-- a row more; nothing turns but blocks that hold rows. -/
theorem Gl8.put (h : Gl8 lo W v N n C B S) (hlo : lo ≤ W.heap.size) {b c l : Nat} {T : Nat → Nat} (hb : lo ≤ b) (hr : Rw W b c T) (hl : l ≤ c) (hB : ∀ r, r < N → B r ≠ b) (hN : (N + 1) * 24 ≤ 140737488355328) :
    ∃ v' w', (Builtin.append_ #[82, 82] 82 #[v, .slice (some ⟨W.heap.size, 0, none⟩) 1 1]).run Try.prog (W.alloc (.cells #[.slice (some ⟨b, 0, none⟩) l c] 25)) = .ok v' w' ∧ Gl8 lo w' v' (N + 1) (upn n N l) (upn C N c) (upn B N b) (upn S N T) ∧ Below lo W w' ∧ Ke (Hs 25 W) W w' := by
  have hv : v.ownBlock ≠ some b := fun e => (hs_gx h.list e).ne (hs_rw hr) (by decide) rfl
  have hown := fun x => hs_gx (g := x) h.list
  have hlist : GxT 25 W lo v N (fun r => .slice (some ⟨upn B N b r, 0, none⟩) (upn n N l r) (upn C N c r)) := h.list.congr (fun r hr => by
    have e : r ≠ N := by omega
    rw [upn_other _ _ e, upn_other _ _ e, upn_other _ _ e])
  obtain ⟨g, cp, w5, hrun, hG, hlies, hgr, hb5, hs⟩ := gxT_one elyT_l8 hlist hlo rfl hN (by omega)
  rw [upn_same, upn_same, upn_same] at hrun
  have hg : ∀ x, x < W.heap.size → v.ownBlock ≠ some x → w5.heap[x]? = W.heap[x]? := fun x hx hne => hgr.block x hx (fun e => hne e.symm)
  have hgb : ∀ x, x < W.heap.size → v.ownBlock ≠ some x → g ≠ x := fun x hx hne e => by
    rcases hlies with e2 | e2
    · exact hne (by rw [e2, e])
    · omega
  refine ⟨_, w5, hrun, ⟨hG, fun r hr2 => ?_, fun r s hr2 hs2 hne => ?_, fun r hr2 e => ?_⟩, hb5, ⟨hb5.mono (Nat.zero_le _), fun x hx hn => hg x hx (fun e => hn (hown x e))⟩⟩
  · by_cases e : r = N
    · subst e
      rw [upn_same, upn_same, upn_same, upn_same]
      exact ⟨hb, hl, hr.of_block (hg _ hr.lt hv)⟩
    · rw [upn_other _ _ e, upn_other _ _ e, upn_other _ _ e, upn_other _ _ e]
      have h2 := h.rows r (by omega)
      exact ⟨h2.1, h2.2.1, h2.2.2.of_block (hg _ h2.2.2.lt (h.ne r (by omega)))⟩
  · by_cases e : r = N
    · have e2 : s ≠ N := by omega
      rw [e, upn_same, upn_other _ _ e2]
      exact fun e3 => hB s (by omega) e3.symm
    · by_cases e2 : s = N
      · rw [e2, upn_same, upn_other _ _ e]
        exact hB r (by omega)
      · rw [upn_other _ _ e, upn_other _ _ e2]
        exact h.inj r s (by omega) (by omega) hne
  · have e9 : g = upn B N b r := by
      have : (Value.slice (some ⟨g, 0, none⟩) (N + 1) cp).ownBlock = some g := rfl
      rw [this] at e
      exact Option.some.inj e
    by_cases e2 : r = N
    · rw [e2, upn_same] at e9
      exact hgb b hr.lt hv e9
    · rw [upn_other _ _ e2] at e9
      exact hgb (B r) (h.rows r (by omega)).2.2.lt (h.ne r (by omega)) e9
end
/-- two rows change places. -/
theorem Gl8.swap {lo N g c k a b : Nat} {W : World} {B : Nat → Nat} {S : Nat → Nat → Nat} (h : Gl8 lo W (.slice (some ⟨g, 0, none⟩) N c) N (fun _ => k) (fun _ => k) B S) (ha : a < N) (hb : b < N) (hab : a ≠ b) :
    Gl8 lo ((W.setCell ⟨g, a, none⟩ (.slice (some ⟨B b, 0, none⟩) k k)).setCell ⟨g, b, none⟩ (.slice (some ⟨B a, 0, none⟩) k k)) (.slice (some ⟨g, 0, none⟩) N c) N (fun _ => k) (fun _ => k) (swp B a b) (swp S a b) ∧
    Kp g W ((W.setCell ⟨g, a, none⟩ (.slice (some ⟨B b, 0, none⟩) k k)).setCell ⟨g, b, none⟩ (.slice (some ⟨B a, 0, none⟩) k k)) := by
  have hk : Kp g W ((W.setCell ⟨g, a, none⟩ (.slice (some ⟨B b, 0, none⟩) k k)).setCell ⟨g, b, none⟩ (.slice (some ⟨B a, 0, none⟩) k k)) := ((Kp.refl g W).setCell a _).setCell b _
  have sr : ∀ i, i < N → ∃ j, j < N ∧ swp B a b i = B j ∧ swp S a b i = S j ∧ j = (if i = a then b else if i = b then a else i) := fun i hi => by
    unfold swp
    by_cases e1 : i = a
    · rw [if_pos e1, if_pos e1, if_pos e1]; exact ⟨b, hb, rfl, rfl, rfl⟩
    · rw [if_neg e1, if_neg e1, if_neg e1]
      by_cases e2 : i = b
      · rw [if_pos e2, if_pos e2, if_pos e2]; exact ⟨a, ha, rfl, rfl, rfl⟩
      · rw [if_neg e2, if_neg e2, if_neg e2]; exact ⟨i, hi, rfl, rfl, rfl⟩
  refine ⟨⟨?_, fun i hi => ?_, fun i j hi hj hne => ?_, fun i hi => ?_⟩, hk⟩
  · refine ((h.list.set a _).set b _).congr (fun r hr => ?_)
    unfold swp
    by_cases e2 : r = b
    · rw [if_pos e2, if_neg (fun e => hab (e.symm.trans e2)), if_pos e2]
    · rw [if_neg e2]
      by_cases e1 : r = a
      · rw [if_pos e1, if_pos e1]
      · rw [if_neg e1, if_neg e1, if_neg e2]
  · obtain ⟨j, hj, e1, e2, -⟩ := sr i hi
    rw [e1, e2]
    obtain ⟨h1, h2, h3⟩ := h.rows j hj
    exact ⟨h1, h2, hk.rw_ h3 (fun e => h.ne j hj (by rw [e]; rfl))⟩
  · obtain ⟨x, hx, e1, -, f1⟩ := sr i hi
    obtain ⟨y, hy, e2, -, f2⟩ := sr j hj
    rw [e1, e2]
    refine h.inj x y hx hy (fun e => ?_)
    rw [f1, f2] at e
    by_cases a1 : i = a
    · rw [if_pos a1] at e
      by_cases a2 : j = a
      · omega
      · rw [if_neg a2] at e
        by_cases a3 : j = b
        · rw [if_pos a3] at e; omega
        · rw [if_neg a3] at e; omega
    · rw [if_neg a1] at e
      by_cases a4 : i = b
      · rw [if_pos a4] at e
        by_cases a2 : j = a
        · rw [if_pos a2] at e; omega
        · rw [if_neg a2] at e
          by_cases a3 : j = b
          · omega
          · rw [if_neg a3] at e; omega
      · rw [if_neg a4] at e
        by_cases a2 : j = a
        · rw [if_pos a2] at e; omega
        · rw [if_neg a2] at e
          by_cases a3 : j = b
          · rw [if_pos a3] at e; omega
          · rw [if_neg a3] at e; exact hne e
  · obtain ⟨j, hj, e1, -, -⟩ := sr i hi
    rw [e1]
    exact h.ne j hj
theorem Gj.typ {E : Nat → Prop} {lo : Nat} {W W' : World} {v : Value} {L : Nat} {S : Nat → Int} (h : Gj lo W v L S) (hk : Ke E W W') (hE : ∀ x, Hs 3 W x → ¬ E x) : Gj lo W' v L S := by
  rcases h with h | ⟨g, C, F, a1, a2, a3, a4, a5⟩
  · exact .inl h
  · exact .inr ⟨g, C, F, a1, a2, a3, a4.ke hk (hE g (hs_ri a4)), a5⟩
theorem Gj.swap {lo g L C a b : Nat} {W : World} {S : Nat → Int} (h : Gj lo W (.slice (some ⟨g, 0, none⟩) L C) L S) (ha : a < L) (hb : b < L) :
    Gj lo ((W.setCell ⟨g, a, none⟩ (.int .i64 (S b))).setCell ⟨g, b, none⟩ (.int .i64 (S a))) (.slice (some ⟨g, 0, none⟩) L C) L (swp S a b) ∧ Kp g W ((W.setCell ⟨g, a, none⟩ (.int .i64 (S b))).setCell ⟨g, b, none⟩ (.int .i64 (S a))) := by
  refine ⟨?_, ((Kp.refl g W).setCell a _).setCell b _⟩
  rcases h with ⟨rfl, e⟩ | ⟨g', C', F, a1, a2, a3, a4, a5⟩
  · cases e
  · cases a1
    refine .inr ⟨g, C, _, rfl, a2, a3, (a4.set a (S b)).set b (S a), fun i hi => ?_⟩
    unfold swp
    by_cases e2 : i = b
    · rw [if_pos e2]
      by_cases e1 : i = a
      · rw [if_pos e1]; rw [← e1, e2]
      · rw [if_neg e1, if_pos e2]
    · rw [if_neg e2]
      by_cases e1 : i = a
      · rw [if_pos e1, if_pos e1]
      · rw [if_neg e1, if_neg e1, if_neg e2]; exact a5 i hi
theorem Gj.head {lo : Nat} {W : World} {v : Value} {L : Nat} {S : Nat → Int} (h : Gj lo W v L S) (h0 : 0 < L) : ∃ g C, v = .slice (some ⟨g, 0, none⟩) L C ∧ Hs 3 W g ∧ (∀ i, i < L → W.cell? ⟨g, i, none⟩ = some (.int .i64 (S i))) ∧ ∀ i, W.frozen? ⟨g, i, none⟩ = false := by
  rcases h with ⟨rfl, -⟩ | ⟨g, C, F, a1, a2, a3, a4, a5⟩
  · exact absurd h0 (Nat.lt_irrefl _)
  · exact ⟨g, C, a1, hs_ri a4, fun i hi => by rw [← a5 i hi]; exact a4.2.2.cell (by omega), fun i => a4.2.2.frozen i⟩
theorem Gl8.head {lo N : Nat} {W : World} {v : Value} {n C B : Nat → Nat} {S : Nat → Nat → Nat} (h : Gl8 lo W v N n C B S) (h0 : 0 < N) : ∃ g c, v = .slice (some ⟨g, 0, none⟩) N c ∧ Hs 25 W g ∧ (∀ i, i < N → W.cell? ⟨g, i, none⟩ = some (.slice (some ⟨B i, 0, none⟩) (n i) (C i))) ∧ ∀ i, W.frozen? ⟨g, i, none⟩ = false := by
  obtain ⟨a, c, rfl, h1, h2, h3⟩ := h.list.form
  obtain ⟨g, rfl, -, hl, ho, hc⟩ := h3 h0
  exact ⟨g, c, rfl, hs_gx h.list rfl, hc, fun i => World.ownsRow.frozenAt h.list i⟩
/-- one int more; nothing turns but blocks that hold ints. -/
theorem Gj.put {lo : Nat} {W : World} {v : Value} {L : Nat} {S : Nat → Int} (h : Gj lo W v L S) (hlo : lo ≤ W.heap.size) (t : Int) (hL : (L + 1) * 8 ≤ 140737488355328) :
    ∃ w' v', (Builtin.append_ #[24, 24] 24 #[v, .slice (some ⟨W.heap.size, 0, none⟩) 1 1]).run Try.prog (W.alloc (.cells #[.int .i64 t] 3)) = .ok v' w' ∧ Gj lo w' v' (L + 1) (fun i => if i < L then S i else t) ∧ Below lo W w' ∧ Ke (Hs 3 W) W w' := by
  have hb0 : Below W.heap.size W (W.alloc (.cells #[.int .i64 t] 3)) := (Below.refl _ _).alloc (Nat.le_refl _) _
  have hsz : (W.alloc (.cells #[.int .i64 t] 3)).heap.size = W.heap.size + 1 := by simp
  have hcell : ∀ i, i < 1 → (W.alloc (.cells #[.int .i64 t] 3)).cell? ⟨W.heap.size, 0 + i, none⟩ = some (.int .i64 ((fun _ => t) i)) := by
    intro i hi
    obtain rfl : i = 0 := by omega
    rw [cell_of_row _ W.heap.size (0 + 0) _ _ _ (heap_alloc_new _ _)]
    rfl
  rcases h with ⟨rfl, rfl⟩ | ⟨g, C, F, rfl, a2, a3, a4, a5⟩
  · obtain ⟨w', C', F', hrun, hC, hR, hF, hs, hb⟩ := appi_nil (W.alloc (.cells #[.int .i64 t] 3)) (x := some ⟨W.heap.size, 0, none⟩) (n := 1) (cx := 1) (S := fun _ => t) (by decide) ⟨_, _, rfl, hcell⟩ (by omega)
    refine ⟨w', _, hrun, .inr ⟨_, C', F', rfl, hC, by omega, hR, fun i hi => ?_⟩, (hb0.mono hlo).trans (hb.mono (by omega)), (ke_below hb0 _).trans (ke_below hb _)⟩
    rw [hF i (by omega)]
    show t = if i < 0 then S i else t
    rw [if_neg (Nat.not_lt_zero _)]
  · obtain ⟨w', g', C', F', hrun, hC, hR, hF1, hF2, hcase⟩ := appi (W.alloc (.cells #[.int .i64 t] 3)) (g := g) (C := C) (L := L) (a4.below hb0) a2 (x := some ⟨W.heap.size, 0, none⟩) (n := 1) (cx := 1) (S := fun _ => t) (fun _ => ⟨_, _, rfl, hcell⟩) hL
    refine ⟨w', _, hrun, .inr ⟨g', C', F', rfl, hC, ?_, hR, fun i hi => ?_⟩, (hb0.mono hlo).trans ?_, (ke_below hb0 _).trans ?_⟩
    · rcases hcase with ⟨rfl, ho⟩ | ⟨rfl, -, hb⟩
      · exact a3
      · omega
    · dsimp only
      by_cases e : i < L
      · rw [if_pos e, hF1 i e]; exact a5 i e
      · rw [if_neg e, show i = L + 0 by omega]
        exact hF2 0 (by decide)
    · rcases hcase with ⟨rfl, ho⟩ | ⟨rfl, -, hb⟩
      · exact ho.below a3
      · exact hb.mono (by omega)
    · rcases hcase with ⟨rfl, ho⟩ | ⟨rfl, -, hb⟩
      · exact ho.kp.ke.mono (fun x _ e => by rw [e]; exact hs_ri a4)
      · exact ke_below hb _
end Go.Proofs.Ytfhgamaakkoplaa
namespace Go.Proofs.Ytfhgamaakkoplaa
namespace Gf2
set_option linter.unusedVariables false

-- Berlekamp and Welch: the document's near polynomial as a quotient of two
/-- a near polynomial f: whoever solves the equations is f times the other. -/
theorem bw_only {n k r : Nat} {pts Y f A B : Nat → Nat} (hk : 1 ≤ k) (hr : k + 2 * r ≤ n) (hl : ∀ i, i < n → pts i < 256) (hinj : ∀ i j, i < n → j < n → pts i = pts j → i = j) (eF : El 8 f) (dF : Dg f k) (eA : El 8 A) (dA : Dg A (k + r)) (eB : El 8 B) (dB : Dg B (r + 1))
    (hAB : ∀ i, i < n → pe 285 (pts i) (k + r) A = fm 285 (Y i) (pe 285 (pts i) (r + 1) B)) (hw : cnb (fun i => decide (pe 285 (pts i) k f ≠ Y i)) n ≤ r) : A = pm 285 f B := by
  have dp : Dg (pm 285 f B) (k + r) := (fld8.dg_pm dF dB).mono (by omega)
  have dD : Dg (pa A (pm 285 f B)) (k + r) := dA.pa dp
  have eD : El 8 (pa A (pm 285 f B)) := eA.pa (fld8.el_pm _ _)
  apply pa_eq_pz
  apply Classical.byContradiction
  intro h0
  have h1 := fld8.few_roots (m := k + r - 1) (pts := pts) (n := n) ⟨eD, _, dD⟩ h0 (dD.mono (by omega)) hl hinj (P := fun i => !(decide (pe 285 (pts i) k f ≠ Y i))) (fun i hi hP => by
    have e1 : pe 285 (pts i) k f = Y i := by simpa using hP
    rw [show k + r - 1 + 1 = k + r by omega, fld8.pe_pa, hAB i hi]
    have e2 : pe 285 (pts i) (k + r) (pm 285 f B) = fm 285 (pe 285 (pts i) k f) (pe 285 (pts i) (r + 1) B) := by
      rw [← fld8.pe_pm (pts i) dF dB]
      exact (fld8.pe_any (pts i) dp (dp.mono (by omega)))
    rw [e2, e1, Nat.xor_self])
  have h2 := cnb_not19 (fun i => decide (pe 285 (pts i) k f ≠ Y i)) n
  omega
/-- a near polynomial times the locator of what is wrong solves the equations, and the locator is not 0. -/
theorem bw_some {n k r : Nat} {pts Y f : Nat → Nat} (hl : ∀ i, i < n → pts i < 256) (eF : El 8 f) (dF : Dg f k) (hw : cnb (fun i => decide (pe 285 (pts i) k f ≠ Y i)) n ≤ r) :
    ∃ A B, El 8 A ∧ Dg A (k + r) ∧ El 8 B ∧ Dg B (r + 1) ∧ (∃ j, j < r + 1 ∧ B j ≠ 0) ∧ ∀ i, i < n → pe 285 (pts i) (k + r) A = fm 285 (Y i) (pe 285 (pts i) (r + 1) B) := by
  obtain ⟨P, hP⟩ : ∃ P : Nat → Bool, P = fun i => decide (pe 285 (pts i) k f ≠ Y i) := ⟨_, rfl⟩
  rw [← hP] at hw
  obtain ⟨l1, l2, l3⟩ := fld8.pvw_pol pts P n
  have dB : Dg (pvw 285 pts P n) (r + 1) := l2.mono (by omega)
  have dA : Dg (pm 285 f (pvw 285 pts P n)) (k + r) := (fld8.dg_pm dF dB).mono (by omega)
  refine ⟨pm 285 f (pvw 285 pts P n), pvw 285 pts P n, fld8.el_pm _ _, dA, l1, dB, ⟨cnb P n, by omega, by rw [l3]; decide⟩, fun i hi => ?_⟩
  have e2 : pe 285 (pts i) (k + r) (pm 285 f (pvw 285 pts P n)) = fm 285 (pe 285 (pts i) k f) (pe 285 (pts i) (r + 1) (pvw 285 pts P n)) := by
    rw [← fld8.pe_pm (pts i) dF dB]
    exact fld8.pe_any (pts i) dA (dA.mono (by omega))
  rw [e2]
  by_cases e : pe 285 (pts i) k f = Y i
  · rw [e]
  · have e3 : pe 285 (pts i) (r + 1) (pvw 285 pts P n) = 0 := by
      rw [fld8.pe_cut (pts i) l2 (by omega)]
      exact fld8.pvw_root n hl i hi (by rw [hP]; exact decide_eq_true e)
    rw [e3, fld8.fm_zero, fld8.fm_zero]
end Gf2
end Go.Proofs.Ytfhgamaakkoplaa
namespace Go.Proofs.Ytfhgamaakkoplaa
open Gf2
set_option linter.unusedVariables false

-- the document's near: its equations, and what their solutions tell
/-- the equations' rows. -/
def bwr (k r : Nat) (p y : Nat → Nat) (i c : Nat) : Nat := if c < k + r then fp 285 (p i) c else fm 285 (fp 285 (p i) (c - (k + r))) (y i)
def bwa (k r : Nat) (u : Nat → Nat) (c : Nat) : Nat := if c < k + r then u c else 0
def bwb (k r : Nat) (u : Nat → Nat) (j : Nat) : Nat := if j < r + 1 then u (k + r + j) else 0
theorem bwr_lt (k r : Nat) (p y : Nat → Nat) (i c : Nat) : bwr k r p y i c < 256 := by
  unfold bwr
  split
  · exact fld8.fp_lt _ _
  · exact fld8.fm_lt _ _
theorem bwa_dg (k r : Nat) (u : Nat → Nat) : Dg (bwa k r u) (k + r) := fun i hi => if_neg (by omega)
theorem bwb_dg (k r : Nat) (u : Nat → Nat) : Dg (bwb k r u) (r + 1) := fun i hi => if_neg (by omega)
theorem bwa_el {k r : Nat} {u : Nat → Nat} (h : ∀ c, u c < 256) : Gf2.El 8 (bwa k r u) := fun i => by
  unfold bwa
  split
  · exact h _
  · decide
theorem bwb_el {k r : Nat} {u : Nat → Nat} (h : ∀ c, u c < 256) : Gf2.El 8 (bwb k r u) := fun i => by
  unfold bwb
  split
  · exact h _
  · decide
theorem bw_row (k r : Nat) (p y u : Nat → Nat) (i : Nat) : rdt (k + 2 * r + 1) (bwr k r p y i) u = pe 285 (p i) (k + r) (bwa k r u) ^^^ fm 285 (y i) (pe 285 (p i) (r + 1) (bwb k r u)) := by
  unfold rdt
  rw [show k + 2 * r + 1 = (k + r) + (r + 1) by omega, sx_split]
  congr 1
  · exact sx_congr (fun c hc => by
      unfold bwr bwa
      rw [if_pos hc, if_pos hc, fm_comm])
  · rw [fm_comm 285 (y i)]
    unfold pe
    rw [sx_fm]
    exact sx_congr (fun j hj => by
      unfold bwr bwb
      rw [if_neg (by omega), if_pos hj, Nat.add_sub_cancel_left, fm_comm 285 (u (k + r + j)), fld8.fm_assoc, fld8.fm_assoc, fm_comm 285 (y i)])
theorem bw_nul {k r n : Nat} {p y u : Nat → Nat} : Nul (k + 2 * r + 1) n (bwr k r p y) u ↔ ∀ i, i < n → pe 285 (p i) (k + r) (bwa k r u) = fm 285 (y i) (pe 285 (p i) (r + 1) (bwb k r u)) := by
  constructor
  · intro h i hi
    have h9 := h i hi
    rw [bw_row] at h9
    exact xor_zero19 h9
  · intro h i hi
    rw [bw_row, h i hi, Nat.xor_self]
theorem nr_cut {n k e : Nat} {p y f : Nat → Nat} (hk : k ≤ n) (df : Dg f k) : Nr19 p y n e f ↔ cnb (fun i => decide (pe 285 (p i) k f ≠ y i)) n ≤ e := by
  unfold Nr19
  rw [cnb_congr (P' := fun i => decide (pe 285 (p i) k f ≠ y i)) (fun i _ => by rw [fld8.pe_cut (p i) df hk])]
/-- nothing but 0 solves the equations: nothing is near. -/
theorem bw_none {k r n : Nat} {p y : Nat → Nat} (hk : k ≤ n) (hp : ∀ i, i < n → p i < 256) (h0 : ∀ u : Nat → Nat, (∀ c, u c < 256) → Nul (k + 2 * r + 1) n (bwr k r p y) u → ∀ c, c < k + 2 * r + 1 → u c = 0) {f : Nat → Nat} (ef : Gf2.El 8 f) (df : Dg f k) : ¬ Nr19 p y n r f := fun hn => by
  obtain ⟨A, B, eA, dA, eB, dB, ⟨j, hj, hB⟩, hAB⟩ := bw_some hp ef df ((nr_cut hk df).1 hn)
  obtain ⟨u, hu⟩ : ∃ u : Nat → Nat, u = fun c => if c < k + r then A c else B (c - (k + r)) := ⟨_, rfl⟩
  have ea : bwa k r u = A := by
    funext c
    unfold bwa
    by_cases h : c < k + r
    · rw [if_pos h, hu]; exact if_pos h
    · rw [if_neg h, dA c (by omega)]
  have eb : bwb k r u = B := by
    funext c
    unfold bwb
    by_cases h : c < r + 1
    · rw [if_pos h, hu]
      show (if k + r + c < k + r then _ else _) = _
      rw [if_neg (by omega), Nat.add_sub_cancel_left]
    · rw [if_neg h, dB c (by omega)]
  have h9 := h0 u (fun c => by
    rw [hu]
    show (if c < k + r then A c else B (c - (k + r))) < 256
    split
    · exact eA _
    · exact eB _) (bw_nul.2 (by rw [ea, eb]; exact hAB)) (k + r + j) (by omega)
  apply hB
  rw [← eb]
  unfold bwb
  rw [if_pos hj]
  exact h9
/-- a near polynomial is the quotient of every solution. -/
theorem bw_quo {k r n : Nat} {p y u f : Nat → Nat} (h1 : 1 ≤ k) (hr : k + 2 * r ≤ n) (hp : ∀ i, i < n → p i < 256) (up : Up8 n p) (hu : ∀ c, u c < 256) (hn : Nul (k + 2 * r + 1) n (bwr k r p y) u) (ef : Gf2.El 8 f) (df : Dg f k) (hf : Nr19 p y n r f) : bwa k r u = pm 285 f (bwb k r u) :=
  bw_only h1 hr hp (up_inj8 up) ef df (bwa_el hu) (bwa_dg _ _ _) (bwb_el hu) (bwb_dg _ _ _) (bw_nul.1 hn) ((nr_cut (by omega) df).1 hf)
theorem bw_one (k r : Nat) (u : Nat → Nat) : co (lf (k + r) (bwa k r u)) = bwa k r u := co_lf (bwa_dg _ _ _)
theorem bw_other (k r : Nat) (u : Nat → Nat) : co (lf (r + 1) (bwb k r u)) = bwb k r u := co_lf (bwb_dg _ _ _)
/-- the other is 0: nothing is near. -/
theorem bw_zero {k r n : Nat} {p y u f : Nat → Nat} (h1 : 1 ≤ k) (hr : k + 2 * r ≤ n) (hp : ∀ i, i < n → p i < 256) (up : Up8 n p) (hu : ∀ c, u c < 256) (hn : Nul (k + 2 * r + 1) n (bwr k r p y) u) {c : Nat} (hc : c < k + 2 * r + 1) (hc0 : u c ≠ 0) (h0 : nzl (lf (r + 1) (bwb k r u)) = 0) (ef : Gf2.El 8 f) (df : Dg f k) : ¬ Nr19 p y n r f := fun hf => by
  have e1 := bw_quo h1 hr hp up hu hn ef df hf
  have e2 : bwb k r u = pz := by
    rw [← bw_other k r u]
    funext j
    exact nzl_zero (by omega)
  rw [e2, fld8.pm_pz] at e1
  apply hc0
  by_cases h : c < k + r
  · have h9 := congrFun e1 c
    unfold bwa at h9
    rw [if_pos h] at h9
    exact h9
  · have h9 := congrFun e2 (c - (k + r))
    unfold bwb at h9
    rw [if_pos (by omega), show k + r + (c - (k + r)) = c by omega] at h9
    exact h9
/-- what DivMod answers. -/
theorem bw_div {k r n : Nat} {p y u f Q M : Nat → Nat} (h1 : 1 ≤ k) (hr : k + 2 * r ≤ n) (hp : ∀ i, i < n → p i < 256) (up : Up8 n p) (hu : ∀ c, u c < 256) (hn : Nul (k + 2 * r + 1) n (bwr k r p y) u) (h0 : nzl (lf (r + 1) (bwb k r u)) ≠ 0)
    (pQ : Pol 8 Q) (dM : Dg M (nzl (lf (r + 1) (bwb k r u)) - 1)) (he : bwa k r u = pa (pm 285 Q (bwb k r u)) M) (ef : Gf2.El 8 f) (df : Dg f k) (hf : Nr19 p y n r f) : Q = f ∧ M = pz := by
  have e1 := bw_quo h1 hr hp up hu hn ef df hf
  have tp : Tp (bwb k r u) (nzl (lf (r + 1) (bwb k r u)) - 1) := by
    refine ⟨fun i hi => ?_, ?_⟩
    · rw [← bw_other k r u]
      exact nzl_zero (by omega)
    · have := nzl_top h0
      rw [bw_other] at this
      exact this
  exact near_div19 (bwb_el hu) tp pQ dM he ⟨ef, k, df⟩ e1
/-- where no column is free, 0 alone is null. -/
theorem rin_full {n m : Nat} {S R : Nat → Nat → Nat} {p : Nat → Nat} (h : Rin n S m n R p) {u : Nat → Nat} (hu : ∀ c, u c < 256) (hn : Nul n m S u) : ∀ c, c < n → u c = 0 := by
  have up : ∀ i, i < n → i ≤ p i := fun i => by
    induction i with
    | zero => intro _; omega
    | succ i ih => intro hi; have := ih (by omega); have := h.up i (i + 1) (by omega) hi; omega
  have dn : ∀ j, j < n → p (n - 1 - j) ≤ n - 1 - j := fun j => by
    induction j with
    | zero => intro hj; have := h.rdu.lt (n - 1) (by omega); rw [Nat.sub_zero]; omega
    | succ j ih => intro hj; have := ih (by omega); have := h.up (n - 1 - (j + 1)) (n - 1 - j) (by omega) (by omega); omega
  have eq : ∀ i, i < n → p i = i := fun i hi => by
    have a := up i hi
    have b := dn (n - 1 - i) (by omega)
    rw [show n - 1 - (n - 1 - i) = i by omega] at b
    omega
  exact full_nul h.rdu (fun c hc => ⟨c, hc, eq c hc⟩) (fun c _ => hu c) ((h.nul u).2 hn)
end Go.Proofs.Ytfhgamaakkoplaa
namespace Go.Proofs.Ytfhgamaakkoplaa
open Go.RowKit Gf2
set_option linter.unusedVariables false

-- layer 19: MendTells: what stands fast behind Shards
theorem lb_open19 {w : World} {aS : Option Addr} {n cS : Nat} {ln : Nat → Nat} {S : Nat → Nat → Nat} (h : Lb w (.slice aS n cS) n ln S) : ∃ (xa : Nat → Option Addr) (xc : Nat → Nat), (∀ x, x < n → ∃ b o, aS = some ⟨b, o, none⟩ ∧ w.cell? ⟨b, o + x, none⟩ = some (.slice (xa x) (ln x) (xc x))) ∧ ∀ x, x < n → Rb w (.slice (xa x) (ln x) (xc x)) (ln x) (S x) := by
  obtain ⟨V, ⟨hn, a, cap, e, -, -, h4⟩, hV⟩ := h
  cases e
  have hx : ∀ x, ∃ p : Option Addr × Nat, x < n → V x = .slice p.1 (ln x) p.2 := fun x => by
    by_cases hx : x < n
    · obtain ⟨_, _, y, z, e, _⟩ := hV x hx
      exact ⟨(y, z), fun _ => e⟩
    · exact ⟨(none, 0), fun h => absurd h hx⟩
  refine ⟨fun x => (Classical.choose (hx x)).1, fun x => (Classical.choose (hx x)).2, fun x hxn => ?_, fun x hxn => ?_⟩
  · obtain ⟨b, o, e, -, hc⟩ := h4 (by omega)
    refine ⟨b, o, e, ?_⟩
    rw [hc x hxn, Classical.choose_spec (hx x) hxn]
  · have := (hV x hxn).rb
    rw [Classical.choose_spec (hx x) hxn] at this
    exact this
end Go.Proofs.Ytfhgamaakkoplaa
