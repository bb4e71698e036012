import Derived.Test.YtfbgcednodnioabDoorZpc
import Derived.Test.YtfbgcednodnioabDoorEsn
namespace Go.Proofs.YtfbgcednodnioabDoor
open Go.RowKit Gf2
set_option linter.unusedVariables false

-- layer 22: a source in memory
/-- a list of bytes whose block I names. -/
def Bi (I : Nat → Prop) (w : World) (v : Value) (n : Nat) (F : Nat → Nat) : Prop := n ≤ big ∧ (∀ i, i < n → F i < 256) ∧
  ∃ a cap, v = .slice a n cap ∧ n ≤ cap ∧ cap ≤ big ∧ (0 < n → ∃ b o, a = some ⟨b, o, none⟩ ∧ I b ∧ b < w.heap.size ∧ ∀ i, i < n → w.cell? ⟨b, o + i, none⟩ = some (.int .u8 (F i : Nat)))
/-- a list of ints whose block I names. -/
def Ii (I : Nat → Prop) (w : World) (v : Value) (n : Nat) (F : Nat → Int) : Prop := n ≤ big ∧
  ∃ a cap, v = .slice a n cap ∧ n ≤ cap ∧ cap ≤ big ∧ (0 < n → ∃ b o, a = some ⟨b, o, none⟩ ∧ I b ∧ b < w.heap.size ∧ ∀ i, i < n → w.cell? ⟨b, o + i, none⟩ = some (.int .i64 (F i)))
theorem Nb.bi {lo n : Nat} {w : World} {v : Value} {F : Nat → Nat} {I : Nat → Prop} (h : Nb lo w v n F) (hI : ∀ x, lo ≤ x → x < w.heap.size → I x) : Bi I w v n F := by
  obtain ⟨h1, h2, a, cap, h3, h4, h5, h6⟩ := h
  exact ⟨h1, h2, a, cap, h3, h4, h5, fun h0 => by obtain ⟨b, o, e, k, hl, hc⟩ := h6 h0; exact ⟨b, o, e, hI b k hl, hl, hc⟩⟩
theorem Ni.ii {lo n : Nat} {w : World} {v : Value} {F : Nat → Int} {I : Nat → Prop} (h : Ni lo w v n F) (hI : ∀ x, lo ≤ x → x < w.heap.size → I x) : Ii I w v n F := by
  obtain ⟨h1, a, cap, h3, h4, h5, h6⟩ := h
  exact ⟨h1, a, cap, h3, h4, h5, fun h0 => by obtain ⟨b, o, e, k, hl, hc⟩ := h6 h0; exact ⟨b, o, e, hI b k hl, hl, hc⟩⟩
section
variable {I E : Nat → Prop} {w w' : World} {v : Value} {n : Nat}
theorem Bi.rb {F : Nat → Nat} (h : Bi I w v n F) : Rb w v n F := by
  obtain ⟨h1, h2, a, cap, h3, h4, h5, h6⟩ := h
  exact ⟨h1, h2, a, cap, h3, h4, h5, fun h0 => by obtain ⟨b, o, e, -, hl, hc⟩ := h6 h0; exact ⟨b, o, e, hl, hc⟩⟩
theorem Ii.qi {F : Nat → Int} (h : Ii I w v n F) : Qi w v n F := by
  obtain ⟨h1, a, cap, h3, h4, h5, h6⟩ := h
  exact ⟨h1, trivial, a, cap, h3, h4, h5, fun h0 => by obtain ⟨b, o, e, -, hl, hc⟩ := h6 h0; exact ⟨b, o, e, hl, hc⟩⟩
theorem Bi.ke {F : Nat → Nat} (h : Bi I w v n F) (hk : Ke E w w') (hE : ∀ x, I x → ¬ E x) : Bi I w' v n F := by
  obtain ⟨h1, h2, a, cap, h3, h4, h5, h6⟩ := h
  exact ⟨h1, h2, a, cap, h3, h4, h5, fun h0 => by obtain ⟨b, o, e, hi, hl, hc⟩ := h6 h0; exact ⟨b, o, e, hi, Nat.lt_of_lt_of_le hl hk.size, fun i hii => (hk.cell hl (hE b hi)).trans (hc i hii)⟩⟩
theorem Ii.ke {F : Nat → Int} (h : Ii I w v n F) (hk : Ke E w w') (hE : ∀ x, I x → ¬ E x) : Ii I w' v n F := by
  obtain ⟨h1, a, cap, h3, h4, h5, h6⟩ := h
  exact ⟨h1, a, cap, h3, h4, h5, fun h0 => by obtain ⟨b, o, e, hi, hl, hc⟩ := h6 h0; exact ⟨b, o, e, hi, Nat.lt_of_lt_of_le hl hk.size, fun i hii => (hk.cell hl (hE b hi)).trans (hc i hii)⟩⟩
end
def I6x (x : Int) : Prop := -9223372036854775808 ≤ x ∧ x ≤ 9223372036854775807
/-- how many of l bytes a turn's chunk allows. -/
def tw22 (l k : Nat) (C : Nat → Int) (t : Nat) : Nat := if k = 0 then l else min l (C (t % k)).toNat
/-- how many of x bytes there are ahead of the end and of the break. -/
def mo22 (x n p : Nat) (fa : Int) : Nat := if 0 ≤ fa then min (min x (n - p)) (fa.toNat - p) else min x (n - p)
def qx22 (k t : Nat) : Nat := if k = 0 then 0 else t % k
/-- the blocks of a source but its own. -/
def Iv (lo hi b x : Nat) : Prop := lo ≤ x ∧ x < hi ∧ x ≠ b
/-- a source in the blocks lo to hi: n bytes D, k chunks C, the break fa, its failure in block f; p bytes were given in t turns. -/
structure So (lo hi : Nat) (w : World) (b n : Nat) (D : Nat → Nat) (k : Nat) (C : Nat → Int) (fa code : Int) (f p t : Nat) : Prop where
  bl : lo ≤ b ∧ b < hi
  hh : hi ≤ w.heap.size
  dat : ∃ dv cv fv, w.heap[b]? = some (.cells #[dv, .int .i64 (p : Int), cv, .int .i64 ((qx22 k t : Nat) : Int), .int .i64 fa, fv] 62 (0, 0)) ∧ Bi (Iv lo hi b) w dv n D ∧ Ii (Iv lo hi b) w cv k C ∧ Fv w fa code fv f
  fb : 0 ≤ fa → Iv lo hi b f
  pn : p ≤ n
  pf : 0 ≤ fa → (p : Int) ≤ fa
  nb : n ≤ 140737488355328
  kb : k ≤ 140737488355328
  ff : I6x fa
section
variable {lo hi b n k f p t : Nat} {w w' : World} {D : Nat → Nat} {C : Nat → Int} {fa code : Int}
theorem Fv.ke {E : Nat → Prop} {v : Value} (h : Fv w fa code v f) (hk : Ke E w w') (hE : 0 ≤ fa → ¬ E f) : Fv w' fa code v f := by
  rcases h with h | ⟨h1, h2, h3⟩
  · exact .inl h
  · exact .inr ⟨h1, h2, (hk.2 f (Array.getElem?_eq_some_iff.1 h3).1 (hE h1)).trans h3⟩
theorem So.keep {E : Nat → Prop} (h : So lo hi w b n D k C fa code f p t) (hk : Ke E w w') (hE : ∀ x, lo ≤ x → x < hi → ¬ E x) : So lo hi w' b n D k C fa code f p t := by
  obtain ⟨dv, cv, fv, h1, h2, h3, h4⟩ := h.dat
  exact ⟨h.bl, Nat.le_trans h.hh hk.size, ⟨dv, cv, fv, (hk.2 b (Array.getElem?_eq_some_iff.1 h1).1 (hE b h.bl.1 h.bl.2)).trans h1, h2.ke hk (fun x hx => hE x hx.1 hx.2.1), h3.ke hk (fun x hx => hE x hx.1 hx.2.1), h4.ke hk (fun h0 => hE f (h.fb h0).1 (h.fb h0).2.1)⟩, h.fb, h.pn, h.pf, h.nb, h.kb, h.ff⟩
theorem So.below (h : So lo hi w b n D k C fa code f p t) (hb : Below w.heap.size w w') : So lo hi w' b n D k C fa code f p t := h.keep (ke_below hb (fun _ => False)) (fun _ _ _ e => e)
theorem So.drewN (h : So lo hi w b n D k C fa code f p t) (m : Nat) : So lo hi (w.drewN m) b n D k C fa code f p t := h.keep ((Ke.refl (fun _ => False) w).drewN m) (fun _ _ _ e => e)
/-- the block itself has turned. -/
theorem So.turned {p' t' : Nat} (h : So lo hi w b n D k C fa code f p t) (hk : Kp b w w') (hp : p' ≤ n) (hf : 0 ≤ fa → (p' : Int) ≤ fa)
    (hb : ∀ dv cv fv, w.heap[b]? = some (.cells #[dv, .int .i64 (p : Int), cv, .int .i64 ((qx22 k t : Nat) : Int), .int .i64 fa, fv] 62 (0, 0)) → w'.heap[b]? = some (.cells #[dv, .int .i64 (p' : Int), cv, .int .i64 ((qx22 k t' : Nat) : Int), .int .i64 fa, fv] 62 (0, 0))) : So lo hi w' b n D k C fa code f p' t' := by
  obtain ⟨dv, cv, fv, h1, h2, h3, h4⟩ := h.dat
  exact ⟨h.bl, Nat.le_trans h.hh hk.size, ⟨dv, cv, fv, hb dv cv fv h1, h2.ke hk.ke (fun x hx e => hx.2.2 e), h3.ke hk.ke (fun x hx e => hx.2.2 e), h4.ke hk.ke (fun h0 e => (h.fb h0).2.2 e)⟩, h.fb, hp, hf, h.nb, h.kb, h.ff⟩
/-- what stands in the source's block. -/
structure Sx (w : World) (b n k p t : Nat) (fa : Int) (a : Option Addr) (cap : Nat) (c : Option Addr) (ccap : Nat) (fv : Value) : Prop where
  blk : w.heap[b]? = some (.cells #[.slice a n cap, .int .i64 (p : Int), .slice c k ccap, .int .i64 ((qx22 k t : Nat) : Int), .int .i64 fa, fv] 62 (0, 0))
theorem So.open_ (h : So lo hi w b n D k C fa code f p t) : ∃ a cap c ccap fv, Sx w b n k p t fa a cap c ccap fv ∧ Bi (Iv lo hi b) w (.slice a n cap) n D ∧ Ii (Iv lo hi b) w (.slice c k ccap) k C ∧ Fv w fa code fv f := by
  obtain ⟨dv, cv, fv, h1, h2, h3, h4⟩ := h.dat
  have h2' := h2
  have h3' := h3
  obtain ⟨-, -, a, cap, rfl, -⟩ := h2
  obtain ⟨-, c, ccap, rfl, -⟩ := h3
  exact ⟨a, cap, c, ccap, fv, ⟨h1⟩, h2', h3', h4⟩
variable {a c : Option Addr} {cap ccap : Nat} {fv : Value}
theorem Sx.c0 (h : Sx w b n k p t fa a cap c ccap fv) : w.cell? ⟨b, 0, none⟩ = some (.slice a n cap) := by rw [cell_of_row _ _ 0 _ _ _ h.blk]; rfl
theorem Sx.c1 (h : Sx w b n k p t fa a cap c ccap fv) : w.cell? ⟨b, 1, none⟩ = some (.int .i64 (p : Int)) := by rw [cell_of_row _ _ 1 _ _ _ h.blk]; rfl
theorem Sx.c2 (h : Sx w b n k p t fa a cap c ccap fv) : w.cell? ⟨b, 2, none⟩ = some (.slice c k ccap) := by rw [cell_of_row _ _ 2 _ _ _ h.blk]; rfl
theorem Sx.c3 (h : Sx w b n k p t fa a cap c ccap fv) : w.cell? ⟨b, 3, none⟩ = some (.int .i64 ((qx22 k t : Nat) : Int)) := by rw [cell_of_row _ _ 3 _ _ _ h.blk]; rfl
theorem Sx.c4 (h : Sx w b n k p t fa a cap c ccap fv) : w.cell? ⟨b, 4, none⟩ = some (.int .i64 fa) := by rw [cell_of_row _ _ 4 _ _ _ h.blk]; rfl
theorem Sx.c5 (h : Sx w b n k p t fa a cap c ccap fv) : w.cell? ⟨b, 5, none⟩ = some fv := by rw [cell_of_row _ _ 5 _ _ _ h.blk]; rfl
theorem Sx.fz (h : Sx w b n k p t fa a cap c ccap fv) (i : Nat) : w.frozen? ⟨b, i, none⟩ = false := frozen_of_row _ _ i _ _ h.blk
end
set_option maxHeartbeats 2000000 in
set_option maxRecDepth 100000 in
theorem turn22 {lo hi b n k f p t : Nat} {D : Nat → Nat} {C : Nat → Int} {fa code : Int} (l : Nat) (w : World) (h : So lo hi w b n D k C fa code f p t) (hl : l ≤ 140737488355328) (hC : ∀ i, i < k → I6x (C i)) :
    Calls Tryd.prog 23 #[.pointer (some ⟨b, 0, none⟩), .int .i64 (l : Int)] w fun e w' => e = .returned (.int .i64 ((tw22 l k C t : Nat) : Int)) ∧ So lo hi w' b n D k C fa code f p (t + 1) ∧ Kp b w w' ∧
      (∀ i v, i < 3 → w.cell? ⟨b, i, none⟩ = some v → w'.cell? ⟨b, i, none⟩ = some v) := by
  obtain ⟨a, cap, c, ccap, fv, hx, hB, hI, hF⟩ := h.open_
  have z2 := hx.c2
  by_cases hk : k = 0
  · subst hk
    have HG : Hid (So lo hi w b n D 0 C fa code f p (t + 1)) := h.turned (Kp.refl _ _) h.pn h.pf (fun _ _ _ e => e)
    have e1 : tw22 l 0 C t = l := if_pos rfl
    rw [e1]
    clear h hx hB hI hF hC e1
    go_enter Tryd.func23, Tryd.ntmps23
    go_wp2
    go_ret
    exact ⟨rfl, HG.out, Kp.refl _ _, fun _ _ _ e => e⟩
  · have z3 := hx.c3
    have f3 := hx.fz 3
    have eq : qx22 k t = t % k := if_neg hk
    have hq : t % k < k := Nat.mod_lt _ (by omega)
    have kb := h.kb
    have hq2 : (t + 1) % k = (t % k + 1) % k := by rw [Nat.add_mod, Nat.add_mod (t % k) 1, Nat.mod_mod]
    obtain ⟨x, o, ec, hxl, hcl⟩ : ∃ x o, c = some ⟨x, o, none⟩ ∧ x < w.heap.size ∧ ∀ i, i < k → w.cell? ⟨x, o + i, none⟩ = some (.int .i64 (C i)) := by
      obtain ⟨-, c', cc', e, -, -, hh⟩ := hI
      cases e
      obtain ⟨x, o, e1, -, e2, e3⟩ := hh (by omega)
      exact ⟨x, o, e1, e2, e3⟩
    subst ec
    have q1 := hcl (t % k) hq
    have hCq := hC _ hq
    have HG : Hid (∀ W : World, Below 0 w W → W.heap = w.heap → So lo hi (W.setCell ⟨b, 3, none⟩ (.int .i64 (((t % k + 1) % k : Nat) : Int))) b n D k C fa code f p (t + 1) ∧ Kp b w (W.setCell ⟨b, 3, none⟩ (.int .i64 (((t % k + 1) % k : Nat) : Int))) ∧
        (∀ i v, i < 3 → w.cell? ⟨b, i, none⟩ = some v → (W.setCell ⟨b, 3, none⟩ (.int .i64 (((t % k + 1) % k : Nat) : Int))).cell? ⟨b, i, none⟩ = some v)) := by
      intro W hW eW
      have k0 : Kp b w W := ⟨hW, fun x _ _ => by rw [eW]⟩
      have k1 := k0.setCell 3 (.int .i64 (((t % k + 1) % k : Nat) : Int))
      refine ⟨h.turned k1 h.pn h.pf (fun dv cv fv e => ?_), k1, fun i v hi e => ?_⟩
      · rw [heap_setCell_same W b 3 _ _ _ (by rw [eW]; exact e)]
        have e9 : qx22 k (t + 1) = (t % k + 1) % k := by unfold qx22; rw [if_neg hk, hq2]
        rw [e9]
        rfl
      · rw [World.cell?_setCell_other _ _ _ _ (by intro e9; cases e9; omega), ← e]
        unfold World.cell?
        rw [eW]
    have e1 : tw22 l k C t = min l (C (t % k)).toNat := if_neg hk
    rw [eq] at z3
    rw [e1]
    generalize t % k = q at *
    generalize hcv : C q = cv at *
    have hk0 : ((k : Int) == 0) = false := beq_eq_false_iff_ne.2 (by omega)
    have hk0N : (k == 0) = false := beq_eq_false_iff_ne.2 hk
    have qb : ((q : Nat) : Int) < (k : Int) := by omega
    have em : max (0 : Int) (min (l : Int) cv) = ((min l cv.toNat : Nat) : Int) := by omega
    have W1 : IntKind.i64.wrap ((q : Int) + 1) = ((q + 1 : Nat) : Int) := by rw [IntKind.wrap_i64]; omega
    have W2 : ((q + 1 : Nat) : Int).tmod (k : Int) = (((q + 1) % k : Nat) : Int) := by rw [Int.tmod_eq_emod_of_nonneg (by omega)]; rfl
    obtain ⟨r, hr⟩ : ∃ r, r = min l cv.toNat := ⟨_, rfl⟩
    rw [← hr] at em
    rw [← hr]
    obtain ⟨s, hs⟩ : ∃ s, s = (q + 1) % k := ⟨_, rfl⟩
    rw [← hs] at W2 HG
    obtain ⟨q1', hq1⟩ : ∃ q1', q1' = q + 1 := ⟨_, rfl⟩
    rw [← hq1] at W1 W2
    clear h hx hB hI hF hC e1 hr hq hq2 kb hcl hl hs hcv hCq eq hxl hq1
    go_enter Tryd.func23, Tryd.ntmps23
    go_wp2
    go_quiet (fail)
    go_wp2
    refine region_tail8 14 (by kernel_rfl) (by kernel_rfl) ?_
    simp only [List.take_succ_cons, List.take_zero, List.drop_succ_cons, List.drop_zero]
    repeat still_step
    refine wpStill_nil ?_
    go_wp2
    go_ret
    refine ⟨by first | rfl | rw [em], ?_⟩
    exact HG.out ((w.drewN nq).drew) (below_drewN (below_drewN (Below.refl _ _) nq) 1) rfl
end Go.Proofs.YtfbgcednodnioabDoor
