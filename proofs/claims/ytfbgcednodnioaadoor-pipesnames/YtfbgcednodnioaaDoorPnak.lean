import Derived.Test.YtfbgcednodnioaaDoorPnah
import Derived.Test.YtfbgcednodnioaaDoorPnaj
namespace Go.Proofs.YtfbgcednodnioaaDoor
open Go.RowKit Gf2
set_option linter.unusedVariables false

-- layer 22: a source in memory
/-- a list of bytes whose block I names. -/
def Bi (I : Nat → Prop) (w : World) (v : Value) (n : Nat) (F : Nat → Nat) : Prop := n ≤ big ∧ (∀ i, i < n → F i < 256) ∧
  ∃ a cap, v = .slice a n cap ∧ n ≤ cap ∧ cap ≤ big ∧ (0 < n → ∃ b o, a = some ⟨b, o, none⟩ ∧ I b ∧ b < w.heap.size ∧ ∀ i, i < n → w.cell? ⟨b, o + i, none⟩ = some (.int .u8 (F i : Nat)))
/-- a list of ints whose block I names. -/
def Ii (I : Nat → Prop) (w : World) (v : Value) (n : Nat) (F : Nat → Int) : Prop := n ≤ big ∧
  ∃ a cap, v = .slice a n cap ∧ n ≤ cap ∧ cap ≤ big ∧ (0 < n → ∃ b o, a = some ⟨b, o, none⟩ ∧ I b ∧ b < w.heap.size ∧ ∀ i, i < n → w.cell? ⟨b, o + i, none⟩ = some (.int .i64 (F i)))
theorem Nb.bi {lo n : Nat} {w : World} {v : Value} {F : Nat → Nat} {I : Nat → Prop} (h : Nb lo w v n F) (hI : ∀ x, lo ≤ x → x < w.heap.size → I x) : Bi I w v n F := by
  obtain ⟨h1, h2, a, cap, h3, h4, h5, h6⟩ := h
  exact ⟨h1, h2, a, cap, h3, h4, h5, fun h0 => by obtain ⟨b, o, e, k, hl, hc⟩ := h6 h0; exact ⟨b, o, e, hI b k hl, hl, hc⟩⟩
theorem Ni.ii {lo n : Nat} {w : World} {v : Value} {F : Nat → Int} {I : Nat → Prop} (h : Ni lo w v n F) (hI : ∀ x, lo ≤ x → x < w.heap.size → I x) : Ii I w v n F := by
  obtain ⟨h1, a, cap, h3, h4, h5, h6⟩ := h
  exact ⟨h1, a, cap, h3, h4, h5, fun h0 => by obtain ⟨b, o, e, k, hl, hc⟩ := h6 h0; exact ⟨b, o, e, hI b k hl, hl, hc⟩⟩
section
variable {I E : Nat → Prop} {w w' : World} {v : Value} {n : Nat}
theorem Bi.rb {F : Nat → Nat} (h : Bi I w v n F) : Rb w v n F := by
  obtain ⟨h1, h2, a, cap, h3, h4, h5, h6⟩ := h
  exact ⟨h1, h2, a, cap, h3, h4, h5, fun h0 => by obtain ⟨b, o, e, -, hl, hc⟩ := h6 h0; exact ⟨b, o, e, hl, hc⟩⟩
theorem Bi.ke {F : Nat → Nat} (h : Bi I w v n F) (hk : Ke E w w') (hE : ∀ x, I x → ¬ E x) : Bi I w' v n F := by
  obtain ⟨h1, h2, a, cap, h3, h4, h5, h6⟩ := h
  exact ⟨h1, h2, a, cap, h3, h4, h5, fun h0 => by obtain ⟨b, o, e, hi, hl, hc⟩ := h6 h0; exact ⟨b, o, e, hi, Nat.lt_of_lt_of_le hl hk.size, fun i hii => (hk.cell hl (hE b hi)).trans (hc i hii)⟩⟩
theorem Ii.ke {F : Nat → Int} (h : Ii I w v n F) (hk : Ke E w w') (hE : ∀ x, I x → ¬ E x) : Ii I w' v n F := by
  obtain ⟨h1, a, cap, h3, h4, h5, h6⟩ := h
  exact ⟨h1, a, cap, h3, h4, h5, fun h0 => by obtain ⟨b, o, e, hi, hl, hc⟩ := h6 h0; exact ⟨b, o, e, hi, Nat.lt_of_lt_of_le hl hk.size, fun i hii => (hk.cell hl (hE b hi)).trans (hc i hii)⟩⟩
end
def I6x (x : Int) : Prop := -9223372036854775808 ≤ x ∧ x ≤ 9223372036854775807
/-- how many of l bytes a turn's chunk allows. -/
def tw22 (l k : Nat) (C : Nat → Int) (t : Nat) : Nat := if k = 0 then l else min l (C (t % k)).toNat
/-- how many of x bytes there are ahead of the end and of the break. -/
def mo22 (x n p : Nat) (fa : Int) : Nat := if 0 ≤ fa then min (min x (n - p)) (fa.toNat - p) else min x (n - p)
def qx22 (k t : Nat) : Nat := if k = 0 then 0 else t % k
/-- the blocks of a source but its own. -/
def Iv (lo hi b x : Nat) : Prop := lo ≤ x ∧ x < hi ∧ x ≠ b
/-- a source in the blocks lo to hi: n bytes D, k chunks C, the break fa, its failure in block f; p bytes were given in t turns. -/
structure So (lo hi : Nat) (w : World) (b n : Nat) (D : Nat → Nat) (k : Nat) (C : Nat → Int) (fa code : Int) (f p t : Nat) : Prop where
  bl : lo ≤ b ∧ b < hi
  hh : hi ≤ w.heap.size
  dat : ∃ dv cv fv, w.heap[b]? = some (.cells #[dv, .int .i64 (p : Int), cv, .int .i64 ((qx22 k t : Nat) : Int), .int .i64 fa, fv] 81 (0, 0)) ∧ Bi (Iv lo hi b) w dv n D ∧ Ii (Iv lo hi b) w cv k C ∧ Fv w fa code fv f
  fb : 0 ≤ fa → Iv lo hi b f
  pn : p ≤ n
  pf : 0 ≤ fa → (p : Int) ≤ fa
  nb : n ≤ 140737488355328
  kb : k ≤ 140737488355328
  ff : I6x fa
section
variable {lo hi b n k f p t : Nat} {w w' : World} {D : Nat → Nat} {C : Nat → Int} {fa code : Int}
theorem Fv.ke {E : Nat → Prop} {v : Value} (h : Fv w fa code v f) (hk : Ke E w w') (hE : 0 ≤ fa → ¬ E f) : Fv w' fa code v f := by
  rcases h with h | ⟨h1, h2, h3⟩
  · exact .inl h
  · exact .inr ⟨h1, h2, (hk.2 f (Array.getElem?_eq_some_iff.1 h3).1 (hE h1)).trans h3⟩
theorem So.keep {E : Nat → Prop} (h : So lo hi w b n D k C fa code f p t) (hk : Ke E w w') (hE : ∀ x, lo ≤ x → x < hi → ¬ E x) : So lo hi w' b n D k C fa code f p t := by
  obtain ⟨dv, cv, fv, h1, h2, h3, h4⟩ := h.dat
  exact ⟨h.bl, Nat.le_trans h.hh hk.size, ⟨dv, cv, fv, (hk.2 b (Array.getElem?_eq_some_iff.1 h1).1 (hE b h.bl.1 h.bl.2)).trans h1, h2.ke hk (fun x hx => hE x hx.1 hx.2.1), h3.ke hk (fun x hx => hE x hx.1 hx.2.1), h4.ke hk (fun h0 => hE f (h.fb h0).1 (h.fb h0).2.1)⟩, h.fb, h.pn, h.pf, h.nb, h.kb, h.ff⟩
theorem So.below (h : So lo hi w b n D k C fa code f p t) (hb : Below w.heap.size w w') : So lo hi w' b n D k C fa code f p t := h.keep (ke_below hb (fun _ => False)) (fun _ _ _ e => e)
theorem So.drewN (h : So lo hi w b n D k C fa code f p t) (m : Nat) : So lo hi (w.drewN m) b n D k C fa code f p t := h.keep ((Ke.refl (fun _ => False) w).drewN m) (fun _ _ _ e => e)
/-- the block itself has turned. -/
theorem So.turned {p' t' : Nat} (h : So lo hi w b n D k C fa code f p t) (hk : Kp b w w') (hp : p' ≤ n) (hf : 0 ≤ fa → (p' : Int) ≤ fa)
    (hb : ∀ dv cv fv, w.heap[b]? = some (.cells #[dv, .int .i64 (p : Int), cv, .int .i64 ((qx22 k t : Nat) : Int), .int .i64 fa, fv] 81 (0, 0)) → w'.heap[b]? = some (.cells #[dv, .int .i64 (p' : Int), cv, .int .i64 ((qx22 k t' : Nat) : Int), .int .i64 fa, fv] 81 (0, 0))) : So lo hi w' b n D k C fa code f p' t' := by
  obtain ⟨dv, cv, fv, h1, h2, h3, h4⟩ := h.dat
  exact ⟨h.bl, Nat.le_trans h.hh hk.size, ⟨dv, cv, fv, hb dv cv fv h1, h2.ke hk.ke (fun x hx e => hx.2.2 e), h3.ke hk.ke (fun x hx e => hx.2.2 e), h4.ke hk.ke (fun h0 e => (h.fb h0).2.2 e)⟩, h.fb, hp, hf, h.nb, h.kb, h.ff⟩
/-- what stands in the source's block. -/
structure Sx (w : World) (b n k p t : Nat) (fa : Int) (a : Option Addr) (cap : Nat) (c : Option Addr) (ccap : Nat) (fv : Value) : Prop where
  blk : w.heap[b]? = some (.cells #[.slice a n cap, .int .i64 (p : Int), .slice c k ccap, .int .i64 ((qx22 k t : Nat) : Int), .int .i64 fa, fv] 81 (0, 0))
theorem So.open_ (h : So lo hi w b n D k C fa code f p t) : ∃ a cap c ccap fv, Sx w b n k p t fa a cap c ccap fv ∧ Bi (Iv lo hi b) w (.slice a n cap) n D ∧ Ii (Iv lo hi b) w (.slice c k ccap) k C ∧ Fv w fa code fv f := by
  obtain ⟨dv, cv, fv, h1, h2, h3, h4⟩ := h.dat
  have h2' := h2
  have h3' := h3
  obtain ⟨-, -, a, cap, rfl, -⟩ := h2
  obtain ⟨-, c, ccap, rfl, -⟩ := h3
  exact ⟨a, cap, c, ccap, fv, ⟨h1⟩, h2', h3', h4⟩
variable {a c : Option Addr} {cap ccap : Nat} {fv : Value}
theorem Sx.c0 (h : Sx w b n k p t fa a cap c ccap fv) : w.cell? ⟨b, 0, none⟩ = some (.slice a n cap) := by rw [cell_of_row _ _ 0 _ _ _ h.blk]; rfl
theorem Sx.c1 (h : Sx w b n k p t fa a cap c ccap fv) : w.cell? ⟨b, 1, none⟩ = some (.int .i64 (p : Int)) := by rw [cell_of_row _ _ 1 _ _ _ h.blk]; rfl
theorem Sx.c2 (h : Sx w b n k p t fa a cap c ccap fv) : w.cell? ⟨b, 2, none⟩ = some (.slice c k ccap) := by rw [cell_of_row _ _ 2 _ _ _ h.blk]; rfl
theorem Sx.c3 (h : Sx w b n k p t fa a cap c ccap fv) : w.cell? ⟨b, 3, none⟩ = some (.int .i64 ((qx22 k t : Nat) : Int)) := by rw [cell_of_row _ _ 3 _ _ _ h.blk]; rfl
theorem Sx.c4 (h : Sx w b n k p t fa a cap c ccap fv) : w.cell? ⟨b, 4, none⟩ = some (.int .i64 fa) := by rw [cell_of_row _ _ 4 _ _ _ h.blk]; rfl
theorem Sx.c5 (h : Sx w b n k p t fa a cap c ccap fv) : w.cell? ⟨b, 5, none⟩ = some fv := by rw [cell_of_row _ _ 5 _ _ _ h.blk]; rfl
theorem Sx.fz (h : Sx w b n k p t fa a cap c ccap fv) (i : Nat) : w.frozen? ⟨b, i, none⟩ = false := frozen_of_row _ _ i _ _ h.blk
end
set_option maxHeartbeats 2000000 in
set_option maxRecDepth 100000 in
theorem turn22 {lo hi b n k f p t : Nat} {D : Nat → Nat} {C : Nat → Int} {fa code : Int} (l : Nat) (w : World) (h : So lo hi w b n D k C fa code f p t) (hl : l ≤ 140737488355328) (hC : ∀ i, i < k → I6x (C i)) :
    Calls Tryd.prog 38 #[.pointer (some ⟨b, 0, none⟩), .int .i64 (l : Int)] w fun e w' => e = .returned (.int .i64 ((tw22 l k C t : Nat) : Int)) ∧ So lo hi w' b n D k C fa code f p (t + 1) ∧ Kp b w w' ∧
      (∀ i v, i < 3 → w.cell? ⟨b, i, none⟩ = some v → w'.cell? ⟨b, i, none⟩ = some v) := by
  obtain ⟨a, cap, c, ccap, fv, hx, hB, hI, hF⟩ := h.open_
  have z2 := hx.c2
  by_cases hk : k = 0
  · subst hk
    have HG : Hid (So lo hi w b n D 0 C fa code f p (t + 1)) := h.turned (Kp.refl _ _) h.pn h.pf (fun _ _ _ e => e)
    have e1 : tw22 l 0 C t = l := if_pos rfl
    rw [e1]
    clear h hx hB hI hF hC e1
    go_enter Tryd.func38, Tryd.ntmps38
    go_wp2
    go_ret
    exact ⟨rfl, HG.out, Kp.refl _ _, fun _ _ _ e => e⟩
  · have z3 := hx.c3
    have f3 := hx.fz 3
    have eq : qx22 k t = t % k := if_neg hk
    have hq : t % k < k := Nat.mod_lt _ (by omega)
    have kb := h.kb
    have hq2 : (t + 1) % k = (t % k + 1) % k := by rw [Nat.add_mod, Nat.add_mod (t % k) 1, Nat.mod_mod]
    obtain ⟨x, o, ec, hxl, hcl⟩ : ∃ x o, c = some ⟨x, o, none⟩ ∧ x < w.heap.size ∧ ∀ i, i < k → w.cell? ⟨x, o + i, none⟩ = some (.int .i64 (C i)) := by
      obtain ⟨-, c', cc', e, -, -, hh⟩ := hI
      cases e
      obtain ⟨x, o, e1, -, e2, e3⟩ := hh (by omega)
      exact ⟨x, o, e1, e2, e3⟩
    subst ec
    have q1 := hcl (t % k) hq
    have hCq := hC _ hq
    have HG : Hid (∀ W : World, Below 0 w W → W.heap = w.heap → So lo hi (W.setCell ⟨b, 3, none⟩ (.int .i64 (((t % k + 1) % k : Nat) : Int))) b n D k C fa code f p (t + 1) ∧ Kp b w (W.setCell ⟨b, 3, none⟩ (.int .i64 (((t % k + 1) % k : Nat) : Int))) ∧
        (∀ i v, i < 3 → w.cell? ⟨b, i, none⟩ = some v → (W.setCell ⟨b, 3, none⟩ (.int .i64 (((t % k + 1) % k : Nat) : Int))).cell? ⟨b, i, none⟩ = some v)) := by
      intro W hW eW
      have k0 : Kp b w W := ⟨hW, fun x _ _ => by rw [eW]⟩
      have k1 := k0.setCell 3 (.int .i64 (((t % k + 1) % k : Nat) : Int))
      refine ⟨h.turned k1 h.pn h.pf (fun dv cv fv e => ?_), k1, fun i v hi e => ?_⟩
      · rw [heap_setCell_same W b 3 _ _ _ (by rw [eW]; exact e)]
        have e9 : qx22 k (t + 1) = (t % k + 1) % k := by unfold qx22; rw [if_neg hk, hq2]
        rw [e9]
        rfl
      · rw [World.cell?_setCell_other _ _ _ _ (by intro e9; cases e9; omega), ← e]
        unfold World.cell?
        rw [eW]
    have e1 : tw22 l k C t = min l (C (t % k)).toNat := if_neg hk
    rw [eq] at z3
    rw [e1]
    generalize t % k = q at *
    generalize hcv : C q = cv at *
    have hk0 : ((k : Int) == 0) = false := beq_eq_false_iff_ne.2 (by omega)
    have hk0N : (k == 0) = false := beq_eq_false_iff_ne.2 hk
    have qb : ((q : Nat) : Int) < (k : Int) := by omega
    have em : max (0 : Int) (min (l : Int) cv) = ((min l cv.toNat : Nat) : Int) := by omega
    have W1 : IntKind.i64.wrap ((q : Int) + 1) = ((q + 1 : Nat) : Int) := by rw [IntKind.wrap_i64]; omega
    have W2 : ((q + 1 : Nat) : Int).tmod (k : Int) = (((q + 1) % k : Nat) : Int) := by rw [Int.tmod_eq_emod_of_nonneg (by omega)]; rfl
    obtain ⟨r, hr⟩ : ∃ r, r = min l cv.toNat := ⟨_, rfl⟩
    rw [← hr] at em
    rw [← hr]
    obtain ⟨s, hs⟩ : ∃ s, s = (q + 1) % k := ⟨_, rfl⟩
    rw [← hs] at W2 HG
    obtain ⟨q1', hq1⟩ : ∃ q1', q1' = q + 1 := ⟨_, rfl⟩
    rw [← hq1] at W1 W2
    clear h hx hB hI hF hC e1 hr hq hq2 kb hcl hl hs hcv hCq eq hxl hq1
    go_enter Tryd.func38, Tryd.ntmps38
    go_wp2
    go_quiet (fail)
    go_wp2
    refine region_tail8 14 (by kernel_rfl) (by kernel_rfl) ?_
    simp only [List.take_succ_cons, List.take_zero, List.drop_succ_cons, List.drop_zero]
    repeat still_step
    refine wpStill_nil ?_
    go_wp2
    go_ret
    refine ⟨by first | rfl | rw [em], ?_⟩
    exact HG.out ((w.drewN nq).drew) (below_drewN (below_drewN (Below.refl _ _) nq) 1) rfl
end Go.Proofs.YtfbgcednodnioaaDoor
namespace Go.Proofs.YtfbgcednodnioaaDoor
open Go.RowKit Gf2
set_option linter.unusedVariables false

-- layer 22: most, Read
set_option maxHeartbeats 2000000 in
set_option maxRecDepth 100000 in
theorem most22 {lo hi b n k f p t : Nat} {D : Nat → Nat} {C : Nat → Int} {fa code : Int} (x : Nat) (w : World) (h : So lo hi w b n D k C fa code f p t) (hl : x ≤ 140737488355328) :
    Calls Tryd.prog 37 #[.pointer (some ⟨b, 0, none⟩), .int .i64 (x : Int)] w fun e w' => e = .returned (.int .i64 ((mo22 x n p fa : Nat) : Int)) ∧ ∃ m, w' = w.drewN m := by
  obtain ⟨a, cap, c, ccap, fv, hx, hB, hI, hF⟩ := h.open_
  have z0 := hx.c0
  have z1 := hx.c1
  have z4 := hx.c4
  have z5 := hx.c5
  have W1 : IntKind.i64.wrap ((n : Int) - (p : Int)) = ((n - p : Nat) : Int) := by have := h.pn; have := h.nb; rw [IntKind.wrap_i64]; omega
  have em : min (x : Int) ((n - p : Nat) : Int) = ((min x (n - p) : Nat) : Int) := by omega
  obtain ⟨d, hd⟩ : ∃ d, d = n - p := ⟨_, rfl⟩
  obtain ⟨y, hy⟩ : ∃ y, y = min x d := ⟨_, rfl⟩
  rw [← hd] at em
  rw [← hd] at W1
  rw [← hy] at em
  rcases hF with ⟨hf, rfl⟩ | ⟨hf, rfl, hfb⟩
  · have e1 : mo22 x n p fa = y := by rw [hy, hd]; exact if_neg (by omega)
    rw [e1]
    clear h hx hB hI hl e1 hd hy
    go_enter Tryd.func37, Tryd.ntmps37
    go_wp2
    go_quiet (fail)
    go_wp2
    go_ret
    exact ⟨rfl, _, rfl⟩
  · have e1 : mo22 x n p fa = min y (fa.toNat - p) := by rw [hy, hd]; exact if_pos hf
    rw [e1]
    have W2 : IntKind.i64.wrap (fa - (p : Int)) = ((fa.toNat - p : Nat) : Int) := by have := h.pf hf; have := h.ff.2; rw [IntKind.wrap_i64]; omega
    have em2 : min (y : Int) ((fa.toNat - p : Nat) : Int) = ((min y (fa.toNat - p) : Nat) : Int) := by omega
    obtain ⟨g, hg⟩ : ∃ g, g = fa.toNat - p := ⟨_, rfl⟩
    obtain ⟨r, hr⟩ : ∃ r, r = min y g := ⟨_, rfl⟩
    rw [← hg] at em2
    rw [← hg] at W2
    rw [← hg, ← hr]
    rw [← hr] at em2
    have hnil : ∀ W : World, Sem.run Tryd.prog (binOp BinOp.neq 22 (Value.pointer (some ⟨f, 0, none⟩)) (Value.pointer none)) W = .ok (.bool true) W := fun W => by kernel_rfl
    clear h hx hB hI hl e1 hd hy hg hr hf hfb
    go_enter Tryd.func37, Tryd.ntmps37
    go_wp2
    go_quiet (fail)
    go_wp2
    go_quiet (fail)
    go_wp2
    go_ret
    exact ⟨rfl, _, World.drewN_drewN _ _ _⟩
end Go.Proofs.YtfbgcednodnioaaDoor
namespace Go.Proofs.YtfbgcednodnioaaDoor
open Go.RowKit Gf2
set_option linter.unusedVariables false

-- layer 22: a read that has its turn
theorem elem_u8_22 : Tryd.prog.elem 41 = 5 := by kernel_rfl
theorem size_u8_22 (W : World) : (sizeOf 5).run Tryd.prog W = .ok 1 W := by
  obtain ⟨i, hi, -, hs, -⟩ := info_u8a
  simp [sizeOf, typeInfo, hi, hs]
theorem run_cut22 (x : Option Addr) (n cx f t : Nat) (hft : f ≤ t) (ht : t ≤ cx) (W : World) :
    (Instr.slice 41 (.slice x n cx) (some (.int .i64 (f : Int))) (some (.int .i64 (t : Int))) none).run Tryd.prog W = .ok (.slice (if cx = f then x else x.map (·.add f)) (t - f) (cx - f)) W := by
  have hu : Tryd.prog.underlying 41 = some (.slice (Tryd.prog.elem 41)) := by rw [elem_u8_22]; exact Tryd.underlying41
  have h := run_slice_lh (P := Tryd.prog) (w := W) 41 x n cx hu .i64 .i64 (f : Int) (t : Int) (by omega) (by omega) (by omega)
  rw [h, elem_u8_22, size_u8_22]
  simp only [Result.andThen, sliced, Int.toNat_natCast, Nat.mul_one]
theorem cut_at22 {x : Option Addr} {cx f t L b o : Nat} (hft : f < t) (ht : t ≤ L) (hL : L ≤ cx) (hx : 0 < L → x = some ⟨b, o, none⟩) : (if cx = f then x else x.map (·.add f)) = some ⟨b, o + f, none⟩ := by
  rw [if_neg (by omega), hx (by omega)]
  show some ((⟨b, o, none⟩ : Addr).add f) = _
  rw [Addr.add_lit]
/-- a piece of a list. -/
theorem Bi.cut {I : Nat → Prop} {w : World} {x : Option Addr} {n cx f t : Nat} {S : Nat → Nat} (h : Bi I w (.slice x n cx) n S) (hft : f ≤ t) (ht : t ≤ n) :
    ∃ a, Bi I w (.slice a (t - f) (cx - f)) (t - f) (fun j => S (f + j)) ∧ ∀ W : World, (Instr.slice 41 (.slice x n cx) (some (.int .i64 (f : Int))) (some (.int .i64 (t : Int))) none).run Tryd.prog W = .ok (.slice a (t - f) (cx - f)) W := by
  obtain ⟨b1, b2, a, c', b3, b5, b6, b4⟩ := h
  cases b3
  refine ⟨_, ⟨by omega, fun i hi => b2 _ (by omega), _, _, rfl, by omega, by omega, fun h0 => ?_⟩, fun W => run_cut22 x n cx f t hft (by omega) W⟩
  obtain ⟨b, o, e, hI, hl, hc⟩ := b4 (by omega)
  exact ⟨b, o + f, cut_at22 (by omega) ht b5 (fun _ => e), hI, hl, fun i hi => by rw [Nat.add_assoc]; exact hc _ (by omega)⟩
/-- how many bytes a read of l gives. -/
def rd22 (l n p : Nat) (fa : Int) (k : Nat) (C : Nat → Int) (t : Nat) : Nat := mo22 (tw22 l k C t) n p fa
theorem tw22_le (l k : Nat) (C : Nat → Int) (t : Nat) : tw22 l k C t ≤ l := by unfold tw22; split <;> omega
theorem mo22_le (x n p : Nat) (fa : Int) : mo22 x n p fa ≤ x ∧ mo22 x n p fa ≤ n - p ∧ (0 ≤ fa → mo22 x n p fa ≤ fa.toNat - p) := by
  unfold mo22
  split
  · exact ⟨by omega, by omega, fun _ => by omega⟩
  · exact ⟨by omega, by omega, fun h => absurd h (by assumption)⟩
set_option maxHeartbeats 4000000 in
set_option maxRecDepth 100000 in
theorem read22_turn {lo hi b n k f p t : Nat} {D : Nat → Nat} {C : Nat → Int} {fa code : Int} (g o N l c0 : Nat) (G : Nat → Nat) (w : World) (h : So lo hi w b n D k C fa code f p t) (hC : ∀ i, i < k → I6x (C i)) (hl : 0 < l) (hp : ¬ (0 ≤ fa ∧ (p : Int) = fa)) (hn : p < n)
    (hR : Rw w g N G) (hoN : o + l ≤ N) (hlb : l ≤ 140737488355328) (hg : g < lo ∨ hi ≤ g) :
    Calls Tryd.prog 23 #[.pointer (some ⟨b, 0, none⟩), .slice (some ⟨g, o, none⟩) l c0] w fun e w' => e = .returned (.tuple #[.int .i64 ((rd22 l n p fa k C t : Nat) : Int), .nilIface]) ∧
      So lo hi w' b n D k C fa code f (p + rd22 l n p fa k C t) (t + 1) ∧ Rw w' g N (pl G o (rd22 l n p fa k C t) (fun i => D (p + i))) ∧ Ke (fun x => x = b ∨ x = g) w w' := by
  have hgb : g ≠ b := by have := h.bl; omega
  have htl := tw22_le l k C t
  have hm := mo22_le (tw22 l k C t) n p fa
  obtain ⟨m, em⟩ : ∃ m, m = rd22 l n p fa k C t := ⟨_, rfl⟩
  rw [← em]
  have em2 : mo22 (tw22 l k C t) n p fa = m := em.symm
  rw [em2] at hm
  obtain ⟨x, ex⟩ : ∃ x, x = tw22 l k C t := ⟨_, rfl⟩
  rw [← ex] at hm htl em2
  have HW : Hid (∀ W : World, Ke (fun x => x = b ∨ x = g) w W → So lo hi W b n D k C fa code f p t → Rw W g N G → ∃ a cap, W.cell? ⟨b, 0, none⟩ = some (.slice a n cap) ∧ W.cell? ⟨b, 1, none⟩ = some (.int .i64 (p : Int)) ∧
      Calls Tryd.prog 38 #[.pointer (some ⟨b, 0, none⟩), .int .i64 (l : Int)] W fun e w1 => e = .returned (.int .i64 (x : Int)) ∧ w1.cell? ⟨b, 0, none⟩ = some (.slice a n cap) ∧ w1.cell? ⟨b, 1, none⟩ = some (.int .i64 (p : Int)) ∧
        Calls Tryd.prog 37 #[.pointer (some ⟨b, 0, none⟩), .int .i64 (x : Int)] w1 fun e w2 => e = .returned (.int .i64 (m : Int)) ∧ w2.cell? ⟨b, 0, none⟩ = some (.slice a n cap) ∧ w2.cell? ⟨b, 1, none⟩ = some (.int .i64 (p : Int)) ∧
          ∃ a', (∀ W : World, (Instr.slice 41 (.slice a n cap) (some (.int .i64 (p : Int))) (some (.int .i64 ((p + m : Nat) : Int))) none).run Tryd.prog W = .ok (.slice a' m (cap - p)) W) ∧
          ∃ w3, (Builtin.copy_ #[41, 41] 3 #[.slice (some ⟨g, o, none⟩) l c0, .slice a' m (cap - p)]).run Tryd.prog w2 = .ok (goInt m) w3 ∧ w3.cell? ⟨b, 1, none⟩ = some (.int .i64 (p : Int)) ∧ w3.frozen? ⟨b, 1, none⟩ = false ∧
          So lo hi (w3.setCell ⟨b, 1, none⟩ (.int .i64 ((p + m : Nat) : Int))) b n D k C fa code f (p + m) (t + 1) ∧ Rw (w3.setCell ⟨b, 1, none⟩ (.int .i64 ((p + m : Nat) : Int))) g N (pl G o m (fun i => D (p + i))) ∧ Ke (fun x => x = b ∨ x = g) w (w3.setCell ⟨b, 1, none⟩ (.int .i64 ((p + m : Nat) : Int)))) := by
    intro W kW hS hr
    obtain ⟨a, cap, c, ccap, fv, hx, hB, hI, hF⟩ := hS.open_
    refine ⟨a, cap, hx.c0, hx.c1, (turn22 l W hS hlb hC).mono fun e w1 ⟨e1, s1, k1, u1⟩ => ⟨by rw [e1, ex], u1 0 _ (by omega) hx.c0, u1 1 _ (by omega) hx.c1, (most22 x w1 s1 (by omega)).mono fun e w2 ⟨e2, mm, hw2⟩ => ?_⟩⟩
    have s2 : So lo hi w2 b n D k C fa code f p (t + 1) := by rw [hw2]; exact s1.drewN mm
    have k2 : Kp b W w2 := by rw [hw2]; exact k1.drewN mm
    have r2 : Rw w2 g N G := k2.rw_ hr hgb
    obtain ⟨a2, cap2, c2, ccap2, fv2, hx2, hB2, hI2, hF2⟩ := s2.open_
    have ea : w2.cell? ⟨b, 0, none⟩ = some (.slice a n cap) := by rw [hw2]; exact u1 0 _ (by omega) hx.c0
    have ep : w2.cell? ⟨b, 1, none⟩ = some (.int .i64 (p : Int)) := by rw [hw2]; exact u1 1 _ (by omega) hx.c1
    have eq2 := hx2.c0.symm.trans ea
    cases eq2
    obtain ⟨a', hB3, hcut⟩ := hB2.cut (f := p) (t := p + m) (Nat.le_add_right _ _) (by have := hm.2.1; omega)
    rw [Nat.add_sub_cancel_left] at hB3 hcut
    refine ⟨by rw [e2, em2], ea, ep, a', hcut, ?_⟩
    obtain ⟨q1, q2, a'', c'', q3, q4, q5, q6⟩ := hB3
    cases q3
    obtain ⟨w3, hrun, r3, o3⟩ := copy8_min w2 r2 (o := o) (dl := l) (cap := c0) (a := a') (m := m) (n := m) (cap' := cap - p) (S := fun i => D (p + i)) q2 (fun h0 => by
      obtain ⟨y, z, e, -, -, hc⟩ := q6 h0
      exact ⟨y, z, e, hc⟩) hoN (Nat.le_trans hm.1 htl) (Nat.le_refl _) (Nat.min_eq_left (Nat.le_trans hm.1 htl))
    clear q1 q2 q4 q5 q6
    have s3 : So lo hi w3 b n D k C fa code f p (t + 1) := s2.keep o3.kp.ke (fun y h1 h2 e => by rw [e] at h1 h2; omega)
    obtain ⟨_, _, _, _, _, hx3, _⟩ := s3.open_
    refine ⟨w3, hrun, hx3.c1, hx3.fz 1, s3.turned ((Kp.refl b w3).setCell 1 _) (by omega) (fun h0 => by have := hm.2.2 h0; have := h.pf h0; omega) (fun dv cv fv e => ?_), (((Kp.refl b w3).setCell 1 _).rw_ r3 hgb), ?_⟩
    · rw [heap_setCell_same w3 b 1 _ _ _ e]
      rfl
    · exact kW.trans ((k2.ke.mono (fun y _ e => .inl e)).trans ((o3.kp.ke.mono (fun y _ e => .inr e)).trans (((Kp.refl b w3).setCell 1 _).ke.mono (fun y _ e => .inl e))))
  obtain ⟨a, cap, c, ccap, fv, hx, hB, hI, hF⟩ := h.open_
  have z0 := hx.c0
  have z1 := hx.c1
  have z4 := hx.c4
  have z5 := hx.c5
  have hl0 : ((l : Int) == 0) = false := beq_eq_false_iff_ne.2 (by omega)
  have hl0N : ¬ l = 0 := by omega
  have hnp : ((p : Int) == (n : Int)) = false := beq_eq_false_iff_ne.2 (by omega)
  have hnpN : ¬ p = n := by omega
  have HQ : Hid (So lo hi w b n D k C fa code f p t ∧ Rw w g N G) := ⟨h, hR⟩
  have HWr : Hid (IntKind.i64.wrap ((p : Int) + (m : Int)) = ((p + m : Nat) : Int) ∧ wrap64 ((p : Int) + (m : Int)) = ((p + m : Nat) : Int)) := by
    have := h.nb
    refine ⟨?_, ?_⟩
    · rw [IntKind.wrap_i64]; omega
    · unfold wrap64; omega
  rcases hF with ⟨hf, rfl⟩ | ⟨hf, rfl, hfb⟩
  · clear h hx hB hI hp hl hf hR hC hn hoN hlb hg hgb htl hm em em2 ex
    go_enter Tryd.func23, Tryd.ntmps23
    go_wp2
    go_quiet (fail)
    revert nq
    intro j1
    go_wp2
    go_quiet (fail)
    go_wp2
    rw [World.drewN_drewN]
    obtain ⟨wz, hwz⟩ : ∃ wz, wz = w.drewN (j1 + nq) := ⟨_, rfl⟩
    rw [← hwz]
    have kz : Ke (fun x => x = b ∨ x = g) w wz.drew := by rw [hwz]; exact ((Ke.refl _ w).drewN _).drewN 1
    obtain ⟨a1, cap1, y0, y1, c1⟩ := HW.out wz.drew kz (by rw [hwz]; exact (HQ.out.1.drewN _).drewN 1) (by rw [hwz]; exact (HQ.out.2.drewN _).drewN 1)
    clear z0 z1 z4 z5 hwz kz HW HQ
    refine region_planJ (fun w' => w'.cell? ⟨b, 0, none⟩ = some (.slice a1 n cap1) ∧ w'.cell? ⟨b, 1, none⟩ = some (.int .i64 (p : Int))) 21 [16, 0, 0, 2] 80 ⟨y0, y1⟩ (by kernel_rfl) (by kernel_rfl) (fun _ a d v _ h => by cases d <;> exact h) ?_
    refine planT_step ?A1 rfl (fun w' hS => ?s1) rfl (fun K hK => ?n1)
    case s1 =>
      obtain ⟨y0, y1⟩ := hS
      simp only [List.take_succ_cons, List.take_zero]
      repeat still_step
      exact rfl
    case n1 =>
    go_simp
    refine hK _ _ ⟨y0, y1⟩ ?_
    clear hK K
    refine planT_step ?A2 rfl (fun w' hS => ?s2) rfl (fun K hK => ?n2)
    case s2 =>
      simp only [List.take_zero]
      exact rfl
    case n2 =>
    go_simp
    go_wp2_with (go_at_call 38; (with_reducible refine c1.mono ?_); rintro e w1 ⟨rfl, y0', y1', c2⟩; clear c1 y0 y1)
    refine hK _ _ ⟨y0', y1'⟩ ?_
    clear hK K
    refine planT_step ?A3 rfl (fun w' hS => ?s3) rfl (fun K hK => ?n3)
    case s3 =>
      simp only [List.take_zero]
      exact rfl
    case n3 =>
    go_simp
    go_wp2_with (go_at_call 37; (with_reducible refine c2.mono ?_); rintro e w2 ⟨rfl, y0, y1, a', hcut, w3, hrun, v1, v2, hG⟩; have HG : Hid _ := hG; clear c2 hG y0' y1')
    refine hK _ _ ⟨y0, y1⟩ ?_
    clear hK K
    obtain ⟨u, hu⟩ : ∃ u, Hid (p + m = u) := ⟨_, rfl⟩
    rw [hu.out] at hcut HG
    have W1 := HWr.out.1
    rw [hu.out] at W1
    refine planT_last ?A4 rfl (fun w' hS => ?s4) rfl ?n4
    case s4 =>
      obtain ⟨y0, y1⟩ := hS
      simp only [List.take_succ_cons, List.take_zero]
      repeat still_step
      exact rfl
    case n4 =>
    simp only [List.drop_succ_cons, List.drop_zero]
    clear W1 y0 y1
    have W2 := HWr.out.2
    rw [hu.out] at W2
    go_wp2
    go_ret2
    rw [hu.out]
    exact ⟨rfl, HG.out⟩
  · have hpf : ((p : Int) == fa) = false := beq_eq_false_iff_ne.2 (fun e => hp ⟨hf, e⟩)
    have hnil : ∀ W : World, Sem.run Tryd.prog (binOp BinOp.neq 22 (Value.pointer (some ⟨f, 0, none⟩)) (Value.pointer none)) W = .ok (.bool true) W := fun W => by kernel_rfl
    clear h hx hB hI hp hl hf hfb hR hC hn hoN hlb hg hgb htl hm em em2 ex
    go_enter Tryd.func23, Tryd.ntmps23
    go_wp2
    go_quiet (fail)
    revert nq
    intro j1
    go_wp2
    go_quiet (fail)
    go_wp2
    rw [World.drewN_drewN]
    obtain ⟨wz, hwz⟩ : ∃ wz, wz = w.drewN (j1 + nq) := ⟨_, rfl⟩
    rw [← hwz]
    have kz : Ke (fun x => x = b ∨ x = g) w wz.drew := by rw [hwz]; exact ((Ke.refl _ w).drewN _).drewN 1
    obtain ⟨a1, cap1, y0, y1, c1⟩ := HW.out wz.drew kz (by rw [hwz]; exact (HQ.out.1.drewN _).drewN 1) (by rw [hwz]; exact (HQ.out.2.drewN _).drewN 1)
    clear z0 z1 z4 z5 hnil hpf hwz kz HW HQ
    refine region_planJ (fun w' => w'.cell? ⟨b, 0, none⟩ = some (.slice a1 n cap1) ∧ w'.cell? ⟨b, 1, none⟩ = some (.int .i64 (p : Int))) 21 [16, 0, 0, 2] 80 ⟨y0, y1⟩ (by kernel_rfl) (by kernel_rfl) (fun _ a d v _ h => by cases d <;> exact h) ?_
    refine planT_step ?BA1 rfl (fun w' hS => ?Bs1) rfl (fun K hK => ?Bn1)
    case Bs1 =>
      obtain ⟨y0, y1⟩ := hS
      simp only [List.take_succ_cons, List.take_zero]
      repeat still_step
      exact rfl
    case Bn1 =>
    go_simp
    refine hK _ _ ⟨y0, y1⟩ ?_
    clear hK K
    refine planT_step ?BA2 rfl (fun w' hS => ?Bs2) rfl (fun K hK => ?Bn2)
    case Bs2 =>
      simp only [List.take_zero]
      exact rfl
    case Bn2 =>
    go_simp
    go_wp2_with (go_at_call 38; (with_reducible refine c1.mono ?_); rintro e w1 ⟨rfl, y0', y1', c2⟩; clear c1 y0 y1)
    refine hK _ _ ⟨y0', y1'⟩ ?_
    clear hK K
    refine planT_step ?BA3 rfl (fun w' hS => ?Bs3) rfl (fun K hK => ?Bn3)
    case Bs3 =>
      simp only [List.take_zero]
      exact rfl
    case Bn3 =>
    go_simp
    go_wp2_with (go_at_call 37; (with_reducible refine c2.mono ?_); rintro e w2 ⟨rfl, y0, y1, a', hcut, w3, hrun, v1, v2, hG⟩; have HG : Hid _ := hG; clear c2 hG y0' y1')
    refine hK _ _ ⟨y0, y1⟩ ?_
    clear hK K
    obtain ⟨u, hu⟩ : ∃ u, Hid (p + m = u) := ⟨_, rfl⟩
    rw [hu.out] at hcut HG
    have W1 := HWr.out.1
    rw [hu.out] at W1
    refine planT_last ?BA4 rfl (fun w' hS => ?Bs4) rfl ?Bn4
    case Bs4 =>
      obtain ⟨y0, y1⟩ := hS
      simp only [List.take_succ_cons, List.take_zero]
      repeat still_step
      exact rfl
    case Bn4 =>
    simp only [List.drop_succ_cons, List.drop_zero]
    clear W1 y0 y1
    have W2 := HWr.out.2
    rw [hu.out] at W2
    go_wp2
    go_ret2
    rw [hu.out]
    exact ⟨rfl, HG.out⟩
end Go.Proofs.YtfbgcednodnioaaDoor
namespace Go.Proofs.YtfbgcednodnioaaDoor
open Go.RowKit Gf2
set_option linter.unusedVariables false

-- layer 22: NewSource (laid by wip/genzpg.py)
theorem fv_one {w : World} {fa code : Int} {v : Value} {f : Nat} (h : Fv w fa code v f) : ∃ q, v = .pointer q := by
  rcases h with ⟨-, h⟩ | ⟨-, h, -⟩
  · exact ⟨_, h⟩
  · exact ⟨_, h⟩
theorem cell_lt22 {w : World} {a : Addr} {v : Value} (h : w.cell? a = some v) : a.block < w.heap.size := by
  rcases Nat.lt_or_ge a.block w.heap.size with h1 | h1
  · exact h1
  · simp [World.cell?, Array.getElem?_eq_none h1] at h
theorem cell_new22 {w : World} {a : Addr} {v : Value} {o : Obj} (h : w.cell? a = some v) : (w.alloc o).cell? a = some v :=
  (((Below.refl w.heap.size w).alloc (Nat.le_refl _) o).cell (cell_lt22 h)).trans h
theorem cell_bel22 {w w' : World} {a : Addr} {v : Value} (h : w.cell? a = some v) (hb : Below w.heap.size w w') : w'.cell? a = some v := (hb.cell (cell_lt22 h)).trans h
theorem Fv.below {w w' : World} {fa code : Int} {v : Value} {f : Nat} (h : Fv w fa code v f) (hb : Below w.heap.size w w') : Fv w' fa code v f := h.ke (ke_below hb (fun _ => False)) (fun _ e => e)
set_option maxHeartbeats 4000000 in
set_option maxRecDepth 100000 in
theorem newsource22 (v c : Value) (n k : Nat) (D : Nat → Nat) (C : Nat → Int) (fa code : Int) (w : World) (hv : Rb w v n D) (hc : Qi w c k C) (hn : n ≤ 140737488355328) (hk : k * 8 ≤ 140737488355328) (hf : I6x fa) :
    Calls Tryd.prog 9 #[v, .agg #[c, .int .i64 fa, .int .i64 code]] w fun e w' => ∃ b f, e = .returned (.pointer (some ⟨b, 0, none⟩)) ∧ So w.heap.size w'.heap.size w' b n D k C fa code f 0 0 ∧ Below w.heap.size w w' := by
  obtain ⟨ac, cc, rfl⟩ : ∃ ac cc, c = .slice ac k cc := by obtain ⟨-, -, a, cap, e, -⟩ := hc; exact ⟨a, cap, e⟩
  have bW : Below w.heap.size w (w.alloc (.cells #[.slice ac k cc, .int .i64 fa, .int .i64 code] 29)) := (Below.refl _ _).alloc (Nat.le_refl _) _
  have hblk : (w.alloc (.cells #[.slice ac k cc, .int .i64 fa, .int .i64 code] 29)).heap[w.heap.size]? = some (.cells #[.slice ac k cc, .int .i64 fa, .int .i64 code] 29 (0, 0)) := heap_alloc_new _ _
  obtain ⟨W, hW⟩ : ∃ W, Hid (w.alloc (.cells #[.slice ac k cc, .int .i64 fa, .int .i64 code] 29) = W) := ⟨_, rfl⟩
  rw [hW.out] at bW hblk
  have hsz : w.heap.size < W.heap.size := (Array.getElem?_eq_some_iff.1 hblk).1
  have Y0 : W.drew.cell? ⟨w.heap.size, 0, none⟩ = some (.slice ac k cc) := by show W.cell? _ = _; rw [cell_of_row _ _ 0 _ _ _ hblk]; rfl
  have Y1 : W.drew.cell? ⟨w.heap.size, 1, none⟩ = some (.int .i64 fa) := by show W.cell? _ = _; rw [cell_of_row _ _ 1 _ _ _ hblk]; rfl
  have Y2 : W.drew.cell? ⟨w.heap.size, 2, none⟩ = some (.int .i64 code) := by show W.cell? _ = _; rw [cell_of_row _ _ 2 _ _ _ hblk]; rfl
  have bD : Below w.heap.size w W.drew := bW.drew
  have c1 := clone8_22 v n D W.drew (hv.below bD) (by omega)
  have H2 : Hid (∀ u w1, Nb W.drew.heap.size w1 u n D → Below W.drew.heap.size W.drew w1 → w1.cell? ⟨w.heap.size, 0, none⟩ = some (.slice ac k cc) ∧ w1.cell? ⟨w.heap.size, 1, none⟩ = some (.int .i64 fa) ∧ w1.cell? ⟨w.heap.size, 2, none⟩ = some (.int .i64 code) ∧
      Calls Tryd.prog 29 #[.slice ac k cc] w1 fun e w' => ∃ u, e = .returned u ∧ Ni w1.heap.size w' u k C ∧ Below w1.heap.size w1 w') := fun u w1 _ hb =>
    ⟨cell_bel22 Y0 hb, cell_bel22 Y1 hb, cell_bel22 Y2 hb, clonei_22 _ k C w1 ((hc.below bD).below hb) hk⟩
  have H3 : Hid (∀ u u2 w1 w2, Nb W.drew.heap.size w1 u n D → Below W.drew.heap.size W.drew w1 → Ni w1.heap.size w2 u2 k C → Below w1.heap.size w1 w2 → w2.cell? ⟨w.heap.size, 0, none⟩ = some (.slice ac k cc) ∧ w2.cell? ⟨w.heap.size, 1, none⟩ = some (.int .i64 fa) ∧ w2.cell? ⟨w.heap.size, 2, none⟩ = some (.int .i64 code) ∧
      Calls Tryd.prog 30 #[.int .i64 fa, .int .i64 code] w2 fun e w' => ∃ v, e = .returned v ∧ Fv w' fa code v w2.heap.size ∧ Below w2.heap.size w2 w') := fun u u2 w1 w2 _ hb _ hb2 =>
    ⟨cell_bel22 (cell_bel22 Y0 hb) hb2, cell_bel22 (cell_bel22 Y1 hb) hb2, cell_bel22 (cell_bel22 Y2 hb) hb2, failureOf22 fa code w2⟩
  have H4 : Hid (∀ u u2 q w1 w2 w3, Nb W.drew.heap.size w1 u n D → Below W.drew.heap.size W.drew w1 → Ni w1.heap.size w2 u2 k C → Below w1.heap.size w1 w2 → Fv w3 fa code q w2.heap.size → Below w2.heap.size w2 w3 → w3.cell? ⟨w.heap.size, 0, none⟩ = some (.slice ac k cc) ∧ w3.cell? ⟨w.heap.size, 1, none⟩ = some (.int .i64 fa) ∧ w3.cell? ⟨w.heap.size, 2, none⟩ = some (.int .i64 code) ∧
      So w.heap.size (w3.alloc (.cells #[u, .int .i64 0, u2, .int .i64 0, .int .i64 fa, q] 81)).heap.size (w3.alloc (.cells #[u, .int .i64 0, u2, .int .i64 0, .int .i64 fa, q] 81)) w3.heap.size n D k C fa code w2.heap.size 0 0 ∧ Below w.heap.size w (w3.alloc (.cells #[u, .int .i64 0, u2, .int .i64 0, .int .i64 fa, q] 81))) := by
    intro u u2 q w1 w2 w3 hN hb hM hb2 hF hb3
    refine ⟨cell_bel22 (cell_bel22 (cell_bel22 Y0 hb) hb2) hb3, cell_bel22 (cell_bel22 (cell_bel22 Y1 hb) hb2) hb3, cell_bel22 (cell_bel22 (cell_bel22 Y2 hb) hb2) hb3, ?_⟩
    have b4 : Below w3.heap.size w3 (w3.alloc (.cells #[u, .int .i64 0, u2, .int .i64 0, .int .i64 fa, q] 81)) := (Below.refl _ _).alloc (Nat.le_refl _) _
    have s0 : W.drew.heap.size = W.heap.size := rfl
    have s1 := hb.size
    have s2 := hb2.size
    have s3 := hb3.size
    have s4 : (w3.alloc (.cells #[u, .int .i64 0, u2, .int .i64 0, .int .i64 fa, q] 81)).heap.size = w3.heap.size + 1 := by simp
    have hfl : 0 ≤ fa → w2.heap.size < w3.heap.size := fun h0 => by
      rcases hF with ⟨h1, -⟩ | ⟨-, -, h1⟩
      · omega
      · exact (Array.getElem?_eq_some_iff.1 h1).1
    refine ⟨⟨⟨by omega, by omega⟩, Nat.le_refl _, ⟨u, u2, q, by have e0 : qx22 k 0 = 0 := (by unfold qx22; split <;> simp); rw [e0]; exact heap_alloc_new _ _, ?_, ?_, hF.below b4⟩, fun h0 => ⟨by omega, by have := hfl h0; omega, by have := hfl h0; omega⟩, Nat.zero_le _, fun h => h, hn, by omega, hf⟩, ?_⟩
    · exact (((hN.below hb2).below hb3).bi (I := Iv w.heap.size (w3.alloc (.cells #[u, .int .i64 0, u2, .int .i64 0, .int .i64 fa, q] 81)).heap.size w3.heap.size) (fun x h1 h2 => ⟨by omega, by omega, by omega⟩)).ke (ke_below b4 (fun _ => False)) (fun _ _ e => e)
    · exact ((hM.below hb3).ii (I := Iv w.heap.size (w3.alloc (.cells #[u, .int .i64 0, u2, .int .i64 0, .int .i64 fa, q] 81)).heap.size w3.heap.size) (fun x h1 h2 => ⟨by omega, by omega, by omega⟩)).ke (ke_below b4 (fun _ => False)) (fun _ _ e => e)
    · exact bD.trans ((hb.mono (by omega)).trans ((hb2.mono (by omega)).trans ((hb3.mono (by omega)).trans (b4.mono (by omega)))))
  clear hv hc hn hk hf bW hblk hsz bD
  go_enter Tryd.func9, Tryd.ntmps9
  go_wp2
  rw [hW.out]
  clear hW
  refine region_planI (fun w' => w'.cell? ⟨w.heap.size, 0, none⟩ = some (.slice ac k cc) ∧ w'.cell? ⟨w.heap.size, 1, none⟩ = some (.int .i64 fa) ∧ w'.cell? ⟨w.heap.size, 2, none⟩ = some (.int .i64 code)) [0, 2, 3, 5, 6, 7, 8, 9, 10, 1, 4, 11, 12, 13, 14] [9, 0, 0, 1, 1] 19 ⟨Y0, Y1, Y2⟩ (by kernel_rfl) (by kernel_rfl) (fun _ a d v _ h => by cases d <;> exact h) ?_
  simp only [atI, List.getElem?_cons_zero, List.getElem?_cons_succ]
  refine planH_step ?AR0 rfl (fun w' hS => ?sR0) rfl (fun K hK => ?nR0)
  case sR0 =>
    obtain ⟨y0, y1, y2⟩ := hS
    simp only [List.take_succ_cons, List.take_zero]
    repeat still_step
    exact rfl
  case nR0 =>
  go_simp
  go_wp2_with (go_at_call 28; (with_reducible refine c1.mono ?_); rintro e w1 ⟨u, rfl, hN, hb1⟩; obtain ⟨ad, cd, rfl⟩ : ∃ a c, u = .slice a n c := (by obtain ⟨-, -, a, c, e, -⟩ := hN; exact ⟨a, c, e⟩); obtain ⟨y0, y1, y2, c2⟩ := H2.out _ w1 hN hb1; clear c1 H2)
  refine hK _ _ ⟨y0, y1, y2⟩ ?_
  clear hK K
  refine planH_step ?AR1 rfl (fun w' hS => ?sR1) rfl (fun K hK => ?nR1)
  case sR1 =>
    obtain ⟨y0, y1, y2⟩ := hS
    simp only [List.take_zero]
    exact rfl
  case nR1 =>
  go_simp
  go_wp2_with (go_at_call 29; (with_reducible refine c2.mono ?_); rintro e w2 ⟨u, rfl, hM, hb2⟩; obtain ⟨ai, ci, rfl⟩ : ∃ a c, u = .slice a k c := (by obtain ⟨-, a, c, e, -⟩ := hM; exact ⟨a, c, e⟩); obtain ⟨y0, y1, y2, c3⟩ := H3.out _ _ w1 w2 hN hb1 hM hb2; clear c2 H3)
  refine hK _ _ ⟨y0, y1, y2⟩ ?_
  clear hK K
  refine planH_step ?AR2 rfl (fun w' hS => ?sR2) rfl (fun K hK => ?nR2)
  case sR2 =>
    obtain ⟨y0, y1, y2⟩ := hS
    simp only [List.take_zero]
    exact rfl
  case nR2 =>
  go_simp
  go_wp2_with (go_at_call 30; (with_reducible refine c3.mono ?_); rintro e w3 ⟨u, rfl, hF, hb3⟩; obtain ⟨q, rfl⟩ := fv_one hF; obtain ⟨y0, y1, y2, hS4⟩ := H4.out _ _ _ w1 w2 w3 hN hb1 hM hb2 hF hb3; have HG : Hid _ := hS4; clear c3 hS4)
  refine hK _ _ ⟨y0, y1, y2⟩ ?_
  clear hK K
  refine planH_step ?AR3 rfl (fun w' hS => ?sR3) rfl (fun K hK => ?nR3)
  case sR3 =>
    obtain ⟨y0, y1, y2⟩ := hS
    simp only [List.take_succ_cons, List.take_zero]
    repeat still_step
    exact rfl
  case nR3 =>
  have HY : Hid ((w3.alloc (.cells #[.slice ad n cd, .int .i64 0, .slice ai k ci, .int .i64 0, .int .i64 fa, .pointer q] 81)).cell? ⟨w.heap.size, 0, none⟩ = some (.slice ac k cc) ∧ (w3.alloc (.cells #[.slice ad n cd, .int .i64 0, .slice ai k ci, .int .i64 0, .int .i64 fa, .pointer q] 81)).cell? ⟨w.heap.size, 1, none⟩ = some (.int .i64 fa) ∧ (w3.alloc (.cells #[.slice ad n cd, .int .i64 0, .slice ai k ci, .int .i64 0, .int .i64 fa, .pointer q] 81)).cell? ⟨w.heap.size, 2, none⟩ = some (.int .i64 code)) := ⟨cell_new22 y0, cell_new22 y1, cell_new22 y2⟩
  clear y0 y1 y2
  go_simp
  have y0 := HY.out.1
  have y1 := HY.out.2.1
  have y2 := HY.out.2.2
  refine hK _ _ ⟨y0, y1, y2⟩ ?_
  clear hK K
  refine planH_last ?AR4 rfl (fun w' hS => ?sR4) rfl ?nR4
  case sR4 =>
    obtain ⟨y0, y1, y2⟩ := hS
    simp only [List.take_succ_cons, List.take_zero]
    repeat still_step
    exact rfl
  case nR4 =>
  go_wp2
  go_ret
  exact ⟨_, _, rfl, HG.out⟩
end Go.Proofs.YtfbgcednodnioaaDoor
namespace Go.Proofs.YtfbgcednodnioaaDoor
open Go.RowKit Gf2
set_option linter.unusedVariables false

-- layer 22: a sink in memory
/-- a list that grows, nil while it is empty or in block g. -/
def Tk (w : World) (v : Value) (g L : Nat) (T : Nat → Nat) : Prop := (L = 0 ∧ v = .slice none 0 0) ∨ ∃ C F, v = .slice (some ⟨g, 0, none⟩) L C ∧ L ≤ C ∧ Rw w g C F ∧ ∀ i, i < L → F i = T i
theorem Tk.rb {w : World} {v : Value} {g L : Nat} {T : Nat → Nat} (h : Tk w v g L T) : Rb w v L T := by
  rcases h with ⟨rfl, rfl⟩ | ⟨C, F, rfl, a2, a4, a5⟩
  · exact ⟨Nat.zero_le _, fun i hi => absurd hi (Nat.not_lt_zero _), _, _, rfl, Nat.le_refl _, Nat.zero_le _, fun h => absurd h (Nat.lt_irrefl _)⟩
  · exact (a4.rb (o := 0) (n := L) (cap := C) (by omega) a2 a4.1).congr (fun i hi => by rw [Nat.zero_add]; exact a5 i hi)
theorem Tk.ke {E : Nat → Prop} {w w' : World} {v : Value} {g L : Nat} {T : Nat → Nat} (h : Tk w v g L T) (hk : Ke E w w') (hE : ¬ E g) : Tk w' v g L T := by
  rcases h with h | ⟨C, F, a1, a2, a4, a5⟩
  · exact .inl h
  · exact .inr ⟨C, F, a1, a2, hk.rw_ a4 hE, a5⟩
theorem Tk.form {w : World} {v : Value} {g L : Nat} {T : Nat → Nat} (h : Tk w v g L T) : ∃ a c, v = .slice a L c := by
  rcases h with ⟨rfl, rfl⟩ | ⟨C, F, rfl, -⟩
  · exact ⟨_, _, rfl⟩
  · exact ⟨_, _, rfl⟩
/-- L bytes T, then n bytes S. -/
def aft (T : Nat → Nat) (L : Nat) (S : Nat → Nat) (i : Nat) : Nat := if i < L then T i else S (i - L)
/-- n bytes more. -/
theorem Tk.app {w : World} {v : Value} {g L : Nat} {T : Nat → Nat} (h : Tk w v g L T) {x : Option Addr} {n cx : Nat} {S : Nat → Nat} (hx : Rb w (.slice x n cx) n S) (hn : L + n ≤ 225000000000000) :
    ∃ w' v' g', (Builtin.append_ #[41, 41] 41 #[v, .slice x n cx]).run Tryd.prog w = .ok v' w' ∧ Tk w' v' g' (L + n) (aft T L S) ∧ (v' = .slice none 0 0 ∨ (v ≠ .slice none 0 0 ∧ g' = g) ∨ g' = w.heap.size ∧ w.heap.size < w'.heap.size) ∧ Ke (fun y => v ≠ .slice none 0 0 ∧ y = g) w w' ∧ (∃ a c, v' = .slice a (L + n) c) := by
  obtain ⟨h1, h2, a, c, e, h4, h5, h6⟩ := hx
  cases e
  rcases h with ⟨rfl, rfl⟩ | ⟨C, F, rfl, a2, a4, a5⟩
  · rcases Nat.eq_zero_or_pos n with h0 | h0
    · subst h0
      obtain ⟨ti, hi, hz, hs1, hb1⟩ := info_u8a
      refine ⟨w, _, g, ?_, .inl ⟨rfl, rfl⟩, .inl rfl, Ke.refl _ _, ⟨_, _, rfl⟩⟩
      cases x with
      | none => exact run_append_nothing w 41 41 41 5 ti Tryd.underlying41 hi none 0 0 (Nat.le_refl _) _ (Src.ofNil w Tryd.underlying41 cx)
      | some y => exact run_append_nothing w 41 41 41 5 ti Tryd.underlying41 hi none 0 0 (Nat.le_refl _) _ (Src.ofSlice w Tryd.underlying41 y 0 cx [] (by simp) (fun j u h => by simp at h) (fun u h => by cases h))
    · obtain ⟨b, o, e, -, hc⟩ := h6 h0
      obtain ⟨w', C', F', k1, k2, k3, k4, k5, k6⟩ := app8w_nil w (cx := cx) h2 h0 ⟨b, o, e, hc⟩ (by omega)
      refine ⟨w', _, w.heap.size, k1, ?_, .inr (.inr ⟨rfl, by omega⟩), ke_below k6 _, ⟨_, _, by rw [Nat.zero_add]⟩⟩
      rw [Nat.zero_add]
      exact .inr ⟨C', F', rfl, k2, k3, fun i hi => by rw [k4 i hi]; unfold aft; rw [if_neg (Nat.not_lt_zero _), Nat.sub_zero]⟩
  · obtain ⟨w', g', C', F', k1, k2, k3, k4, k5, k6⟩ := app8w w a4 a2 (cx := cx) h2 (fun h0 => by obtain ⟨b, o, e, -, hc⟩ := h6 h0; exact ⟨b, o, e, hc⟩) hn
    refine ⟨w', _, g', k1, .inr ⟨C', F', rfl, k2, k3, fun i hi => ?_⟩, ?_, ?_, ⟨_, _, rfl⟩⟩
    · unfold aft
      by_cases e : i < L
      · rw [if_pos e, k4 i e, a5 i e]
      · rw [if_neg e, ← k5 (i - L) (by omega), show L + (i - L) = i by omega]
    · rcases k6 with ⟨e, -⟩ | ⟨e, e2, -⟩
      · exact .inr (.inl ⟨fun e2 => (by cases e2), e⟩)
      · exact .inr (.inr ⟨e, by omega⟩)
    · rcases k6 with ⟨-, ho⟩ | ⟨-, -, hb⟩
      · exact ho.kp.ke.mono (fun y _ e => ⟨fun e2 => (by cases e2), e⟩)
      · exact ke_below hb _
/-- a sink in the blocks that Fp names: it has taken L bytes T. -/
structure Sk (Fp : Nat → Prop) (w : World) (b L : Nat) (T : Nat → Nat) (fa code : Int) (f : Nat) : Prop where
  bl : Fp b
  fl : ∀ x, Fp x → x < w.heap.size
  dat : ∃ v fv g, w.heap[b]? = some (.cells #[v, .int .i64 fa, fv] 83 (0, 0)) ∧ Tk w v g L T ∧ (v = .slice none 0 0 ∨ Fp g ∧ g ≠ b ∧ (0 ≤ fa → f ≠ g)) ∧ Fv w fa code fv f
  fb : 0 ≤ fa → Fp f ∧ f ≠ b
  lf : 0 ≤ fa → (L : Int) ≤ fa
  ff : I6x fa
section
variable {Fp E : Nat → Prop} {w w' : World} {b L f : Nat} {T : Nat → Nat} {fa code : Int}
theorem Tk.ke' {v : Value} {g : Nat} (h : Tk w v g L T) (hk : Ke E w w') (hE : v = .slice none 0 0 ∨ ¬ E g) : Tk w' v g L T := by
  rcases h with h | ⟨C, F, a1, a2, a4, a5⟩
  · exact .inl h
  · rcases hE with hE | hE
    · rw [a1] at hE; cases hE
    · exact .inr ⟨C, F, a1, a2, hk.rw_ a4 hE, a5⟩
theorem Sk.keep (h : Sk Fp w b L T fa code f) (hk : Ke E w w') (hE : ∀ x, Fp x → ¬ E x) : Sk Fp w' b L T fa code f := by
  obtain ⟨v, fv, g, h1, h2, h3, h4⟩ := h.dat
  exact ⟨h.bl, fun x hx => Nat.lt_of_lt_of_le (h.fl x hx) hk.size, ⟨v, fv, g, (hk.2 b (h.fl b h.bl) (hE b h.bl)).trans h1, h2.ke' hk (h3.imp id (fun e => hE g e.1)), h3, h4.ke hk (fun h0 => hE f (h.fb h0).1)⟩, h.fb, h.lf, h.ff⟩
theorem Sk.below (h : Sk Fp w b L T fa code f) (hb : Below w.heap.size w w') : Sk Fp w' b L T fa code f := h.keep (ke_below hb (fun _ => False)) (fun _ _ e => e)
theorem Sk.drewN (h : Sk Fp w b L T fa code f) (m : Nat) : Sk Fp (w.drewN m) b L T fa code f := h.keep ((Ke.refl (fun _ => False) w).drewN m) (fun _ _ e => e)
theorem Sk.congr {U : Nat → Nat} (h : Sk Fp w b L T fa code f) (e : ∀ i, i < L → T i = U i) : Sk Fp w b L U fa code f := by
  obtain ⟨v, fv, g, h1, h2, h3, h4⟩ := h.dat
  refine ⟨h.bl, h.fl, ⟨v, fv, g, h1, ?_, h3, h4⟩, h.fb, h.lf, h.ff⟩
  rcases h2 with h2 | ⟨C, F, a1, a2, a4, a5⟩
  · exact .inl h2
  · exact .inr ⟨C, F, a1, a2, a4, fun i hi => (a5 i hi).trans (e i hi)⟩
/-- what stands in a sink's block. -/
structure Sy (w : World) (b L : Nat) (fa : Int) (a : Option Addr) (c : Nat) (fv : Value) : Prop where
  blk : w.heap[b]? = some (.cells #[.slice a L c, .int .i64 fa, fv] 83 (0, 0))
variable {a : Option Addr} {c : Nat} {fv : Value}
theorem Sy.c0 (h : Sy w b L fa a c fv) : w.cell? ⟨b, 0, none⟩ = some (.slice a L c) := by rw [cell_of_row _ _ 0 _ _ _ h.blk]; rfl
theorem Sy.c1 (h : Sy w b L fa a c fv) : w.cell? ⟨b, 1, none⟩ = some (.int .i64 fa) := by rw [cell_of_row _ _ 1 _ _ _ h.blk]; rfl
theorem Sy.c2 (h : Sy w b L fa a c fv) : w.cell? ⟨b, 2, none⟩ = some fv := by rw [cell_of_row _ _ 2 _ _ _ h.blk]; rfl
theorem Sy.fz (h : Sy w b L fa a c fv) (i : Nat) : w.frozen? ⟨b, i, none⟩ = false := frozen_of_row _ _ i _ _ h.blk
/-- what a sink is, opened; and what an append of n bytes makes of it. -/
theorem Sk.open_ (h : Sk Fp w b L T fa code f) : ∃ a c fv, Sy w b L fa a c fv ∧ Fv w fa code fv f ∧ Rb w (.slice a L c) L T ∧
    ∀ (w1 : World) (m : Nat), w1 = w.drewN m → ∀ (x : Option Addr) (n cx : Nat) (S : Nat → Nat), Rb w1 (.slice x n cx) n S → L + n ≤ 225000000000000 → (0 ≤ fa → (L : Int) + n ≤ fa) →
      ∃ w2 a' c', (Builtin.append_ #[41, 41] 41 #[.slice a L c, .slice x n cx]).run Tryd.prog w1 = .ok (.slice a' (L + n) c') w2 ∧ w2.cell? ⟨b, 0, none⟩ = some (.slice a L c) ∧ w2.frozen? ⟨b, 0, none⟩ = false ∧
        Sk (fun y => Fp y ∨ w.heap.size ≤ y ∧ y < w2.heap.size) (w2.setCell ⟨b, 0, none⟩ (.slice a' (L + n) c')) b (L + n) (aft T L S) fa code f ∧ Ke Fp w (w2.setCell ⟨b, 0, none⟩ (.slice a' (L + n) c')) ∧
        (w2.setCell ⟨b, 0, none⟩ (.slice a' (L + n) c')).cell? ⟨b, 2, none⟩ = some fv := by
  obtain ⟨v, fv, g, h1, h2, h3, h4⟩ := h.dat
  have h2' := h2
  obtain ⟨a, c, rfl⟩ := h2'.form
  refine ⟨a, c, fv, ⟨h1⟩, h4, h2.rb, fun w1 m hw1 x n cx S hx hn hf => ?_⟩
  have k1 : Ke (fun _ => False) w w1 := by rw [hw1]; exact (Ke.refl _ w).drewN m
  have s1 : w1.heap.size = w.heap.size := by rw [hw1]; rfl
  obtain ⟨w2, v', g', hrun, hT, hg, hk, a', c', rfl⟩ := (h2.ke' k1 (.inr (fun e => e))).app hx hn
  have k2 : Ke (fun y => (.slice a L c : Value) ≠ .slice none 0 0 ∧ y = g) w w2 := (k1.mono (fun _ _ e => e.elim)).trans hk
  have hbw : ¬ ((.slice a L c : Value) ≠ .slice none 0 0 ∧ b = g) := fun ⟨e1, e2⟩ => by
    rcases h3 with e | ⟨-, e, -⟩
    · exact e1 e
    · exact e e2.symm
  have B2 : w2.heap[b]? = some (.cells #[.slice a L c, .int .i64 fa, fv] 83 (0, 0)) := (k2.2 b (h.fl b h.bl) hbw).trans h1
  have B3 := heap_setCell_same w2 b 0 _ _ (.slice a' (L + n) c') B2
  have k3 : Kp b w2 (w2.setCell ⟨b, 0, none⟩ (.slice a' (L + n) c')) := (Kp.refl b w2).setCell 0 _
  have K3 : Ke Fp w (w2.setCell ⟨b, 0, none⟩ (.slice a' (L + n) c')) := (k2.mono (fun y _ e => by
    rcases h3 with e1 | ⟨e1, -⟩
    · exact absurd e1 e.1
    · rw [e.2]; exact e1)).trans (k3.ke.mono (fun y _ e => by rw [e]; exact h.bl))
  have hg2 : (.slice a' (L + n) c' : Value) = .slice none 0 0 ∨ (Fp g' ∨ w.heap.size ≤ g' ∧ g' < w2.heap.size) ∧ g' ≠ b ∧ (0 ≤ fa → f ≠ g') := by
    rcases hg with e | ⟨e1, e2⟩ | ⟨e1, e2⟩
    · exact .inl e
    · rcases h3 with e3 | ⟨e3, e4, e5⟩
      · exact absurd e3 e1
      · rw [e2]; exact .inr ⟨.inl e3, e4, e5⟩
    · refine .inr ⟨.inr ⟨by omega, by omega⟩, fun e => ?_, fun h0 e => ?_⟩
      · have := h.fl b h.bl; omega
      · have := h.fl f (h.fb h0).1; omega
  refine ⟨w2, a', c', hrun, by rw [cell_of_row _ _ 0 _ _ _ B2]; rfl, frozen_of_row _ _ 0 _ _ B2, ⟨.inl h.bl, fun y hy => ?_, ⟨_, fv, g', B3, ?_, hg2, ?_⟩, fun h0 => ⟨.inl (h.fb h0).1, (h.fb h0).2⟩, fun h0 => by have := hf h0; omega, h.ff⟩, K3, by rw [cell_of_row _ _ 2 _ _ _ B3]; rfl⟩
  · have hz := K3.size
    rcases hy with e | e
    · exact Nat.lt_of_lt_of_le (h.fl y e) hz
    · exact Nat.lt_of_lt_of_le e.2 k3.size
  · exact hT.ke' k3.ke (hg2.imp id (fun e => e.2.1))
  · exact (h4.ke k2 (fun h0 e => by
      rcases h3 with e1 | ⟨-, -, e1⟩
      · exact e.1 e1
      · exact e1 h0 e.2)).ke k3.ke (fun h0 e => (h.fb h0).2 e)
end
end Go.Proofs.YtfbgcednodnioaaDoor
