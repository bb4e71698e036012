import Derived.Test.YtefolifecbhgoaaGreatMbbr
import Derived.Deep.CutRange
namespace Go.Proofs.YtefolifecbhgoaaGreat
open Go.RowKit Gf2
set_option linter.unusedVariables false


theorem Tq.drewN {w : World} {r N : Nat} {B : List Int → Option Nat} {MB : Nat → Nat} {K : List Int → Option Nat} (h : Tq w r N B MB K) (q : Nat) : Tq (w.drewN q) r N B MB K := h.of (fun _ _ _ => ⟨rfl, rfl⟩)
theorem Tq.apart {w : World} {r N : Nat} {B : List Int → Option Nat} {MB : Nat → Nat} {K : List Int → Option Nat} (h : Tq w r N B MB K) {b o : Nat} {x : Int} (hc : w.cell? ⟨b, o, none⟩ = some (.int .i64 x)) : ¬ ∃ p g, B p = some g ∧ (b = g ∨ b = MB g) := by
  rintro ⟨p, g, hp, e | e⟩
  · subst e
    have hb := h.node p b hp
    rw [cell_of_row _ _ o _ _ _ hb] at hc
    match o, hc with
    | 0, hc => cases hc
    | 1, hc =>
      have hc : some (pv12 (K p)) = some (.int .i64 x) := hc
      cases hk : K p with
      | none => rw [hk] at hc; cases hc
      | some z => rw [hk] at hc; cases hc
    | o + 2, hc => cases hc
  · subst e
    obtain ⟨n', s', -, hm⟩ := h.kids p g hp
    obtain ⟨es, cl, hb⟩ := mp_blk hm
    unfold World.cell? at hc
    rw [hb] at hc
    cases hc
set_option maxHeartbeats 4000000 in
set_option maxRecDepth 100000 in
theorem cut12 {r N n : Nat} {F : Nat → Int} (hwf : ∀ i, i < n → (Lit.int .i64 (F i)).wf = true) (hn : n ≤ 1000) : ∀ (j c : Nat), c + j = n → ∀ (w : World) (B : List Int → Option Nat) (MB : Nat → Nat) (K : List Int → Option Nat) (v : Value) (g : Nat), Tq w r N B MB K → (∀ i, i ≤ n → B (tk12 F i) ≠ none) → B (tk12 F c) = some g → Qi w v j (fun i => F (c + i)) →
    Calls Tryz.prog 161 #[.pointer (some ⟨g, 0, none⟩), v] w fun e w' => ∃ d, e = .returned (.int .i64 ((n - d : Nat) : Int)) ∧ Cu12 w w' r N B MB K F c d n := by
  intro j
  induction j with
  | zero =>
    intro c hc w B MB K v g h hne hg hv
    obtain rfl : c = n := by omega
    obtain ⟨-, -, a, cap, rfl, -⟩ := hv
    have hk := h.keep hg none
    have q1 := h.toTr.cell1 hg
    have q2 := frozen_of_row w g 1 _ _ (h.node _ _ hg)
    have HC : Hid (Cu12 w (w.setCell ⟨g, 1, none⟩ (.pointer none)) r N B MB K F c c c) := by
      refine ⟨⟨Nat.le_refl _, Nat.le_refl _⟩, by rw [cutB_id]; exact hk.1, fun i h1 h2 => by omega, fun h1 => absurd h1 (Nat.lt_irrefl _), hk.2.kp.ke.mono (fun b _ e => ⟨_, g, hg, .inl e⟩)⟩
    generalize pv12 (K (tk12 F c)) = z at q1
    clear h hne hg hk hc hwf hn
    go_enter Tryz.func161, Tryz.ntmps161
    go_wp2
    go_ret
    exact ⟨c, by rw [Nat.sub_self]; rfl, HC.out⟩
  | succ j ih =>
    intro c hc w B MB K v g h hne hg hv
    obtain ⟨hnb, -, a, cap, rfl, h5, h6, h4⟩ := id hv
    obtain ⟨b, o, rfl, hl, hcells⟩ := h4 (by omega)
    have q0 : w.cell? ⟨b, o, none⟩ = some (.int .i64 (F c)) := by have := hcells 0 (by omega); rwa [Nat.add_zero] at this
    obtain ⟨g', hg'⟩ : ∃ g', B (tk12 F (c + 1)) = some g' := by
      cases e : B (tk12 F (c + 1)) with
      | none => exact absurd e (hne (c + 1) (by omega))
      | some z => exact ⟨z, rfl⟩
    have hlook : ∀ q, (Instr.lookup 167 (.map (some (MB g))) (.int .i64 (F c)) false).run Tryz.prog (w.drewN q) = .ok (.pointer (some ⟨g', 0, none⟩)) (w.drewN q) := fun q => by
      obtain ⟨n1, s1, -, hM⟩ := (h.drewN q).kids _ _ hg
      have := hM.look (hwf c (by omega))
      rw [← tk12_succ, hg'] at this
      exact this
    have q1 := h.toTr.cell0 hg
    obtain ⟨a', ha', sl⟩ := tail12 (some ⟨b, o, none⟩) (j + 1) cap (by omega) h5
    rw [Nat.add_sub_cancel] at sl
    have htl := Qi.tail12 hv (by omega) ha'
    rw [Nat.add_sub_cancel] at htl
    have c1 : ∀ q, Calls Tryz.prog 161 #[.pointer (some ⟨g', 0, none⟩), .slice a' j (cap - 1)] (w.drewN q) fun e w' => ∃ d, e = .returned (.int .i64 ((n - d : Nat) : Int)) ∧ Cu12 (w.drewN q) w' r N B MB K F (c + 1) d n := fun q =>
      ih (c + 1) (by omega) (w.drewN q) B MB K _ g' (h.drewN q) hne hg' ((htl.congr (fun i _ => by rw [Nat.add_assoc])).drewN q)
    have HH : Hid (Tq w r N B MB K ∧ B (tk12 F c) = some g ∧ B (tk12 F (c + 1)) = some g' ∧ c < n ∧ (Lit.int .i64 (F c)).wf = true ∧ b < w.heap.size ∧ w.cell? ⟨b, o, none⟩ = some (.int .i64 (F c)) ∧ n ≤ 1000 ∧ ∀ i, i ≤ n → B (tk12 F i) ≠ none) := ⟨h, hg, hg', by omega, hwf c (by omega), hl, q0, hn, hne⟩
    have hl0 := hlook 0
    have D1 : (((j + 1 : Nat) : Int) == 0) = false := beq_eq_false_iff_ne.2 (by omega)
    have i0 : (0 : Int) < ((j + 1 : Nat) : Int) := by omega
    obtain ⟨x, hx⟩ : ∃ x, x = F c := ⟨_, rfl⟩
    rw [← hx] at q0 hlook
    have HX : Hid (x = F c) := hx
    clear h hne hg hg' hv h4 hcells hnb h6 ha' htl ih hl0 hwf hn hc hx hl
    go_enter Tryz.func161, Tryz.ntmps161
    go_wp2
    go_quiet (fail)
    go_upto_region 8 with (go_at_call 161; (with_reducible refine (c1 _).mono ?_); rintro e w2 ⟨d, rfl, hC⟩; clear c1)
    have hCw : Cu12 w w2 r N B MB K F (c + 1) d n := ⟨hC.hd, hC.tq, hC.gone, hC.need, (ke_below (below_drewN (Below.refl w.heap.size w) nq) _).trans hC.ke⟩
    clear hC
    have hdd := hCw.hd
    have hgc : cutB B F d n (tk12 F (c + 1)) = some g' := by rw [cutB_at, if_neg (by omega)]; exact HH.out.2.2.1
    have hg0 : cutB B F d n (tk12 F c) = some g := by rw [cutB_at, if_neg (by omega)]; exact HH.out.2.1
    have k1 := hCw.tq.toTr.cell1 hgc
    have k0 := hCw.tq.toTr.cell0 hgc
    obtain ⟨n2, s2, hn2, hM2⟩ := hCw.tq.kids _ _ hgc
    have hlen := hM2.len 3
    have hs2 := hM2.none_iff
    have W9 : wrap64 (((n - d : Nat) : Int) + 1) = ((n - d + 1 : Nat) : Int) := by have := HH.out.2.2.2.2.2.2.2.1; unfold wrap64; omega
    have hmem : ∀ y, cutB B F d n (tk12 F (c + 1) ++ [y]) ≠ none → B (tk12 F (c + 1) ++ [y]) ≠ none ∧ ¬ (d ≤ c + 1 ∧ c + 1 < n ∧ y = F (c + 1)) := fun y hy => by
      rw [cutB_kid] at hy
      by_cases e : d ≤ c + 1 ∧ c + 1 < n ∧ y = F (c + 1)
      · rw [if_pos e] at hy; exact absurd rfl hy
      · rw [if_neg e] at hy; exact ⟨hy, e⟩
    -- the child stays
    have stay : (d = c + 1 → (c + 1 < n ∧ K (tk12 F (c + 1)) ≠ none) ∨ ∃ y, B (tk12 F (c + 1) ++ [y]) ≠ none ∧ ¬ (c + 1 < n ∧ y = F (c + 1))) → Cu12 w w2 r N B MB K F c d n := fun hst => by
      refine ⟨⟨by omega, hdd.2⟩, hCw.tq, hCw.gone, fun _ => ?_, hCw.ke⟩
      by_cases e : d = c + 1
      · have := hst e
        rw [e]
        exact this
      · exact hCw.need (by omega)
    cases hkv : updP K (tk12 F n) none (tk12 F (c + 1)) with
    | some eb =>
      have HS : Hid (Cu12 w w2 r N B MB K F c d n) := stay (fun _ => .inl (by
        unfold updP at hkv
        by_cases e : tk12 F (c + 1) = tk12 F n
        · rw [if_pos e] at hkv; cases hkv
        · rw [if_neg e] at hkv
          refine ⟨?_, by rw [hkv]; exact fun h => by cases h⟩
          have := hdd
          rcases Nat.lt_or_ge (c + 1) n with h | h
          · exact h
          · exact absurd (by rw [show c + 1 = n by omega]) e))
      rw [hkv, show pv12 (some eb) = Value.pointer (some ⟨eb, 0, none⟩) from rfl] at k1
      clear hkv stay hmem hs2 hM2 hCw hgc hg0 hdd hn2
      go_wp2
      go_ret
      exact ⟨d, rfl, HS.out⟩
    | none =>
      rw [hkv, show pv12 none = Value.pointer none from rfl] at k1
      by_cases hs0 : s2 = 0
      · have hall := hs2.1 hs0
        have hdc : d = c + 1 := by
          rcases Nat.lt_or_ge (c + 1) d with h | h
          · have := hall (F (c + 1))
            rw [← tk12_succ, cutB_at, if_neg (by omega)] at this
            exact absurd this (HH.out.2.2.2.2.2.2.2.2 (c + 1 + 1) (by omega))
          · omega
        subst hdc
        obtain ⟨n1, s1, hn1, hM1⟩ := (hCw.tq.drewN 1).kids _ _ hg0
        have hM1 : Mp w2.drew (MB g) n1 s1 (fun x => cutB B F (c + 1) n (tk12 F c ++ [x])) := hM1
        obtain ⟨w3, hrun, hM3, ht3⟩ := hM1.del HH.out.2.2.2.2.1 0
        have hst := (hCw.tq.drewN 1).strike HH.out.2.2.2.1 HH.out.2.1 hkv hall hn1 hM3 ht3
        have y0 : w2.drew.cell? ⟨g, 0, none⟩ = some (.map (some (MB g))) := hCw.tq.toTr.cell0 hg0
        have y1 : w2.drew.cell? ⟨b, o, none⟩ = some (.int .i64 x) := by
          show w2.cell? _ = _
          rw [hCw.ke.cell HH.out.2.2.2.2.2.1 (HH.out.1.apart HH.out.2.2.2.2.2.2.1), HX.out]
          exact HH.out.2.2.2.2.2.2.1
        have HS : Hid (Cu12 w w3 r N B MB K F c c n) := by
          refine ⟨⟨Nat.le_refl _, by omega⟩, hst, fun i h1 h2 => ?_, fun h1 => absurd h1 (Nat.lt_irrefl _), ?_⟩
          · by_cases e : i = c + 1
            · subst e
              refine ⟨fun h3 => ?_, fun y hy => ?_⟩
              · unfold updP at hkv
                rw [if_neg (fun e => by have := congrArg List.length e; rw [tk12_len', tk12_len'] at this; omega)] at hkv
                exact hkv
              · have := hall y
                rw [cutB_kid] at this
                by_cases e : c + 1 ≤ c + 1 ∧ c + 1 < n ∧ y = F (c + 1)
                · exact e.2
                · rw [if_neg e] at this; exact absurd this hy
            · exact hCw.gone i (by omega) h2
          · have gr := ht3.grown
            have b1 : Below 0 w2 w2.drew := (Below.refl _ _).drew
            have b2 : Below 0 w2.drew w3 := ⟨gr.os, gr.tape, gr.output, gr.size, fun k hk => absurd hk (Nat.not_lt_zero _)⟩
            refine ⟨hCw.ke.1.trans (b1.trans b2), fun q hq hnq => ?_⟩
            rw [gr.block q (by show q < w2.heap.size; have := hCw.ke.size; omega) (fun e => hnq ⟨_, g, HH.out.2.1, .inr (by cases e; rfl)⟩)]
            exact hCw.ke.2 q hq hnq
        rw [← HX.out] at hrun
        subst hs0
        clear hkv stay hmem hs2 hM2 hCw hgc hg0 hdd hn2 hM1 hM3 ht3 hst hall hn1
        go_wp2
        refine region_planJ (fun w' => w'.cell? ⟨g, 0, none⟩ = some (.map (some (MB g))) ∧ w'.cell? ⟨b, o, none⟩ = some (.int .i64 x)) 7 [7] 50 ⟨y0, y1⟩ (by kernel_rfl) (by kernel_rfl) (fun _ a d v _ h => by cases d <;> exact h) ?_
        refine planT_last ?A2 rfl (fun w' hS => ?s2) rfl ?n2
        case s2 =>
          obtain ⟨y0, y1⟩ := hS
          simp only [List.take_succ_cons, List.take_zero]
          repeat still_step
          exact rfl
        case n2 =>
        simp only [List.drop_succ_cons, List.drop_zero]
        clear y0 y1 q0 q1
        go_wp2
        go_ret
        have hnc : n - (c + 1) + 1 = n - c := by have := HH.out.2.2.2.1; omega
        first | rw [hnc] | (rw [W9, hnc])
        exact ⟨c, rfl, HS.out⟩
      · obtain ⟨y, hy⟩ : ∃ y, cutB B F d n (tk12 F (c + 1) ++ [y]) ≠ none := Classical.byContradiction (fun hno => hs0 (hs2.2 (fun z => Classical.byContradiction (fun hz => hno ⟨z, hz⟩))))
        have HS : Hid (Cu12 w w2 r N B MB K F c d n) := stay (fun e => .inr ⟨y, (hmem y hy).1, fun h => (hmem y hy).2 ⟨by omega, h.1, h.2⟩⟩)
        have D2 : ((s2 : Int) == 0) = false := beq_eq_false_iff_ne.2 (by omega)
        clear hkv stay hmem hs2 hM2 hCw hgc hg0 hdd hn2 hy
        go_wp2
        go_ret
        exact ⟨d, rfl, HS.out⟩
end Go.Proofs.YtefolifecbhgoaaGreat
namespace Go.Proofs.YtefolifecbhgoaaGreat
open Go.RowKit Gf2
set_option linter.unusedVariables false


def rmv12 (F : Nat → Int) (d n : Nat) (p : List Int) : Bool := decide (d < p.length ∧ p.length ≤ n ∧ p = tk12 F p.length)
theorem cutB_rmv {B : List Int → Option Nat} {F : Nat → Int} {d n : Nat} (p : List Int) : cutB B F d n p = if rmv12 F d n p = true then none else B p := by
  unfold cutB rmv12
  by_cases h : d < p.length ∧ p.length ≤ n ∧ p = tk12 F p.length
  · rw [if_pos h, if_pos (decide_eq_true h)]
  · rw [if_neg h, if_neg (by simpa using h)]
theorem rmv_list12 (F : Nat → Int) (d n : Nat) : ((List.range n).filter (fun i => decide (d ≤ i))).length = n - d := by
  induction n with
  | zero => simp
  | succ n ih =>
    rw [List.range_succ, List.filter_append, List.length_append, ih]
    by_cases e : d ≤ n
    · rw [List.filter_cons_of_pos (by simpa using e)]
      simp
      omega
    · rw [List.filter_cons_of_neg (by simpa using e)]
      simp
      omega
theorem List.Nodup.map_on17 {α β : Type} {f : α → β} {l : List α} (hf : ∀ a b, f a = f b → a = b) (h : l.Nodup) : (l.map f).Nodup := by
  unfold List.Nodup at *
  rw [List.pairwise_map]
  exact h.imp (fun hne e => hne (hf _ _ e))
theorem filter_split12 {α : Type} (p : α → Bool) : ∀ l : List α, l.length = (l.filter p).length + (l.filter (fun a => !p a)).length
  | [] => rfl
  | a :: l => by
    have ih := filter_split12 p l
    cases h : p a
    · rw [List.filter_cons_of_neg (by rw [h]; decide), List.filter_cons_of_pos (by rw [h]; rfl), List.length_cons, List.length_cons]
      omega
    · rw [List.filter_cons_of_pos h, List.filter_cons_of_neg (by rw [h]; decide), List.length_cons, List.length_cons]
      omega
theorem tk12_take17 {F : Nat → Int} {i d : Nat} (h : i ≤ d) : (tk12 F d).take i = tk12 F i := by
  unfold tk12
  rw [← List.map_take, List.take_range, Nat.min_eq_left h]
theorem rmv_count12 {F : Nat → Int} {d n : Nat} {PL : List (List Int)} (hnd : PL.Nodup) (hin : ∀ i, d < i → i ≤ n → tk12 F i ∈ PL) : (PL.filter (rmv12 F d n)).length = n - d := by
  have hp : (PL.filter (rmv12 F d n)).Perm (((List.range n).filter (fun i => decide (d ≤ i))).map (fun i => tk12 F (i + 1))) := by
    refine (List.perm_ext_iff_of_nodup (hnd.filter _) ?_).2 (fun p => ?_)
    · refine List.Nodup.map_on17 ?_ (List.nodup_range.filter _)
      intro a b e
      have := congrArg List.length e
      rw [tk12_len', tk12_len'] at this
      omega
    · rw [List.mem_filter, List.mem_map]
      constructor
      · rintro ⟨h1, h2⟩
        have h2 := of_decide_eq_true h2
        refine ⟨p.length - 1, ?_, ?_⟩
        · rw [List.mem_filter, List.mem_range]
          exact ⟨by omega, decide_eq_true (by omega)⟩
        · rw [show p.length - 1 + 1 = p.length by omega]
          exact h2.2.2.symm
      · rintro ⟨i, h1, rfl⟩
        rw [List.mem_filter, List.mem_range] at h1
        have h3 := of_decide_eq_true h1.2
        refine ⟨hin (i + 1) (by omega) (by omega), ?_⟩
        unfold rmv12
        rw [tk12_len']
        exact decide_eq_true ⟨by omega, by omega, rfl⟩
  rw [hp.length_eq, List.length_map, rmv_list12 F]
section
variable {w w3 : World} {Fp : Nat → Prop} {t l r N : Nat} {B : List Int → Option Nat} {MB : Nat → Nat} {K : List Int → Option Nat} {mm : Nat} {ov : Value} {L : List (Nat × Ent)}
theorem Tw.way (h : Tw w Fp t l r N B MB K mm ov L) {eb : Nat} {x : Ent} (hx : (eb, x) ∈ L) : ∀ i, i ≤ x.n → B (tk12 x.F i) ≠ none := by
  intro i hi e
  have h1 : B (tk12 x.F x.n) = none := h.tq.toTr.gone e x.n hi
  have h2 := h.tq.kept _ h1
  have h3 : K (tk12 x.F x.n) = some eb := (h.link _ eb).2 ⟨x, hx, rfl⟩
  rw [h2] at h3
  cases h3
theorem Tw.removed (h : Tw w Fp t l r N B MB K mm ov L) {eb : Nat} {x : Ent} (hx : (eb, x) ∈ L) {d : Nat} (hc : Cu12 w w3 r N B MB K x.F 0 d x.n) :
    x.n - d ≤ mm ∧ Tw (w3.setCell ⟨t, 2, none⟩ (.int .i64 ((mm - (x.n - d) : Nat) : Int))) Fp t l r N (cutB B x.F d x.n) MB (updP K x.key none) (mm - (x.n - d)) ov (L.filter (fun z => decide (z.1 ≠ eb))) ∧ Ke Fp w (w3.setCell ⟨t, 2, none⟩ (.int .i64 ((mm - (x.n - d) : Nat) : Int))) ∧ ∀ (q : Nat) (A : Array Value) (T : TypeId), w.heap[q]? = some (.cells A T (0, 0)) → T ≠ 170 → w3.heap[q]? = w.heap[q]? := by
  have hTb : w.heap[t]? = some (.cells #[.int .i64 (l : Int), .pointer (some ⟨r, 0, none⟩), .int .i64 (mm : Int), ov] 115 (0, 0)) := h.tb
  have tlt : t < w.heap.size := (Array.getElem?_eq_some_iff.1 hTb).1
  -- blocks of cells other than nodes stay
  have st : ∀ (q : Nat) (A : Array Value) (T : TypeId), w.heap[q]? = some (.cells A T (0, 0)) → T ≠ 170 → w3.heap[q]? = w.heap[q]? := fun q A T hq hT => by
    refine hc.ke.2 q (Array.getElem?_eq_some_iff.1 hq).1 ?_
    rintro ⟨p, g, hp, e | e⟩
    · have := h.tq.node p g hp
      rw [← e, hq] at this
      injection this with this
      injection this with _ e2
      exact hT e2
    · obtain ⟨n', s, -, hm⟩ := h.tq.kids p g hp
      obtain ⟨es, c, hb'⟩ := mp_blk hm
      rw [← e, hq] at hb'
      cases hb'
  have hT3 := st t _ _ hTb (by decide)
  obtain ⟨PL, p1, p2, p3⟩ := h.cnt
  have hway := h.way hx
  have hcount : (PL.filter (rmv12 x.F d x.n)).length = x.n - d := rmv_count12 p1 (fun i h1 h2 => (p2 _).2 ⟨fun e => by
    have := congrArg List.length e
    rw [tk12_len'] at this
    simp at this
    omega, hway i h2⟩)
  have hsum : PL.length = (PL.filter (rmv12 x.F d x.n)).length + (PL.filter (fun p => !rmv12 x.F d x.n p)).length := filter_split12 _ _
  obtain ⟨X, hX⟩ : ∃ X, X = w3.setCell ⟨t, 2, none⟩ (.int .i64 ((mm - (x.n - d) : Nat) : Int)) := ⟨_, rfl⟩
  have oX : Only t w3 X := by rw [hX]; exact (Only.refl _ _).setCell _ _
  have kX : Ke Fp w X := by
    have k1 : Ke Fp w w3 := hc.ke.mono (fun b _ ⟨p, g, hp, e⟩ => by
      rcases e with e | e
      · rw [e]; exact (h.nfp p g hp).1
      · rw [e]; exact (h.nfp p g hp).2)
    exact k1.trans (oX.kp.ke.mono (fun b _ e => by rw [e]; exact h.tfp))
  have hsX : X.heap.size = w3.heap.size := oX.2.1
  rw [← hX]
  have sX : ∀ (q : Nat) (A : Array Value) (T : TypeId), w.heap[q]? = some (.cells A T (0, 0)) → T ≠ 170 → T ≠ 115 → X.heap[q]? = w.heap[q]? := fun q A T hq h1 h2 => by
    rw [oX.2.2 q (fun e => by
      rw [e, hTb] at hq
      injection hq with hq
      injection hq with _ e2
      exact h2 e2.symm)]
    exact st q A T hq h1
  have hkey : ∀ p, p ∈ L → p.1 ≠ eb → p.2.key ≠ x.key := fun p hp hne e => by
    have a1 := (h.link p.2.key p.1).2 ⟨p.2, hp, rfl⟩
    have a2 := (h.link x.key eb).2 ⟨x, hx, rfl⟩
    rw [e, a2] at a1
    injection a1 with a1
    exact hne a1.symm
  refine ⟨by omega, ⟨?_, ?_, fun p e => ?_, fun p g hp => h.nfp p g (cutB_some hp), h.tfp, fun b z hz => ?_, ?_, h.l1, h.l2, ?_, by have := h.mN; omega, fun p hp => ?_, fun q hq => by rw [hsX]; exact Nat.lt_of_lt_of_le (h.fl q hq) hc.ke.size⟩, kX, st⟩
  · have : w3.heap[t]? = some (.cells #[.int .i64 (l : Int), .pointer (some ⟨r, 0, none⟩), .int .i64 (mm : Int), ov] 115 (0, 0)) := hT3.trans hTb
    rw [hX]
    exact heap_setCell_same _ _ _ _ _ _ this
  · refine hc.tq.of (fun p g hp => ⟨?_, ?_⟩)
    · refine oX.2.2 g (fun e => ?_)
      have := hc.tq.node p g hp
      rw [e, hT3, hTb] at this
      injection this with this
      injection this with _ e2
      exact absurd e2 (by decide)
    · refine oX.2.2 _ (fun e => ?_)
      obtain ⟨n', s, -, hm⟩ := hc.tq.kids p g hp
      obtain ⟨es, c, hb'⟩ := mp_blk hm
      rw [e, hT3, hTb] at hb'
      cases hb'
  · unfold updP
    by_cases e1 : p = x.key
    · rw [if_pos e1]
      constructor
      · intro e2; cases e2
      · rintro ⟨z, h1, h2⟩
        rw [List.mem_filter] at h1
        exact absurd (h2.trans e1) (hkey _ h1.1 (of_decide_eq_true h1.2))
    · rw [if_neg e1, h.link p e]
      constructor
      · rintro ⟨z, h1, h2⟩
        refine ⟨z, List.mem_filter.2 ⟨h1, decide_eq_true (fun e2 => ?_)⟩, h2⟩
        have := fst_inj h.nd h1 hx e2
        injection this with a1 a2
        exact e1 (by rw [← h2, a2])
      · rintro ⟨z, h1, h2⟩
        exact ⟨z, (List.mem_filter.1 h1).1, h2⟩
  · have hz' := (List.mem_filter.1 hz).1
    have hT := h.ents b z hz'
    obtain ⟨A, hA'⟩ := hT.en
    exact hT.keep (fun _ e => e) (sX b A _ hA' (by decide) (by decide)) (fun q A T _ hq hT => sX q A T hq (by rcases hT with rfl | rfl | rfl <;> decide) (by rcases hT with rfl | rfl | rfl <;> decide))
  · exact h.nd.sublist (List.Sublist.map _ List.filter_sublist)
  · refine ⟨PL.filter (fun p => !rmv12 x.F d x.n p), p1.filter _, fun p => ?_, by omega⟩
    rw [List.mem_filter, p2, cutB_rmv]
    cases hr : rmv12 x.F d x.n p
    · rw [if_neg (by decide)]
      simp
    · rw [if_pos rfl]
      simp
  · -- what is left begins another key
    rw [cutB_rmv] at hp
    cases hr : rmv12 x.F d x.n p with
    | true => rw [hr, if_pos rfl] at hp; exact absurd rfl hp
    | false =>
      rw [hr, if_neg (by decide)] at hp
      rcases h.pre p hp with e | ⟨b, z, hz, i, hi, e⟩
      · exact .inl e
      · by_cases eb2 : b = eb
        · subst eb2
          have hzx := fst_inj h.nd hz hx rfl
          injection hzx with _ hzx
          subst hzx
          by_cases hi0 : i = 0
          · subst hi0
            exact .inl e
          · have hid : i ≤ d := by
              rcases Nat.lt_or_ge d i with h1 | h1
              · exfalso
                have : rmv12 z.F d z.n p = true := by
                  unfold rmv12
                  rw [e, tk12_len']
                  exact decide_eq_true ⟨h1, hi, rfl⟩
                rw [this] at hr
                cases hr
              · exact h1
            have pref : ∀ y ∈ L, ∀ k, y.1 ≠ b → d ≤ k → k ≤ y.2.n → tk12 y.2.F d = tk12 z.F d → ∃ b' x', (b', x') ∈ L.filter (fun z => decide (z.1 ≠ b)) ∧ ∃ i', i' ≤ x'.n ∧ p = tk12 x'.F i' := fun y hy k hyb hdk hky he => by
              refine ⟨y.1, y.2, List.mem_filter.2 ⟨hy, decide_eq_true hyb⟩, i, by omega, ?_⟩
              rw [e]
              have := congrArg (List.take i) he
              rw [tk12_take17 hid, tk12_take17 hid] at this
              exact this.symm
            rcases hc.need (by omega) with ⟨h1, h2⟩ | ⟨y, h1, h2⟩
            · cases hk : K (tk12 z.F d) with
              | none => exact absurd hk h2
              | some b' =>
                obtain ⟨x', hx', hke⟩ := (h.link _ b').1 hk
                have hln : x'.n = d := by
                  have := congrArg List.length hke
                  unfold Ent.key at this
                  rw [tk12_len', tk12_len'] at this
                  exact this
                refine .inr (pref (b', x') hx' d (fun e2 => ?_) (Nat.le_refl _) (by show d ≤ x'.n; omega) (by show tk12 x'.F d = _; rw [← hke]; unfold Ent.key; rw [hln]))
                have e2 : b' = b := e2
                subst e2
                have := fst_inj h.nd hx' hx rfl
                injection this with _ this
                subst this
                omega
            · rcases h.pre _ h1 with h3 | ⟨b', x', hx', i', hi', he'⟩
              · have := congrArg List.length h3
                simp at this
              · have hl : i' = d + 1 := by
                  have := congrArg List.length he'
                  rw [List.length_append, tk12_len', tk12_len'] at this
                  exact this.symm
                subst hl
                rw [tk12_succ] at he'
                obtain ⟨e5, e6⟩ := snoc_inj he'
                refine .inr (pref (b', x') hx' (d + 1) (fun e2 => ?_) (by omega) hi' e5.symm)
                have e2 : b' = b := e2
                subst e2
                have := fst_inj h.nd hx' hx rfl
                injection this with _ this
                subst this
                exact h2 ⟨by omega, e6⟩
        · exact .inr ⟨b, z, List.mem_filter.2 ⟨hz, decide_eq_true eb2⟩, i, hi, e⟩
end
end Go.Proofs.YtefolifecbhgoaaGreat
namespace Go.Proofs.YtefolifecbhgoaaGreat
open Go.RowKit Gf2
set_option linter.unusedVariables false


theorem fst_filter12 (eb : Nat) (L : List (Nat × Ent)) : (L.filter (fun z => decide (z.1 ≠ eb))).map (·.1) = wo12 eb (L.map (·.1)) := by
  unfold wo12
  induction L with
  | nil => rfl
  | cons z L ih =>
    by_cases e : z.1 = eb
    · rw [List.filter_cons_of_neg (by simpa using e), List.map_cons, List.filter_cons_of_neg (by simpa using e)]
      exact ih
    · rw [List.filter_cons_of_pos (by simpa using e), List.map_cons, List.map_cons, List.filter_cons_of_pos (by simpa using e), ih]
theorem isKf_wf12 {F : Nat → Int} {n : Nat} (h : isKf F 0 0 n = true) : ∀ i, i < n → (Lit.int .i64 (F i)).wf = true := by
  obtain ⟨h1, h2⟩ := (isKf_iff n 0 0).1 h
  intro i hi
  have a := h1 i hi
  rw [Nat.zero_add] at a
  have e1 : IntKind.i64.min = -9223372036854775808 := by decide
  have e2 : IntKind.i64.max = 9223372036854775807 := by decide
  show (decide (IntKind.i64.min ≤ F i) && decide (F i ≤ IntKind.i64.max)) = true
  rw [e1, e2, Bool.and_eq_true, decide_eq_true_iff, decide_eq_true_iff]
  exact ⟨by omega, by omega⟩
section
variable {w w' : World} {Fp : Nat → Prop} {t l r N : Nat} {B : List Int → Option Nat} {MB : Nat → Nat} {K : List Int → Option Nat} {mm : Nat} {ov : Value} {L : List (Nat × Ent)}
theorem Tw.order (h : Tw w Fp t l r N B MB K mm ov L) (v : Value) : Tw (w.setCell ⟨t, 3, none⟩ v) Fp t l r N B MB K mm v L := by
  have hTb : w.heap[t]? = some (.cells #[.int .i64 (l : Int), .pointer (some ⟨r, 0, none⟩), .int .i64 (mm : Int), ov] 115 (0, 0)) := h.tb
  have o : Only t w (w.setCell ⟨t, 3, none⟩ v) := (Only.refl _ _).setCell _ _
  have st : ∀ (q : Nat) (A : Array Value) (T : TypeId), w.heap[q]? = some (.cells A T (0, 0)) → T ≠ 115 → (w.setCell ⟨t, 3, none⟩ v).heap[q]? = w.heap[q]? := fun q A T hq hT => o.2.2 q (fun e => by
    rw [e, hTb] at hq
    injection hq with hq
    injection hq with _ e2
    exact hT e2.symm)
  refine ⟨heap_setCell_same _ _ _ _ _ _ hTb, h.tq.of (fun p g hp => ⟨st g _ _ (h.tq.node p g hp) (by decide), ?_⟩), h.link, h.nfp, h.tfp, fun b x hx => ?_, h.nd, h.l1, h.l2, h.cnt, h.mN, h.pre, fun q hq => by rw [o.2.1]; exact h.fl q hq⟩
  · obtain ⟨n', s, -, hm⟩ := h.tq.kids p g hp
    obtain ⟨es, c, hb⟩ := mp_blk hm
    exact o.2.2 _ (fun e => by rw [e, hTb] at hb; cases hb)
  · have hT := h.ents b x hx
    obtain ⟨A, hA'⟩ := hT.en
    exact hT.keep (fun _ e => e) (st b A _ hA' (by decide)) (fun q A T _ hq hT => st q A T hq (by rcases hT with rfl | rfl | rfl <;> decide))
structure Rm12 (w w' : World) (Fp : Nat → Prop) (t l r N : Nat) (MB : Nat → Nat) (L : List (Nat × Ent)) (eb : Nat) : Prop where
  tt : ∃ B' K' mm' ov', Tt w' (fun q => Fp q ∨ q = w.heap.size) t l r N B' MB K' mm' ov' (L.filter (fun z => decide (z.1 ≠ eb)))
  ke : Ke Fp w w'
  lt : w.heap.size < w'.heap.size
set_option maxHeartbeats 4000000 in
set_option maxRecDepth 100000 in
theorem remove12 (h : Tt w Fp t l r N B MB K mm ov L) (hN : N ≤ 4611686018427387904) {eb : Nat} {x : Ent} (hx : (eb, x) ∈ L) :
    Calls Tryz.prog 152 #[.pointer (some ⟨t, 0, none⟩), .pointer (some ⟨eb, 0, none⟩)] w fun e w' => e = .returned (.tuple #[]) ∧ Rm12 w w' Fp t l r N MB L eb := by
  have hTe := h.ents eb x hx
  have hxn := isKf_len hTe.isk
  have c1 := without12 ov (L.map (·.1)) eb w h.od.qp (by rw [List.length_map]; have := h.ln; have := h.l2; omega) hTe.en (fun z hz => by
    obtain ⟨y, hy, rfl⟩ := List.mem_map.1 hz
    exact (h.ents y.1 y.2 hy).en)
  rw [show pe12 eb = Value.pointer (some ⟨eb, 0, none⟩) from rfl] at c1
  have hTb : w.heap[t]? = some (.cells #[.int .i64 (l : Int), .pointer (some ⟨r, 0, none⟩), .int .i64 (mm : Int), ov] 115 (0, 0)) := h.tb
  have q3 : w.cell? ⟨t, 3, none⟩ = some ov := by rw [cell_of_row _ _ 3 _ _ _ hTb]; rfl
  obtain ⟨kb, vv, hE, hK, -, -⟩ := hTe.ex
  obtain ⟨oa, oc, eo⟩ := h.od.form
  obtain ⟨L1, hL1⟩ : ∃ L1, L1 = (wo12 eb (L.map (·.1))).length := ⟨_, rfl⟩
  obtain ⟨N1, hN1⟩ : ∃ N1, N1 = (L.map (·.1)).length + 1 := ⟨_, rfl⟩
  rw [← hL1, ← hN1] at c1
  have HL : Hid (L1 = (wo12 eb (L.map (·.1))).length ∧ N1 = (L.map (·.1)).length + 1) := ⟨hL1, hN1⟩
  have HH : Hid (Tt w Fp t l r N B MB K mm ov L ∧ (eb, x) ∈ L ∧ x.n ≤ 256 ∧ w.heap[eb]? = some (.cells #[.slice (some ⟨kb, 0, none⟩) x.n x.n, vv] 205 (0, 0)) ∧ Ri w kb x.n x.F) := ⟨h, hx, hxn, hE, hK⟩
  have HN : Hid (N ≤ 4611686018427387904) := hN
  subst eo
  generalize (L.map (·.1)).length = lo at q3 c1
  clear h hx hTe hxn hTb hE hK hL1 hN1 hN
  go_enter Tryz.func152, Tryz.ntmps152
  go_wp2_with (go_at_call 144; (with_reducible refine c1.mono ?_); rintro e w1 ⟨rfl, hO, hb⟩; clear c1; have p3 : w1.cell? ⟨t, 3, none⟩ = some (.slice oa lo oc) := (hb.cell (p := ⟨t, 3, none⟩) (Array.getElem?_eq_some_iff.1 HH.out.1.tb).1).trans q3; have p4 : w1.frozen? ⟨t, 3, none⟩ = false := frozen_of_row w1 t 3 _ _ ((hb.block _ (Array.getElem?_eq_some_iff.1 HH.out.1.tb).1).trans HH.out.1.tb); have HO : Hid _ := And.intro hO hb; clear hO hb)
  obtain ⟨w2, hw2⟩ : ∃ w2, w2 = w1.setCell ⟨t, 3, none⟩ (.slice (some ⟨w.heap.size, 0, none⟩) L1 N1) := ⟨_, rfl⟩
  rw [← hw2]
  have tlt : t < w.heap.size := (Array.getElem?_eq_some_iff.1 HH.out.1.tb).1
  have hz1 := HO.out.2.size
  have hgl : w.heap.size < w1.heap.size := by obtain ⟨V, hV, -⟩ := HO.out.1.row; exact hV.lt
  have o2 : Only t w1 w2 := by rw [hw2]; exact (Only.refl _ _).setCell _ _
  have hTw2 : Tw w2 (fun q => Fp q ∨ q = w.heap.size) t l r N B MB K mm (.slice (some ⟨w.heap.size, 0, none⟩) L1 N1) L := by
    rw [hw2]
    exact ((HH.out.1.toTw.below HO.out.2).more (fun q e => .inl e) (fun q e => by
      rcases e with e | e
      · have := HH.out.1.fl q e; omega
      · omega)).order _
  have hO2 : Op12 w2 w.heap.size N1 (wo12 eb (L.map (·.1))) := HO.out.1.of (o2.2.2 _ (by omega))
  have hkw : Ke Fp w w2 := (ke_below HO.out.2 _).trans (o2.kp.ke.mono (fun q _ e => by rw [e]; exact HH.out.1.tfp))
  have hne : t ≠ eb := fun e => by
    have h1 := HH.out.2.2.2.1
    rw [← e] at h1
    have h2 : w.heap[t]? = _ := HH.out.1.tb
    rw [h1] at h2
    injection h2 with h2
    injection h2 with _ h2
    exact absurd h2 (by decide)
  have hel : eb < w.heap.size := (Array.getElem?_eq_some_iff.1 HH.out.2.2.2.1).1
  have hE2 : w2.heap[eb]? = some (.cells #[.slice (some ⟨kb, 0, none⟩) x.n x.n, vv] 205 (0, 0)) := ((o2.2.2 _ (Ne.symm hne)).trans (HO.out.2.block _ hel)).trans HH.out.2.2.2.1
  have hkt : kb ≠ t := fun e => by
    have h1 := HH.out.2.2.2.2.2.2
    obtain ⟨A, h1, -⟩ := h1
    rw [e] at h1
    have h2 : w.heap[t]? = _ := HH.out.1.tb
    rw [h1] at h2
    injection h2 with h2
    injection h2 with _ h2
    exact absurd h2 (by decide)
  have hK2 : Ri w2 kb x.n x.F := o2.ri_ (HH.out.2.2.2.2.below HO.out.2) hkt
  have y1 : w2.drew.cell? ⟨t, 1, none⟩ = some (.pointer (some ⟨r, 0, none⟩)) := by show w2.cell? _ = _; rw [cell_of_row _ _ 1 _ _ _ hTw2.tb]; rfl
  have y2 : w2.drew.cell? ⟨t, 2, none⟩ = some (.int .i64 (mm : Int)) := by show w2.cell? _ = _; rw [cell_of_row _ _ 2 _ _ _ hTw2.tb]; rfl
  have y3 : w2.drew.cell? ⟨eb, 0, none⟩ = some (.slice (some ⟨kb, 0, none⟩) x.n x.n) := by show w2.cell? _ = _; rw [cell_of_row _ _ 0 _ _ _ hE2]; rfl
  have hxk := HH.out.1.ents eb x HH.out.2.1
  have cA := cut12 (n := x.n) (F := x.F) (isKf_wf12 hxk.isk) (by have := HH.out.2.2.1; omega) x.n 0 (Nat.zero_add _) w2.drew B MB K (.slice (some ⟨kb, 0, none⟩) x.n x.n) r (hTw2.tq.drewN 1) (hTw2.way HH.out.2.1) hTw2.tq.root ((hK2.qi (Nat.le_refl _) (Nat.le_refl _) hK2.1 (fun i _ => by rw [Nat.zero_add])).drewN 1)
  have HT : Hid (Tw w2.drew (fun q => Fp q ∨ q = w.heap.size) t l r N B MB K mm (.slice (some ⟨w.heap.size, 0, none⟩) L1 N1) L ∧ Op12 w2 w.heap.size N1 (wo12 eb (L.map (·.1))) ∧ Ke Fp w w2 ∧ w.heap.size < w2.heap.size ∧ t < w.heap.size ∧ w2.drew.heap[eb]? = some (.cells #[.slice (some ⟨kb, 0, none⟩) x.n x.n, vv] 205 (0, 0))) := ⟨hTw2.below (below_drewN (Below.refl _ _) 1), hO2, hkw, by rw [o2.2.1]; exact hgl, tlt, hE2⟩
  clear hw2 o2 hTw2 hO2 hkw hne hE2 hkt hK2 hxk hel hz1 hgl tlt p3 p4 q3 HO
  refine region_planJ (fun w' => w'.cell? ⟨t, 1, none⟩ = some (.pointer (some ⟨r, 0, none⟩)) ∧ w'.cell? ⟨t, 2, none⟩ = some (.int .i64 (mm : Int)) ∧ w'.cell? ⟨eb, 0, none⟩ = some (.slice (some ⟨kb, 0, none⟩) x.n x.n)) 16 [12, 3] 29 ⟨y1, y2, y3⟩ (by kernel_rfl) (by kernel_rfl) (fun _ a d v _ h => by cases d <;> exact h) ?_
  clear y1 y2 y3
  refine planT_step ?A1 rfl (fun w' hS => ?s1) rfl (fun K hK => ?n1)
  case s1 =>
    obtain ⟨y1, y2, y3⟩ := hS
    simp only [List.take_succ_cons, List.take_zero]
    repeat still_step
    exact rfl
  case n1 =>
  go_simp
  go_wp2_with (go_at_call 161; (with_reducible refine cA.mono ?_); rintro e w3 ⟨d, rfl, hC⟩)
  clear cA
  obtain ⟨hle, hTr, kTr, hst⟩ := Tw.removed HT.out.1 HH.out.2.1 hC
  have hT3 : w3.heap[t]? = some _ := (hst t _ _ HT.out.1.tb (by decide)).trans HT.out.1.tb
  have y1 : w3.cell? ⟨t, 1, none⟩ = some (.pointer (some ⟨r, 0, none⟩)) := by rw [cell_of_row _ _ 1 _ _ _ hT3]; rfl
  have y2 : w3.cell? ⟨t, 2, none⟩ = some (.int .i64 (mm : Int)) := by rw [cell_of_row _ _ 2 _ _ _ hT3]; rfl
  have y3 : w3.cell? ⟨eb, 0, none⟩ = some (.slice (some ⟨kb, 0, none⟩) x.n x.n) := by rw [cell_of_row _ _ 0 _ _ _ ((hst eb _ _ HT.out.2.2.2.2.2 (by decide)).trans HT.out.2.2.2.2.2)]; rfl
  have f2 := frozen_of_row w3 t 2 _ _ hT3
  have hmb : mm ≤ N := HH.out.1.mN
  obtain ⟨cc, hcc⟩ : ∃ cc, cc = x.n - d := ⟨_, rfl⟩
  rw [← hcc] at hle hTr kTr ⊢
  obtain ⟨Wm, W64⟩ : IntKind.i64.wrap ((mm : Int) - (cc : Int)) = ((mm - cc : Nat) : Int) ∧ wrap64 ((mm : Int) - (cc : Int)) = ((mm - cc : Nat) : Int) := by
    have hNN := HN.out
    exact ⟨by rw [IntKind.wrap_i64]; omega, by unfold wrap64; omega⟩
  have HR : Hid (Rm12 w (w3.setCell ⟨t, 2, none⟩ (.int .i64 ((mm - cc : Nat) : Int))) Fp t l r N MB L eb) := by
    have hz := hC.ke.size
    refine ⟨⟨_, _, _, _, hTr, .inr ⟨w.heap.size, N1, ?_, ?_, .inr rfl⟩, ?_⟩, ?_, ?_⟩
    · rw [fst_filter12, HL.out.1]
    · rw [fst_filter12]
      have hO2 := HT.out.2.1
      obtain ⟨V, ⟨A, a1, -⟩, -⟩ := hO2.row
      refine hO2.of ?_
      have a1' : w2.drew.heap[w.heap.size]? = some (.cells A _ (0, 0)) := a1
      have e1 := hst _ _ _ a1' (by decide)
      have e2 : (w3.setCell ⟨t, 2, none⟩ (.int .i64 ((mm - cc : Nat) : Int))).heap[w.heap.size]? = w3.heap[w.heap.size]? := heap_setCell_other _ _ _ _ (Nat.ne_of_gt HT.out.2.2.2.2.1)
      exact e2.trans e1
    · exact Nat.le_trans (List.length_filter_le _ _) HH.out.1.ln
    · have k1 : Ke Fp w w2.drew := HT.out.2.2.1.trans (ke_below (below_drewN (Below.refl _ w2) 1) _)
      refine ⟨k1.1.trans kTr.1, fun q hq hn => ?_⟩
      rw [kTr.2 q (Nat.lt_of_lt_of_le hq k1.size) (fun e => by
        rcases e with e | e
        · exact hn e
        · omega)]
      exact k1.2 q hq hn
    · have := HT.out.2.2.2.1
      have e : (w3.setCell ⟨t, 2, none⟩ (.int .i64 ((mm - cc : Nat) : Int))).heap.size = w3.heap.size := by simp [World.setCell]
      rw [e]
      exact Nat.lt_of_lt_of_le this hz
  refine hK _ _ ⟨y1, y2, y3⟩ ?_
  clear hK K hT3 hTr kTr hst hC y1 y3 hle hmb hcc
  refine planT_last ?A2 rfl (fun w' hS => ?s2) rfl ?n2
  case s2 =>
    simp only [List.take_succ_cons, List.take_zero]
    repeat still_step
    exact rfl
  case n2 =>
  simp only [List.drop_succ_cons, List.drop_zero]
  go_wp2
  ((try simp only [Exit.inBlock, Exit.then]); first | (refine bodyPost_ret (results_none rfl _ _ _) rfl ?_) | (refine bodyPost_end (results_none rfl _ _ _) rfl ?_))
  exact ⟨rfl, HR.out⟩
end
end Go.Proofs.YtefolifecbhgoaaGreat
namespace Go.Proofs.YtefolifecbhgoaaGreat
open Go.RowKit Gf2
set_option linter.unusedVariables false


section
variable {w w2 W : World} {Fp : Nat → Prop} {t l r N : Nat} {B B' : List Int → Option Nat} {MB MB' : Nat → Nat} {K : List Int → Option Nat} {mm : Nat} {ov : Value} {L : List (Nat × Ent)}
theorem head_filter12 {eb : Nat} {x : Ent} (h : (((eb, x) :: L).map (·.1)).Nodup) : ((eb, x) :: L).filter (fun z => decide (z.1 ≠ eb)) = L := by
  rw [List.filter_cons_of_neg (by simp)]
  rw [List.map_cons, List.nodup_cons] at h
  exact filter_new h.1
theorem Rm12.ly {w w4 w' : World} {eb0 : Nat} {x0 : Ent} {eb n : Nat} {ov4 : Value} {F : Nat → Int} (hr : Ke Fp w w4) (hlt : w.heap.size < w4.heap.size) (hy : Ly w4 w' (fun q => Fp q ∨ q = w.heap.size) t l N eb ov4 L n F) : Ly w w' Fp t l N eb ov4 L n F := by
  obtain ⟨Fp', r, B, MB, K, mm, a1, a2, a3, a4⟩ := hy.tw
  refine ⟨⟨Fp', r, B, MB, K, mm, a1, a2, fun q hq => ?_, fun q hq => a4 q (.inl hq)⟩, ⟨hr.1.trans hy.ke.1, fun q hq hn => ?_⟩, Nat.le_trans (Nat.le_of_lt hlt) hy.lo⟩
  · rcases a3 q hq with (h | h) | h
    · exact .inl h
    · exact .inr (by omega)
    · exact .inr (by omega)
  · rw [hy.ke.2 q (by omega) (fun e => by
      rcases e with e | e
      · exact hn e
      · omega)]
    exact hr.2 q hq hn
set_option maxHeartbeats 4000000 in
set_option maxRecDepth 100000 in
theorem lay12_full {eb0 : Nat} {x0 : Ent} (h : Tt w Fp t l r N B MB K mm ov ((eb0, x0) :: L)) (v : Value) (n : Nat) (F : Nat → Int) (hv : ∀ w', Ke Fp w w' → Qi w' v n F) (hw : ∀ i, i < n → (Lit.int .i64 (F i)).wf = true) (hk : isKf F 0 0 n = true) (hnew : ∀ b x, (b, x) ∈ L → x.key ≠ tk12 F n) (hroom : l ≤ L.length + 1) (hN : N + n ≤ 4611686018427387904) :
    Calls Tryz.prog 141 #[.pointer (some ⟨t, 0, none⟩), v] w fun e w' => ∃ eb ov', e = .returned (.pointer (some ⟨eb, 0, none⟩)) ∧ Ly w w' Fp t l N eb ov' L n F := by
  have hTb : w.heap[t]? = some (.cells #[.int .i64 (l : Int), .pointer (some ⟨r, 0, none⟩), .int .i64 (mm : Int), ov] 115 (0, 0)) := h.tb
  have hnd := h.nd
  have c0 : ∀ q, Calls Tryz.prog 152 #[.pointer (some ⟨t, 0, none⟩), .pointer (some ⟨eb0, 0, none⟩)] (w.drewN q) fun e w' => e = .returned (.tuple #[]) ∧ Rm12 w w' Fp t l r N MB ((eb0, x0) :: L) eb0 := fun q =>
    (remove12 (h.below (below_drewN (Below.refl _ w) q)) (by omega) (List.mem_cons_self ..)).mono fun e w' ⟨a1, a2⟩ => ⟨a1, a2.tt, (ke_below (below_drewN (Below.refl _ w) q) Fp).trans a2.ke, a2.lt⟩
  have hlen := isKf_len hk
  obtain ⟨g, N', eo, hO, -⟩ : ∃ g N', ov = .slice (some ⟨g, 0, none⟩) (((eb0, x0) :: L).map (·.1)).length N' ∧ Op12 w g N' (((eb0, x0) :: L).map (·.1)) ∧ Fp g := by
    rcases h.od with ⟨e, -⟩ | e
    · cases e
    · exact e
  have z4 : w.cell? ⟨g, 0, none⟩ = some (.pointer (some ⟨eb0, 0, none⟩)) := by
    obtain ⟨V, h1, h2⟩ := hO.row
    have hl0 : 0 < N' := by have := hO.le; simp at this; omega
    rw [h1.cell hl0]
    exact congrArg some (h2 0 eb0 rfl)
  have z5 : g < w.heap.size := by obtain ⟨V, h1, h2⟩ := hO.row; exact h1.lt
  have z0 : w.cell? ⟨t, 0, none⟩ = some (.int .i64 (l : Int)) := by rw [cell_of_row _ _ 0 _ _ _ hTb]; rfl
  have z3 : w.cell? ⟨t, 3, none⟩ = some (.slice (some ⟨g, 0, none⟩) (((eb0, x0) :: L).map (·.1)).length N') := by rw [cell_of_row _ _ 3 _ _ _ hTb, ← eo]; rfl
  have elo : (((eb0, x0) :: L).map (·.1)).length = L.length + 1 := by rw [List.length_map, List.length_cons]
  rw [elo] at z3
  have D1 : decide (((L.length + 1 : Nat) : Int) ≥ (l : Int)) = true := by simp; omega
  have D2 : (L.length + 1) ≥ l := hroom
  have D3 : 0 < L.length + 1 := Nat.succ_pos _
  have D5 : l ≤ L.length + 1 := hroom
  obtain ⟨-, -, va, vc, ev, -⟩ := id (hv w (Ke.refl _ _))
  have HI : Hid ((∀ w', Ke Fp w w' → Qi w' v n F) ∧ (∀ i, i < n → (Lit.int .i64 (F i)).wf = true) ∧ isKf F 0 0 n = true ∧ (∀ b x, (b, x) ∈ L → x.key ≠ tk12 F n) ∧ N + n ≤ 4611686018427387904 ∧ n ≤ 256 ∧ (((eb0, x0) :: L).map (·.1)).Nodup) := ⟨hv, hw, hk, hnew, hN, hlen, hnd⟩
  subst ev
  generalize L.length + 1 = lo at z3 D1 D2 D3 D5
  clear hv hw hk hnew hroom hN hlen h hTb eo hO hnd elo
  go_enter Tryz.func141, Tryz.ntmps141
  go_wp2
  go_quiet (fail)
  go_wp2_with (go_at_call 152; (with_reducible refine (c0 _).mono ?_); rintro e w4 ⟨rfl, hR⟩; clear c0)
  obtain ⟨⟨B4, K4, mm4, ov4, h4⟩, hke, hlt⟩ := hR
  rw [head_filter12 HI.out.2.2.2.2.2.2] at h4
  have c1 := copied12 (.slice va n vc) n F w4 (HI.out.1 w4 hke) (by have := HI.out.2.2.2.2.2.1; omega)
  have hmN := h4.mN
  have hcl := cnt12_le B4 F n
  have HH : Hid (Tt w4 (fun q => Fp q ∨ q = w.heap.size) t l r N B4 MB K4 mm4 ov4 L ∧ (∀ i, i < n → (Lit.int .i64 (F i)).wf = true) ∧ isKf F 0 0 n = true ∧ (∀ b x, (b, x) ∈ L → x.key ≠ tk12 F n) ∧ N + n ≤ 4611686018427387904 ∧ mm4 + cnt12 B4 F n ≤ N + n) := ⟨h4, HI.out.2.1, HI.out.2.2.1, HI.out.2.2.2.1, HI.out.2.2.2.2.1, by omega⟩
  have HK : Hid (Ke Fp w w4 ∧ w.heap.size < w4.heap.size) := ⟨hke, hlt⟩
  clear h4 hke hlt hmN hcl HI z0 z3 z4 z5 D1 D2 D3 D5
  go_wp2_with (go_at_call 153; (with_reducible refine c1.mono ?_); rintro e w1 ⟨rfl, hK, hb1⟩; clear c1)
  obtain ⟨w2, hw2⟩ : ∃ w2, w2 = w1.alloc (.cells #[.slice (some ⟨w4.heap.size, 0, none⟩) n n, .slice none 0 0] 205) := ⟨_, rfl⟩
  have hb2 : Below w4.heap.size w4 w2.drew := by rw [hw2]; exact (hb1.alloc hb1.size _).drew
  have hE : w2.drew.heap[w1.heap.size]? = some (.cells #[.slice (some ⟨w4.heap.size, 0, none⟩) n n, .slice none 0 0] 205 (0, 0)) := by rw [hw2]; exact heap_alloc_new _ _
  have hK2 : Ri w2.drew w4.heap.size n F := by
    rw [hw2]
    exact ⟨hK.1, trivial, hK.2.2.alloc _⟩
  have hQ2 : Qi w2.drew (.slice (some ⟨w4.heap.size, 0, none⟩) n n) n F := ⟨hK.1, trivial, _, _, rfl, Nat.le_refl _, hK.1, fun _ => ⟨w4.heap.size, 0, rfl, hK2.2.2.lt, fun i hi => by rw [Nat.zero_add]; exact hK2.2.2.cell hi⟩⟩
  have h2 := HH.out.1.below hb2
  have hTb2 : w2.drew.heap[t]? = some (.cells #[.int .i64 (l : Int), .pointer (some ⟨r, 0, none⟩), .int .i64 (mm4 : Int), ov4] 115 (0, 0)) := h2.tb
  have cA := add12 r w1.heap.size n N n (some ⟨w4.heap.size, 0, none⟩) (.slice none 0 0) B4 MB K4 F w2.drew h2.tq hE hQ2 HH.out.2.1 (by have := HH.out.2.2.2.2.1; unfold maxLen; omega)
  have HG : Hid (Below w4.heap.size w4 w2.drew ∧ w2.drew.heap[w1.heap.size]? = some (.cells #[.slice (some ⟨w4.heap.size, 0, none⟩) n n, .slice none 0 0] 205 (0, 0)) ∧ Ri w2.drew w4.heap.size n F ∧ w4.heap.size ≤ w1.heap.size) := ⟨hb2, hE, hK2, hb1.size⟩
  have y1 : w2.drew.cell? ⟨t, 1, none⟩ = some (.pointer (some ⟨r, 0, none⟩)) := by rw [cell_of_row _ _ 1 _ _ _ hTb2]; rfl
  have y2 : w2.drew.cell? ⟨t, 2, none⟩ = some (.int .i64 (mm4 : Int)) := by rw [cell_of_row _ _ 2 _ _ _ hTb2]; rfl
  rw [← hw2]
  generalize w1.heap.size = eb at cA HG ⊢
  clear hw2 hb1 hK hb2 hE hK2 hQ2 h2 hTb2
  have hcB : mm4 + cnt12 B4 F n ≤ 4611686018427387904 := by have := HH.out.2.2.2.2; omega
  obtain ⟨cc, hcc⟩ : ∃ cc, cc = cnt12 B4 F n := ⟨_, rfl⟩
  rw [← hcc] at cA hcB
  have Wm : IntKind.i64.wrap ((mm4 : Int) + (cc : Int)) = ((mm4 + cc : Nat) : Int) := by rw [IntKind.wrap_i64]; omega
  have HCC : Hid (cc = cnt12 B4 F n) := hcc
  clear hcc hcB
  refine region_planJ (fun w' => w'.cell? ⟨t, 1, none⟩ = some (.pointer (some ⟨r, 0, none⟩)) ∧ w'.cell? ⟨t, 2, none⟩ = some (.int .i64 (mm4 : Int))) 13 [9, 3] 42 ⟨y1, y2⟩ (by kernel_rfl) (by kernel_rfl) (fun _ a d v _ h => by cases d <;> exact h) ?_
  clear y1 y2
  refine planT_step ?A1 rfl (fun w' hS => ?s1) rfl (fun K hK => ?n1)
  case s1 =>
    obtain ⟨y1, y2⟩ := hS
    simp only [List.take_succ_cons, List.take_zero]
    repeat still_step
    exact rfl
  case n1 =>
  go_simp
  go_wp2_with (go_at_call 154; (with_reducible refine cA.mono ?_); rintro e w3 ⟨rfl, W, B', MB', g, hA, hg, hw3⟩; have HW3 : Hid (w3 = W.setCell ⟨g, 1, none⟩ (.pointer (some ⟨eb, 0, none⟩))) := hw3; clear hw3)
  clear cA
  have hw3 := HW3.out
  have hT3 := laid_t HH.out.1 HG.out.1 hA hg (.pointer (some ⟨eb, 0, none⟩))
  rw [← hw3] at hT3
  have y1 : w3.cell? ⟨t, 1, none⟩ = some (.pointer (some ⟨r, 0, none⟩)) := by rw [cell_of_row _ _ 1 _ _ _ hT3]; rfl
  have y2 : w3.cell? ⟨t, 2, none⟩ = some (.int .i64 (mm4 : Int)) := by rw [cell_of_row _ _ 2 _ _ _ hT3]; rfl
  have f2 := frozen_of_row w3 t 2 _ _ hT3
  obtain ⟨j1, j2, j3⟩ := Tw.laid HH.out.1 HH.out.2.2.1 HH.out.2.2.2.1 (Nat.le_refl _) HG.out.2.2.2 HG.out.1 HG.out.2.1 HG.out.2.2.1 hA hg HH.out.2.2.2.2.1
  rw [← hw3, ← HCC.out] at j1 j2 j3
  have HL : Hid (Ly w4 (w3.setCell ⟨t, 2, none⟩ (.int .i64 ((mm4 + cc : Nat) : Int))) (fun q => Fp q ∨ q = w.heap.size) t l N eb ov4 L n F) :=
    ⟨⟨_, r, B', MB', _, _, j1, j2, fun q hq => hq.2, fun q hq => ⟨by
      have a1 := HH.out.1.fl q hq
      have a2 := HG.out.1.size
      have a3 := hA.ke.size
      omega, .inl hq⟩⟩, j3, HG.out.2.2.2⟩
  refine hK _ _ ⟨y1, y2⟩ ?_
  clear hK K hT3 j1 j2 j3 hA hg hw3 y1
  refine planT_last ?A2 rfl (fun w' hS => ?s2) rfl ?n2
  case s2 =>
    simp only [List.take_succ_cons, List.take_zero]
    repeat still_step
    exact rfl
  case n2 =>
  simp only [List.drop_succ_cons, List.drop_zero]
  go_wp2
  go_ret
  exact ⟨eb, ov4, rfl, Rm12.ly (eb0 := eb0) (x0 := x0) HK.out.1 HK.out.2 HL.out⟩
end
end Go.Proofs.YtefolifecbhgoaaGreat
namespace Go.Proofs.YtefolifecbhgoaaGreat
open Go.RowKit Gf2
set_option linter.unusedVariables false


section
variable {w : World} {Fp : Nat → Prop} {t l r N : Nat} {B : List Int → Option Nat} {MB : Nat → Nat} {K : List Int → Option Nat} {mm : Nat} {ov : Value} {L : List (Nat × Ent)}
set_option maxHeartbeats 2000000 in
set_option maxRecDepth 100000 in
theorem put12_full {eb0 : Nat} {x0 : Ent} (h : Tt w Fp t l r N B MB K mm ov ((eb0, x0) :: L)) (v u : Value) (n : Nat) (F : Nat → Int) (hv' : ∀ w', Ke Fp w w' → Qi w' v n F) (hw : ∀ i, i < n → (Lit.int .i64 (F i)).wf = true) (hk : isKf F 0 0 n = true) (hnew : ∀ b x, (b, x) ∈ (eb0, x0) :: L → x.key ≠ tk12 F n) (hroom : l ≤ L.length + 1) (hN : N + n ≤ 4611686018427387904)
    (m : Nat) (len : Nat → Nat) (S : Nat → Nat → Nat) (hu : Ll Fp w u m len S) (hm : 24 * m ≤ 140737488351232) (hn : ∀ i, i < m → len i ≤ 140737488351232) :
    Calls Tryz.prog 124 #[.pointer (some ⟨t, 0, none⟩), v, u] w fun e w' => e = .returned (.int .i64 0) ∧ ∃ eb, Pt w w' Fp t l (N + n) (L ++ [(eb, ⟨n, F, m, len, S⟩)]) := by
  have hv := hv' w (Ke.refl _ _)
  have hll : L.length < l := by have := h.ln; rw [List.length_cons] at this; omega
  have c0 := isKey12 v n F w hv
  have c1 := find12 t r n N l mm ov v B MB K F w h.tb h.tq hv hw
  rw [hk] at c0
  rw [h.lacks hnew, show pv12 none = Value.pointer none from rfl] at c1
  have c2 := lay12_full h v n F hv' hw hk (fun b x hx => hnew b x (List.mem_cons_of_mem _ hx)) hroom hN
  have q1 := h.tb.c1
  obtain ⟨-, -, a, cap, rfl, -⟩ := hv
  have HU : Hid (Ll Fp w u m len S ∧ 24 * m ≤ 140737488351232 ∧ (∀ i, i < m → len i ≤ 140737488351232) ∧ L.length < l) := ⟨hu, hm, hn, hll⟩
  obtain ⟨V, ⟨-, ua, uc, rfl, -⟩, -⟩ := hu
  clear h hw hm hn hk hnew hroom hN hll hv'
  go_enter Tryz.func124, Tryz.ntmps124
  go_wp2_with (first
    | (go_at_call 140; (with_reducible refine c0.mono ?_); rintro e w9 ⟨rfl, hw9⟩; have hw9 := hw9.symm; subst hw9; clear c0)
    | (go_at_call 133; (with_reducible refine c1.mono ?_); rintro e w9 ⟨rfl, hw9⟩; have hw9 := hw9.symm; subst hw9; clear c1 q1)
    | (go_at_call 141; (with_reducible refine c2.mono ?_); rintro e w3 ⟨eb, ov', rfl, hy⟩; clear c2; have c3 := copies12 (.slice ua m uc) m len S w3 ((Ll.ke HU.out.1 hy.ke).lb) HU.out.2.1 HU.out.2.2.1; have HY : Hid _ := hy; clear hy)
    | (go_at_call 135; (with_reducible refine c3.mono ?_); rintro e w8 ⟨B8, rfl, hV, hb⟩; clear c3; obtain ⟨cU, vz, z1, z2⟩ := put12_mid2 HU.out.2.2.2 HY.out HU.out.2.1 HU.out.2.2.1 hV hb; clear hV hb)
    | (go_at_call 134; (with_reducible refine cU.mono ?_); rintro e w7 ⟨rfl, hP⟩; clear cU z1 z2; have HP : Hid _ := hP; clear hP))
  go_ret
  exact ⟨rfl, eb, HP.out⟩
end
end Go.Proofs.YtefolifecbhgoaaGreat
