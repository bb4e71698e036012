import Derived.Test.YtldacjpkblffbabYmd
namespace Go.Proofs.Ytldacjpkblffbab
open Go.RowKit Gf2
set_option linter.unusedVariables false

-- layer 16: ShapeMemory's beginning and end (laid by wip/genyme.py)
section
variable {X0 W W' : World} {f : Int} {K M n l s : Nat} {D Fw Fw' : Nat → Nat} {Sa Sa' : Nat → Nat → Nat} {vD : Value} {t1 : Nat} {gw : Nat} {Cw : Nat} {t2 : Nat} {ge : Nat} {Ce : Nat} {t3 : Nat} {u3 : Value} {t4 : Nat} {ga : Nat} {Ba : Nat → Nat} {t5 : Nat} {gb : Nat} {Bb : Nat → Nat} {t6 : Nat} {gx : Nat} {t7 : Nat} {gy : Nat} {t8 : Nat} {gt : Nat} {Ct : Nat} {t9 : Nat} {u9 : Value} {t10 : Nat} {gc : Nat} {Bc : Nat → Nat} {t11 : Nat} {gz : Nat}
theorem mem_whole (X : Fx16 f K M n l s) {a : Option Addr} {cap : Nat} (hD : Rb X0 (.slice a n cap) n D) (hW : Below X0.heap.size X0 W) (Sa : Nat → Nat → Nat) :
    ∃ w1 g C w2 gw Cw t1, (Builtin.append_ #[24, 24] 24 #[.slice (some ⟨W.heap.size, 0, none⟩) 0 0, .slice a n cap]).run Try.prog (W.alloc (.cells #[] 5)) = .ok (.slice (some ⟨g, 0, none⟩) n C) w1 ∧
      (Builtin.append_ #[24, 24] 24 #[.slice (some ⟨g, 0, none⟩) n C, .slice (some ⟨w1.heap.size, 0, none⟩) 8 8]).run Try.prog (w1.alloc (.cells #[.int .u8 201, .int .u8 202, .int .u8 203, .int .u8 204, .int .u8 205, .int .u8 206, .int .u8 207, .int .u8 208] 5)) = .ok (.slice (some ⟨gw, 0, none⟩) (n + 8) Cw) w2 ∧ Sm1 X0 n l s D (fw16 n D) Sa t1 gw Cw w2 := by
  have hn := X.n2
  obtain ⟨w1, g, C, F, hrun, hC, hg, hg1, hR, hF, hb⟩ := copy_app W (hD.below hW) (by omega)
  have r0 := lit_rw [201, 202, 203, 204, 205, 206, 207, 208] w1 (by decide) (by decide)
  obtain ⟨w1a, hw1a⟩ : ∃ x, x = w1.alloc (.cells #[.int .u8 201, .int .u8 202, .int .u8 203, .int .u8 204, .int .u8 205, .int .u8 206, .int .u8 207, .int .u8 208] 5) := ⟨_, rfl⟩
  have r1 : Rw w1a w1.heap.size 8 (fun i => 201 + i) := by
    rw [hw1a]
    refine Rw.congr r0 (fun i hi => ?_)
    have : i = 0 ∨ i = 1 ∨ i = 2 ∨ i = 3 ∨ i = 4 ∨ i = 5 ∨ i = 6 ∨ i = 7 := by have : i < 8 := hi; omega
    rcases this with e | e | e | e | e | e | e | e <;> subst e <;> rfl
  have hb1 : Below w1.heap.size w1 w1a := by rw [hw1a]; exact balloc16 _ _
  obtain ⟨w2, gw, Cw, G, hrun2, hC2, hR2, hG1, hG2, hcase⟩ := app8 w1a (g := g) (C := C) (L := n) (rw_below hR hb1) hC (x := some ⟨w1.heap.size, 0, none⟩) (n := 8) (cx := 8) (S := fun i => 201 + i) (fun i hi => by omega) (fun _ => ⟨_, _, rfl, fun i hi => by rw [Nat.zero_add]; exact r1.2.2.cell (i := i) hi⟩) (by omega)
  have hW1 := bthen16 hW hb
  have hWa := bthen16 hW1 hb1
  have hx : X0.heap.size ≤ W.heap.size := hW.size
  have hbe : Below X0.heap.size X0 w2 ∧ X0.heap.size ≤ gw := by
    rcases hcase with ⟨e, ho⟩ | ⟨e, -, ho⟩
    · exact ⟨hWa.trans (ho.below (by omega)), by omega⟩
    · exact ⟨bthen16 hWa ho, by rw [e]; exact hWa.size⟩
  rw [hw1a] at hrun2
  refine ⟨w1, g, C, w2, gw, Cw, w2.heap.size, hrun, hrun2, hbe.1, hbe.2, hR2.lt, Nat.le_refl _, hC2, G, hR2, fun i hi => ?_⟩
  unfold fw16
  by_cases e : i < n
  · rw [if_pos e, hG1 i e]; exact hF i e
  · obtain ⟨j, rfl⟩ : ∃ j, i = n + j := ⟨i - n, by omega⟩
    rw [if_neg e, hG2 j (by omega)]
    show 201 + j = 201 + (n + j - n)
    omega
end
/-- one list behind the other. -/
def jnx {α : Type} (N : Nat) (A A' : Nat → α) (r : Nat) : α := if r < N then A r else A' (r - N)
theorem jnx_lo {α : Type} {N : Nat} {A A' : Nat → α} {r : Nat} (h : r < N) : jnx N A A' r = A r := if_pos h
theorem jnx_hi {α : Type} {N : Nat} {A A' : Nat → α} {r : Nat} (h : ¬ r < N) : jnx N A A' r = A' (r - N) := if_neg h
/-- a list of lists that grows by append. -/
structure Lp16 (W0 W : World) (g N C : Nat) (V : Nat → Value) : Prop where
  bel : Below W0.heap.size W0 W
  lo : W0.heap.size ≤ g
  le : N ≤ C
  row : ∃ F, W.rowIs g 24 C F ∧ ∀ i, i < N → F i = V i
theorem Lp16.app {W0 W : World} {g N C b s : Nat} {V S : Nat → Value} (h : Lp16 W0 W g N C V) (hr : W0.rowIs b 24 s S) (h1 : ∀ i, i < s → (S i).oneCell' = true) (hN : N + s ≤ 1000) :
    ∃ w' g' C', (Builtin.append_ #[27, 27] 27 #[.slice (some ⟨g, 0, none⟩) N C, .slice (some ⟨b, 0, none⟩) s s]).run Try.prog W = .ok (.slice (some ⟨g', 0, none⟩) (N + s) C') w' ∧ Lp16 W0 w' g' (N + s) C' (jnx N V S) := by
  obtain ⟨F, hF, hV⟩ := h.row
  have hr' := hr.of_block (h.bel.block b hr.lt)
  obtain ⟨w', g', C', G, hrun, hC, hG, hG1, hG2, hcase⟩ := appv elm_l8 W hF h.le (x := some ⟨b, 0, none⟩) (n := s) (cx := s) (S := S) h1 (fun _ => ⟨b, 0, rfl, fun i hi => by rw [Nat.zero_add]; exact hr'.cell hi⟩) (by omega)
  have hlo := h.lo
  refine ⟨w', g', C', hrun, ?_, ?_, hC, G, hG, fun i hi => ?_⟩
  · rcases hcase with ⟨-, -, ho⟩ | ⟨-, -, -, hb⟩
    · exact h.bel.trans (ho.below hlo)
    · exact bthen16 h.bel hb
  · rcases hcase with ⟨e, -⟩ | ⟨e, -⟩
    · omega
    · rw [e]; exact h.bel.size
  · by_cases e : i < N
    · rw [jnx_lo e, hG1 i e, hV i e]
    · rw [jnx_hi e]
      obtain ⟨j, rfl⟩ : ∃ j, i = N + j := ⟨i - N, by omega⟩
      rw [hG2 j (by omega), Nat.add_sub_cancel_left]
/-- N lists in blocks of their own, all of P. -/
structure Vs16 (W : World) (P : Nat → Prop) (N : Nat) (B L : Nat → Nat) : Prop where
  row : ∀ r, r < N → ∃ F, Rw W (B r) (L r) F
  mem : ∀ r, r < N → P (B r)
  inj : ∀ r s, r < N → s < N → B r = B s → r = s
  cl : ∀ r, r < N → L r ≤ 1000
theorem Vs16.join {W : World} {P Q : Nat → Prop} {N N' : Nat} {B B' L L' : Nat → Nat} (h : Vs16 W P N B L) (k : Vs16 W Q N' B' L') (hd : ∀ x, P x → Q x → False) : Vs16 W (fun x => P x ∨ Q x) (N + N') (jnx N B B') (jnx N L L') := by
  refine ⟨fun r hr => ?_, fun r hr => ?_, fun r s hr hs e => ?_, fun r hr => ?_⟩
  · by_cases e : r < N
    · rw [jnx_lo e, jnx_lo e]; exact h.row r e
    · rw [jnx_hi e, jnx_hi e]; exact k.row _ (by omega)
  · by_cases e : r < N
    · rw [jnx_lo e]; exact .inl (h.mem r e)
    · rw [jnx_hi e]; exact .inr (k.mem _ (by omega))
  · by_cases e1 : r < N
    · by_cases e2 : s < N
      · rw [jnx_lo e1, jnx_lo e2] at e; exact h.inj r s e1 e2 e
      · rw [jnx_lo e1, jnx_hi e2] at e
        exact (hd _ (h.mem r e1) (e ▸ k.mem (s - N) (by omega))).elim
    · by_cases e2 : s < N
      · rw [jnx_hi e1, jnx_lo e2] at e
        exact (hd _ (h.mem s e2) (e ▸ k.mem (r - N) (by omega))).elim
      · rw [jnx_hi e1, jnx_hi e2] at e
        have := k.inj _ _ (by omega) (by omega) e
        omega
  · by_cases e : r < N
    · rw [jnx_lo e]; exact h.cl r e
    · rw [jnx_hi e]; exact k.cl _ (by omega)
theorem Vs16.mn {W : World} {P : Nat → Prop} {N base lb : Nat} {B L : Nat → Nat} (h : Vs16 W P N B L) (hc : ∀ r, r < N → W.cell? ⟨lb, r, none⟩ = some (.slice (some ⟨B r, 0, none⟩) (L r) (L r))) (hl : lb < W.heap.size) (hP : ∀ x, P x → base ≤ x ∧ x ≠ lb) : ∃ F, Mn W base lb N B L L F := by
  refine ⟨fun r => if hr : r < N then Classical.choose (h.row r hr) else fun _ => 0, hc, fun r hr => ?_, h.inj, fun r hr => (hP _ (h.mem r hr)).2, fun r hr => (hP _ (h.mem r hr)).1, hl, fun r hr => ⟨Nat.le_refl _, h.cl r hr⟩⟩
  simp only [hr, dif_pos]
  exact Classical.choose_spec (h.row r hr)
theorem jnx_vals {N : Nat} {V V' : Nat → Value} {B B' L L' : Nat → Nat} {r : Nat} (h : r < N → V r = .slice (some ⟨B r, 0, none⟩) (L r) (L r)) (h' : ¬ r < N → V' (r - N) = .slice (some ⟨B' (r - N), 0, none⟩) (L' (r - N)) (L' (r - N))) : jnx N V V' r = .slice (some ⟨jnx N B B' r, 0, none⟩) (jnx N L L' r) (jnx N L L' r) := by
  by_cases e : r < N
  · rw [jnx_lo e, jnx_lo e, jnx_lo e]; exact h e
  · rw [jnx_hi e, jnx_hi e, jnx_hi e]; exact h' e
/-- the first three. -/
def b3x (x y z : Nat) (r : Nat) : Nat := if r = 0 then x else if r = 1 then y else z
def bAll (s gx gy gz : Nat) (Ba Bb Bc : Nat → Nat) : Nat → Nat := jnx (3 + s + s) (jnx (3 + s) (jnx 3 (b3x gx gy gz) Ba) Bb) Bc
def lAll (s n l : Nat) : Nat → Nat := jnx (3 + s + s) (jnx (3 + s) (jnx 3 (fun _ => n) (fun _ => l)) (fun _ => l)) (fun _ => l)
section
variable {X0 W W' : World} {f : Int} {K M n l s : Nat} {D Fw Fw' : Nat → Nat} {Sa Sa' : Nat → Nat → Nat} {vD : Value} {t1 : Nat} {gw : Nat} {Cw : Nat} {t2 : Nat} {ge : Nat} {Ce : Nat} {t3 : Nat} {u3 : Value} {t4 : Nat} {ga : Nat} {Ba : Nat → Nat} {t5 : Nat} {gb : Nat} {Bb : Nat → Nat} {t6 : Nat} {gx : Nat} {t7 : Nat} {gy : Nat} {t8 : Nat} {gt : Nat} {Ct : Nat} {t9 : Nat} {u9 : Value} {t10 : Nat} {gc : Nat} {Bc : Nat → Nat} {t11 : Nat} {gz : Nat}
/-- where the lists lie. -/
def pAll (s t4 t5 t6 t7 t9 t10 t11 : Nat) (Ba : Nat → Nat) (x : Nat) : Prop := (((t5 ≤ x ∧ x < t7 ∨ t10 ≤ x ∧ x < t11) ∨ (∃ r, r < s ∧ x = Ba r)) ∨ (t4 ≤ x ∧ x < t5)) ∨ (t9 ≤ x ∧ x < t10)
theorem Qs16.vs {lo hi g : Nat} {B : Nat → Nat} {S : Nat → Nat → Nat} (h : Qs16 lo hi W g s l B S) (hl : l ≤ 1000) : Vs16 W (fun x => lo ≤ x ∧ x < hi) s B (fun _ => l) := ⟨fun r hr => ⟨_, (h.row r hr).2.2.2⟩, fun r hr => ⟨(h.row r hr).1, (h.row r hr).2.1⟩, h.inj, fun _ _ => hl⟩
theorem Qs16.vs2 {lo hi g : Nat} {B : Nat → Nat} {S : Nat → Nat → Nat} (h : Qs16 lo hi W g s l B S) (hl : l ≤ 1000) : Vs16 W (fun x => ∃ r, r < s ∧ x = B r) s B (fun _ => l) := ⟨fun r hr => ⟨_, (h.row r hr).2.2.2⟩, fun r hr => ⟨r, hr, rfl⟩, h.inj, fun _ _ => hl⟩
theorem mem_vs (X : Fx16 f K M n l s) (h : Sm11 X0 n l s D (fw16 n (tr16 D)) (ta16 l n D K 0) t1 gw Cw t2 ge Ce t3 u3 t4 ga Ba t5 gb Bb t6 gx t7 gy t8 gt Ct t9 u9 t10 gc Bc t11 gz W) : Vs16 W (pAll s t4 t5 t6 t7 t9 t10 t11 Ba) (3 + s + s + s) (bAll s gx gy gz Ba Bb Bc) (lAll s n l) := by
  have hs : 0 < s := by have := X.hs; have := X.k1; omega
  obtain ⟨q1, q2, q3, q4, q5, q6, q7, q8, q9, q10, q11⟩ := h.ord hs
  have hl := X.l2
  have hn := X.n2
  have x1 := h.prev.prev.prev.prev.prev.ob
  have y1 := h.prev.prev.prev.prev.ob
  have z1 := h.ob
  have a1 := h.prev.prev.prev.prev.prev.prev.prev.ob
  have v0 : Vs16 W (fun x => t5 ≤ x ∧ x < t7 ∨ t10 ≤ x ∧ x < t11) 3 (b3x gx gy gz) (fun _ => n) := by
    have g1 := x1.glo; have g2 := x1.ghi; have g3 := y1.glo; have g4 := y1.ghi; have g5 := z1.glo; have g6 := z1.ghi
    refine ⟨fun r hr => ?_, fun r hr => ?_, fun r r' hr hr' e => ?_, fun _ _ => by omega⟩
    · unfold b3x
      obtain ⟨F1, r1, -⟩ := x1.row
      obtain ⟨F2, r2, -⟩ := y1.row
      obtain ⟨F3, r3, -⟩ := z1.row
      split
      · exact ⟨_, r1⟩
      · split
        · exact ⟨_, r2⟩
        · exact ⟨_, r3⟩
    · unfold b3x
      split
      · omega
      · split <;> omega
    · unfold b3x at e
      split at e <;> split at e <;> (try split at e) <;> (try split at e) <;> omega
  have va := h.prev.prev.prev.prev.prev.prev.prev.ob.vs2 (by omega)
  have vb := h.prev.prev.prev.prev.prev.prev.ob.vs (by omega)
  have vc := h.prev.ob.vs (by omega)
  have ha : ∀ x, (∃ r, r < s ∧ x = Ba r) → t3 ≤ x ∧ x < t4 := fun x ⟨r, hr, e⟩ => by rw [e]; exact ⟨(a1.row r hr).1, (a1.row r hr).2.1⟩
  exact ((v0.join va (fun x p q => by have := ha x q; omega)).join vb (fun x p q => by
    rcases p with p | p
    · omega
    · have := ha x p; omega)).join vc (fun x p q => by
    rcases p with (p | p) | p
    · omega
    · have := ha x p; omega
    · omega)
/-- the list of all lists. -/
theorem mem_lists (X : Fx16 f K M n l s) (h : Sm11 X0 n l s D (fw16 n (tr16 D)) (ta16 l n D K 0) t1 gw Cw t2 ge Ce t3 u3 t4 ga Ba t5 gb Bb t6 gx t7 gy t8 gt Ct t9 u9 t10 gc Bc t11 gz W) : ∃ w1 g1 C1 w2 g2 C2 w3 lb C3,
    (Builtin.append_ #[27, 27] 27 #[.slice (some ⟨W.heap.size, 0, none⟩) 3 3, .slice (some ⟨ga, 0, none⟩) s s]).run Try.prog (W.alloc (.cells #[.slice (some ⟨gx, 0, none⟩) n n, .slice (some ⟨gy, 0, none⟩) n n, .slice (some ⟨gz, 0, none⟩) n n] 24)) = .ok (.slice (some ⟨g1, 0, none⟩) (3 + s) C1) w1 ∧
    (Builtin.append_ #[27, 27] 27 #[.slice (some ⟨g1, 0, none⟩) (3 + s) C1, .slice (some ⟨gb, 0, none⟩) s s]).run Try.prog w1 = .ok (.slice (some ⟨g2, 0, none⟩) (3 + s + s) C2) w2 ∧
    (Builtin.append_ #[27, 27] 27 #[.slice (some ⟨g2, 0, none⟩) (3 + s + s) C2, .slice (some ⟨gc, 0, none⟩) s s]).run Try.prog w2 = .ok (.slice (some ⟨lb, 0, none⟩) (3 + s + s + s) C3) w3 ∧
    Sm11 X0 n l s D (fw16 n (tr16 D)) (ta16 l n D K 0) t1 gw Cw t2 ge Ce t3 u3 t4 ga Ba t5 gb Bb t6 gx t7 gy t8 gt Ct t9 u9 t10 gc Bc t11 gz w3 ∧ ∃ F, Mn w3 X0.heap.size lb (3 + s + s + s) (bAll s gx gy gz Ba Bb Bc) (lAll s n l) (lAll s n l) F := by
  have hs : 0 < s := by have := X.hs; have := X.k1; omega
  obtain ⟨q1, q2, q3, q4, q5, q6, q7, q8, q9, q10, q11⟩ := h.ord hs
  have hs3 : s ≤ 80 := by have := X.hs; have := X.k2; have := X.m2; omega
  have hW : Below W.heap.size W (W.alloc (.cells #[.slice (some ⟨gx, 0, none⟩) n n, .slice (some ⟨gy, 0, none⟩) n n, .slice (some ⟨gz, 0, none⟩) n n] 24)) := balloc16 _ _
  obtain ⟨V0, hV0⟩ : ∃ V0 : Nat → Value, V0 = fun r => .slice (some ⟨b3x gx gy gz r, 0, none⟩) n n := ⟨_, rfl⟩
  have l0 : Lp16 W (W.alloc (.cells #[.slice (some ⟨gx, 0, none⟩) n n, .slice (some ⟨gy, 0, none⟩) n n, .slice (some ⟨gz, 0, none⟩) n n] 24)) W.heap.size 3 3 V0 := by
    refine ⟨hW, Nat.le_refl _, Nat.le_refl _, V0, ⟨_, heap_alloc_new _ _, rfl, fun i hi => ?_⟩, fun _ _ => rfl⟩
    rw [hV0]
    have : i = 0 ∨ i = 1 ∨ i = 2 := by omega
    rcases this with e | e | e <;> subst e <;> rfl
  have one : ∀ B : Nat → Nat, ∀ i, i < s → ((fun i => Value.slice (some ⟨B i, 0, none⟩) l l) i).oneCell' = true := fun B i _ => rfl
  obtain ⟨w1, g1, C1, hr1, l1⟩ := l0.app h.prev.prev.prev.prev.prev.prev.prev.ob.list (one Ba) (by omega)
  obtain ⟨w2, g2, C2, hr2, l2⟩ := l1.app h.prev.prev.prev.prev.prev.prev.ob.list (one Bb) (by omega)
  obtain ⟨w3, g3, C3, hr3, l3⟩ := l2.app h.prev.ob.list (one Bc) (by omega)
  have h3 := h.below l3.bel
  have hv := mem_vs X h3
  obtain ⟨F, hF, hFv⟩ := l3.row
  have hle := l3.le
  have hlo := l3.lo
  have htop := h.ob.hw
  have a1 := h.prev.prev.prev.prev.prev.prev.prev.ob
  refine ⟨w1, g1, C1, w2, g2, C2, w3, g3, C3, hr1, hr2, hr3, h3, hv.mn (fun r hr => ?_) hF.lt (fun x hx => ?_)⟩
  · rw [hF.cell (i := r) (by omega), hFv r hr]
    refine congrArg some (jnx_vals (fun e => jnx_vals (fun e => jnx_vals (fun e => ?_) (fun _ => rfl)) (fun _ => rfl)) (fun _ => rfl))
    rw [hV0]
  · rcases hx with ((hx | ⟨r, hr, rfl⟩) | hx) | hx
    · omega
    · have := (a1.row r hr).1; have := (a1.row r hr).2.1; omega
    · omega
    · omega
/-- what is left when the lists were written over. -/
structure En16 (X0 : World) (n l s : Nat) (D : Nat → Nat) (gw Cw gt Ct ga : Nat) (Ba : Nat → Nat) (W : World) : Prop where
  bel : Below X0.heap.size X0 W
  wh : Rb W (.slice (some ⟨gw, 0, none⟩) (n + 8) Cw) (n + 8) (fw16 n (tr16 D))
  tu : Rb W (.slice (some ⟨gt, 0, none⟩) (n + 8) Ct) (n + 8) (fw16 n (tr16 D))
  lo : X0.heap.size ≤ ga
  list : W.rowIs ga 24 s (fun i => .slice (some ⟨Ba i, 0, none⟩) l l)
theorem mem_apart (X : Fx16 f K M n l s) (h : Sm11 X0 n l s D (fw16 n (tr16 D)) (ta16 l n D K 0) t1 gw Cw t2 ge Ce t3 u3 t4 ga Ba t5 gb Bb t6 gx t7 gy t8 gt Ct t9 u9 t10 gc Bc t11 gz W) {lb C3 : Nat} (hM : ∃ F, Mn W X0.heap.size lb (3 + s + s + s) (bAll s gx gy gz Ba Bb Bc) (lAll s n l) (lAll s n l) F) :
    Calls Try.prog 18 #[.slice (some ⟨lb, 0, none⟩) (3 + s + s + s) C3] W fun e w' => e = .returned (.bool true) ∧ En16 X0 n l s D gw Cw gt Ct ga Ba w' := by
  have hs : 0 < s := by have := X.hs; have := X.k1; omega
  obtain ⟨q1, q2, q3, q4, q5, q6, q7, q8, q9, q10, q11⟩ := h.ord hs
  have hs3 : s ≤ 80 := by have := X.hs; have := X.k2; have := X.m2; omega
  obtain ⟨F, hM⟩ := hM
  have hbel := h.prev.prev.prev.prev.prev.prev.prev.prev.prev.prev.bel
  refine (apart16 _ _ _ _ _ _ _ _ W (by omega) hbel.size hM).mono fun e w' ⟨he, hB⟩ => ⟨he, ?_⟩
  have hv := mem_vs X h
  have a1 := h.prev.prev.prev.prev.prev.prev.prev.ob
  have hout : ∀ x, ¬ pAll s t4 t5 t6 t7 t9 t10 t11 Ba x → ∀ r, r < 3 + s + s + s → bAll s gx gy gz Ba Bb Bc r ≠ x := fun x hx r hr e => hx (e ▸ hv.mem r hr)
  have ha : ∀ x, (∃ r, r < s ∧ x = Ba r) → t3 ≤ x ∧ x < t4 := fun x ⟨r, hr, e⟩ => by rw [e]; exact ⟨(a1.row r hr).1, (a1.row r hr).2.1⟩
  have hw1 := h.prev.prev.prev.prev.prev.prev.prev.prev.prev.prev.ob
  have hw8 := h.prev.prev.prev.ob
  have e1 := hw1.glo; have e2 := hw1.ghi; have e3 := hw8.glo; have e4 := hw8.ghi; have e5 := a1.glo; have e6 := a1.ghi; have e7 := h.ob.hw
  have k : Ke (fun x => pAll s t4 t5 t6 t7 t9 t10 t11 Ba x) W w' := ⟨hB.1.mono (Nat.zero_le _), fun x hx hn => hB.2 x hx (hout x hn)⟩
  have n1 : ∀ x, x < t3 → ¬ pAll s t4 t5 t6 t7 t9 t10 t11 Ba x := fun x hx hp => by
    rcases hp with ((hx | hx) | hx) | hx
    · omega
    · have := ha x hx; omega
    · omega
    · omega
  have n2 : ∀ x, t7 ≤ x → x < t8 → ¬ pAll s t4 t5 t6 t7 t9 t10 t11 Ba x := fun x h1 h2 hp => by
    rcases hp with ((hx | hx) | hx) | hx
    · omega
    · have := ha x hx; omega
    · omega
    · omega
  have n3 : ¬ pAll s t4 t5 t6 t7 t9 t10 t11 Ba ga := fun hp => by
    rcases hp with ((hx | ⟨r, hr, e⟩) | hx) | hx
    · omega
    · exact (a1.row r hr).2.2.1 e.symm
    · omega
    · omega
  exact ⟨hbel.trans hB.1, (hw1.keep k (fun x h1 h2 => n1 x (by omega))).rb (Nat.le_refl _), (hw8.keep k (fun x h1 h2 => n2 x h1 h2)).rb (Nat.le_refl _), by omega, a1.list.of_block (k.2 ga a1.list.lt n3)⟩
theorem ckEw (h : En16 X0 n l s D gw Cw gt Ct ga Ba W) : Calls Try.prog 12 #[.slice (some ⟨gw, 0, none⟩) (n + 8) Cw, .slice (some ⟨gt, 0, none⟩) (n + 8) Ct] W fun e w' => e = .returned (.bool true) ∧ En16 X0 n l s D gw Cw gt Ct ga Ba w' :=
  (sb16_true _ _ (n + 8) _ _ W h.wh h.tu (fun _ _ => rfl)).mono fun e w' ⟨h1, m, h2⟩ => ⟨h1, by rw [h2]; exact ⟨below_drewN h.bel m, h.wh.drewN m, h.tu.drewN m, h.lo, h.list.of_block rfl⟩⟩
/-- the lengths when the first list is gone. -/
def nz16 (l : Nat) (i : Nat) : Nat := if i = 0 then 0 else l
/-- the last part. -/
structure Eo16 (X0 : World) (l s ga : Nat) (W : World) : Prop where
  bel : Below X0.heap.size X0 W
  ln : Ln W (.slice (some ⟨ga, 0, none⟩) s s) s (nz16 l)
theorem En16.nil (X : Fx16 f K M n l s) (h : En16 X0 n l s D gw Cw gt Ct ga Ba W) : Eo16 X0 l s ga (W.setCell ⟨ga, 0, none⟩ (.slice none 0 0)) := by
  have hs3 : s ≤ 80 := by have := X.hs; have := X.k2; have := X.m2; omega
  have hl := X.l2
  have hr := h.list.set 0 (.slice none 0 0)
  refine ⟨h.bel.setCell h.lo _, by omega, fun i hi => ?_, _, _, rfl, Nat.le_refl _, X.sb, fun _ => ⟨ga, 0, rfl, hr.lt, fun i hi => ?_⟩⟩
  · unfold nz16 big
    split <;> omega
  · rw [Nat.zero_add, hr.cell hi]
    unfold nz16
    by_cases e : i = 0
    · exact ⟨_, _, by rw [if_pos e, if_pos e]⟩
    · exact ⟨_, _, by rw [if_neg e, if_neg e]⟩
theorem nz_ems (l : Nat) (hl : 1 ≤ l) : ∀ t, ems (emp (nz16 l)) (t + 1) = [0]
  | 0 => rfl
  | t + 1 => by
    rw [ems_no, nz_ems l hl t]
    show (nz16 l (t + 1) == 0) = false
    unfold nz16
    rw [if_neg (by omega)]
    simp
    omega
theorem nz_scf (l : Nat) (hl : 1 ≤ l) : ∀ t, scf (some 0) (nz16 l) (t + 2) = some l
  | 0 => by
    have h1 : scf (some 0) (nz16 l) 1 = some 0 := scf_zero rfl rfl
    exact scf_good (n := nz16 l) h1 (by show l ≠ 0; omega) (.inl rfl)
  | t + 1 => scf_good (n := nz16 l) (nz_scf l hl t) (by show l ≠ 0; omega) (.inr rfl)
/-- an asked list of ints: one nought. -/
structure Oi16 (lo : Nat) (W : World) (g C : Nat) : Prop where
  lo : lo ≤ g
  le : 1 ≤ C
  row : ∃ F, Ri W g C F ∧ F 0 = 0
theorem mem_partial (X : Fx16 f K M n l s) (h : Eo16 X0 l s ga W) : Calls Try.prog 13 #[.int .i64 f, .int .i64 (K : Int), .int .i64 (M : Int), .slice (some ⟨ga, 0, none⟩) s s] W fun e w' => ∃ g C, e = .returned (.tuple #[.int .i64 (plv16 f K M s (nz16 l)), .slice (some ⟨g, 0, none⟩) 1 C, .int .i64 (ple f K M s (nz16 l))]) ∧ Eo16 X0 l s ga w' ∧ Below W.heap.size W w' ∧ Oi16 W.heap.size w' g C := by
  have hl1 := X.l1
  have hm := X.m1
  have hk := X.k1
  have hs := X.hs
  obtain ⟨t, ht⟩ : ∃ t, s = t + 2 := ⟨s - 2, by omega⟩
  have he : ems (emp (nz16 l)) s = [0] := by rw [ht]; exact nz_ems l hl1 (t + 1)
  have hsc : scf (some 0) (nz16 l) s = some l := by rw [ht]; exact nz_scf l hl1 t
  have ho : ¬ (f = 2 ∧ l % 2 = 1) := fun e => by have := X.ev e.1; omega
  have ep : ple f K M s (nz16 l) = 0 := by
    unfold ple
    rw [if_pos X.p, if_pos (by omega), he, if_neg (by show ¬ 1 = s; omega), hsc, ole_even ho, if_pos rfl, if_neg (by show ¬ (M : Int) < ((1 : Nat) : Int); omega)]
  have el : pll f K M s (nz16 l) = 1 := by unfold pll; rw [ep, if_pos rfl, he]; rfl
  have ez : emz (emp (nz16 l)) s 0 = 0 := by unfold emz; rw [he]; rfl
  refine (partial16 f K M _ s _ W X.i64 h.ln).mono fun e w' hr => ?_
  rw [el] at hr
  obtain ⟨u, rfl, hb, hb2, hg⟩ := hr
  rcases hg with ⟨hg, -⟩ | ⟨g, C, F, rfl, hC, hlo, hR, hF⟩
  · cases hg
  · exact ⟨g, C, rfl, ⟨bthen16 h.bel hb, h.ln.below hb⟩, hb, hlo, hC, F, hR, by rw [hF 0 (by decide), ez]⟩
end
/-- the same, whatever room its block has. -/
structure Oj16 (W : World) (g C : Nat) : Prop where
  le : 1 ≤ C
  cb : C ≤ big
  row : ∃ N F, Ri W g N F ∧ 1 ≤ N ∧ F 0 = 0
theorem Oi16.oj {lo g C : Nat} {W : World} (h : Oi16 lo W g C) : Oj16 W g C := by
  obtain ⟨F, hR, hF⟩ := h.row
  exact ⟨h.le, hR.1, C, F, hR, h.le, hF⟩
theorem Oi16.ke {lo g C : Nat} {W W' : World} {E : Nat → Prop} (h : Oi16 lo W g C) (hk : Ke E W W') (hn : ¬ E g) : Oi16 lo W' g C := by
  obtain ⟨F, hR, hF⟩ := h.row
  exact ⟨h.lo, h.le, F, hR.ke hk hn, hF⟩
theorem Oi16.below {lo g C : Nat} {W W' : World} (h : Oi16 lo W g C) (hb : Below W.heap.size W W') : Oi16 lo W' g C := h.ke (ke_below hb (fun _ => False)) (fun e => e)
theorem Oj16.ke {g C : Nat} {W W' : World} {E : Nat → Prop} (h : Oj16 W g C) (hk : Ke E W W') (hn : ¬ E g) : Oj16 W' g C := by
  obtain ⟨N, F, hR, h1, hF⟩ := h.row
  exact ⟨h.le, h.cb, N, F, hR.ke hk hn, h1, hF⟩
theorem Oj16.qi {g C : Nat} {W : World} (h : Oj16 W g C) : Qi W (.slice (some ⟨g, 0, none⟩) 1 C) 1 (fun _ => 0) := by
  obtain ⟨N, F, hR, h1, hF⟩ := h.row
  exact hR.qi h1 h.le h.cb (fun i hi => by obtain rfl : i = 0 := by omega
                                           exact hF)
theorem Oi16.lt {lo g C : Nat} {W : World} (h : Oi16 lo W g C) : g < W.heap.size := by
  obtain ⟨F, hR, hF⟩ := h.row
  exact hR.lt
/-- four equal ints behind a list of one. -/
theorem app_four {W : World} {lo g C : Nat} (h : Oi16 lo W g C) (v : Int) : ∃ w' g' C', (Builtin.append_ #[41, 41] 41 #[.slice (some ⟨g, 0, none⟩) 1 C, .slice (some ⟨W.heap.size, 0, none⟩) 4 4]).run Try.prog (W.alloc (.cells #[.int .i64 v, .int .i64 v, .int .i64 v, .int .i64 v] 3)) = .ok (.slice (some ⟨g', 0, none⟩) 5 C') w' ∧
    Oj16 w' g C ∧ (g' = g ∨ W.heap.size ≤ g') ∧ (∃ G, Ri w' g' C' G ∧ G 4 = v ∧ 5 ≤ C') ∧ Ke (fun x => x = g) W w' := by
  obtain ⟨F, hR, hF⟩ := h.row
  have hle := h.le
  obtain ⟨W1, hW1⟩ : ∃ x, x = W.alloc (.cells #[.int .i64 v, .int .i64 v, .int .i64 v, .int .i64 v] 3) := ⟨_, rfl⟩
  have hb : Below W.heap.size W W1 := by rw [hW1]; exact balloc16 _ _
  have hsz : W1.heap.size = W.heap.size + 1 := by rw [hW1]; simp
  have hc : ∀ i, i < 4 → W1.cell? ⟨W.heap.size, 0 + i, none⟩ = some (.int .i64 ((fun _ => v) i)) := fun i hi => by
    rw [hW1, cell_of_row _ W.heap.size (0 + i) _ _ _ (heap_alloc_new _ _)]
    have : i = 0 ∨ i = 1 ∨ i = 2 ∨ i = 3 := by omega
    rcases this with e | e | e | e <;> subst e <;> rfl
  have hgl := hR.lt
  obtain ⟨w', g', C', G, hrun, hC, hG, hG1, hG2, hcase⟩ := appi W1 (hR.below hb) hle (x := some ⟨W.heap.size, 0, none⟩) (n := 4) (cx := 4) (S := fun _ => v) (fun _ => ⟨_, _, rfl, hc⟩) (by omega)
  rw [hW1] at hrun
  have hG4 : G 4 = v := hG2 3 (by decide)
  have h5 : 5 ≤ C' := hC
  rcases hcase with ⟨e, ho⟩ | ⟨e, -, ho⟩
  · subst e
    exact ⟨w', g', C', hrun, ⟨hle, hR.1, C', G, hG, by omega, by rw [hG1 0 (by decide)]; exact hF⟩, .inl rfl, ⟨G, hG, hG4, h5⟩, (ke_below hb _).trans ho.kp.ke⟩
  · have hb2 : Below W.heap.size W w' := bthen16 hb ho
    exact ⟨w', g', C', hrun, ⟨hle, hR.1, C, F, hR.below hb2, hle, hF⟩, .inr (by omega), ⟨G, hG, hG4, h5⟩, ke_below hb2 _⟩
/-- the end: both lists grown, each for itself. -/
theorem mem_end {X0 W : World} {lo lo' g C g2 C2 : Nat} (hb : Below X0.heap.size X0 W) (h : Oi16 lo W g C) (h2 : Oi16 lo' W g2 C2) (h0 : X0.heap.size ≤ lo) (h1 : g < lo') :
    ∃ w1 a A w2 b B, (Builtin.append_ #[41, 41] 41 #[.slice (some ⟨g, 0, none⟩) 1 C, .slice (some ⟨W.heap.size, 0, none⟩) 4 4]).run Try.prog (W.alloc (.cells #[.int .i64 7, .int .i64 7, .int .i64 7, .int .i64 7] 3)) = .ok (.slice (some ⟨a, 0, none⟩) 5 A) w1 ∧
      (Builtin.append_ #[41, 41] 41 #[.slice (some ⟨g2, 0, none⟩) 1 C2, .slice (some ⟨w1.heap.size, 0, none⟩) 4 4]).run Try.prog (w1.alloc (.cells #[.int .i64 9, .int .i64 9, .int .i64 9, .int .i64 9] 3)) = .ok (.slice (some ⟨b, 0, none⟩) 5 B) w2 ∧
      Below X0.heap.size X0 w2 ∧ Qi w2 (.slice (some ⟨g, 0, none⟩) 1 C) 1 (fun _ => 0) ∧ Qi w2 (.slice (some ⟨g2, 0, none⟩) 1 C2) 1 (fun _ => 0) ∧ w2.cell? ⟨a, 4, none⟩ = some (.int .i64 7) ∧ w2.cell? ⟨b, 4, none⟩ = some (.int .i64 9) := by
  obtain ⟨w1, a, A, r1, o1, ca, ⟨G, hG, hG4, hA⟩, k1⟩ := app_four h 7
  have e1 := h.lo
  have e2 := h2.lo
  have e3 := h2.lt
  have e4 := h.lt
  have h2' := h2.ke k1 (fun e => by omega)
  obtain ⟨w2, b, B, r2, o2, cb, ⟨H, hH, hH4, hB⟩, k2⟩ := app_four h2' 9
  have hx := hb.size
  have hb1 : Below X0.heap.size X0 w1 := hb.trans (k1.below (fun x e => by omega) hb.size)
  have hb2 : Below X0.heap.size X0 w2 := hb1.trans (k2.below (fun x e => by omega) hb1.size)
  refine ⟨w1, a, A, w2, b, B, r1, r2, hb2, (o1.ke k2 (fun e => by omega)).qi, o2.qi, ?_, ?_⟩
  · have := (hG.ke k2 (fun e => by omega)).2.2.cell (i := 4) (by omega)
    rw [hG4] at this; exact this
  · have := hH.2.2.cell (i := 4) (by omega)
    rw [hH4] at this; exact this
end Go.Proofs.Ytldacjpkblffbab
