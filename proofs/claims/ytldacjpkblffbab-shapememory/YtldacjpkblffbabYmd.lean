import Derived.Test.YtldacjpkblffbabYmc
namespace Go.Proofs.Ytldacjpkblffbab
open Go.RowKit Gf2
set_option linter.unusedVariables false

-- layer 16: ShapeMemory's states and calls (laid by wip/genymd.py)
def fw16 (n : Nat) (D : Nat → Nat) (i : Nat) : Nat := if i < n then D i else 201 + (i - n)
def tr16 (D : Nat → Nat) (i : Nat) : Nat := (D i * 3 + 1) % 256
def tw16 (n : Nat) (D : Nat → Nat) (i j : Nat) : Nat := if j < i then tr16 D j else fw16 n D j
def ta16 (l n : Nat) (D : Nat → Nat) (i j r x : Nat) : Nat := if r < i ∨ (r = i ∧ x < j) then spl l n (tr16 D) r x else spl l n D r x
theorem fw16_lo {n : Nat} {D : Nat → Nat} {i : Nat} (h : i < n) : fw16 n D i = D i := if_pos h
theorem tw16_all {n : Nat} {D : Nat → Nat} (j : Nat) : tw16 n D n j = fw16 n (tr16 D) j := by
  unfold tw16 fw16
  split <;> rfl
theorem tw16_none {n : Nat} {D : Nat → Nat} (j : Nat) : fw16 n D j = tw16 n D 0 j := by
  unfold tw16
  rw [if_neg (Nat.not_lt_zero _)]
theorem tw16_next {n : Nat} {D : Nat → Nat} {i : Nat} (j : Nat) : (if j = i then tr16 D i else tw16 n D i j) = tw16 n D (i + 1) j := by
  unfold tw16
  by_cases e : j = i
  · subst e; rw [if_pos rfl, if_pos (Nat.lt_succ_self _)]
  · rw [if_neg e]
    by_cases e2 : j < i
    · rw [if_pos e2, if_pos (by omega)]
    · rw [if_neg e2, if_neg (by omega)]
theorem ta16_none {l n : Nat} {D : Nat → Nat} (r x : Nat) : spl l n D r x = ta16 l n D 0 0 r x := by
  unfold ta16
  rw [if_neg (by omega)]
theorem ta16_step {l n : Nat} {D : Nat → Nat} {i j : Nat} (r x : Nat) : (if r = i ∧ x = j then spl l n (tr16 D) i j else ta16 l n D i j r x) = ta16 l n D i (j + 1) r x := by
  unfold ta16
  by_cases e : r = i ∧ x = j
  · rw [if_pos e, if_pos (by omega), e.1, e.2]
  · rw [if_neg e]
    by_cases e2 : r < i ∨ (r = i ∧ x < j)
    · rw [if_pos e2, if_pos (by omega)]
    · rw [if_neg e2, if_neg (by omega)]
theorem ta16_next {l n : Nat} {D : Nat → Nat} {i : Nat} {r x : Nat} (hx : x < l) : ta16 l n D i l r x = ta16 l n D (i + 1) 0 r x := by
  unfold ta16
  by_cases e : r < i ∨ (r = i ∧ x < l)
  · rw [if_pos e, if_pos (by omega)]
  · rw [if_neg e, if_neg (by omega)]
theorem tr16_lt (D : Nat → Nat) (i : Nat) : tr16 D i < 256 := Nat.mod_lt _ (by decide)
theorem mem_jnb {l n : Nat} {D : Nat → Nat} {i : Nat} (h : i < n) : jnb l (spl l n D) i = D i := by
  unfold jnb spl
  rw [Nat.mul_comm, Nat.div_add_mod, if_pos h]
theorem mem_jnb2 {K l n : Nat} {D : Nat → Nat} {i : Nat} (h : i < n) (hl : 1 ≤ l) (hn : n ≤ K * l) : jnb l (ta16 l n D K 0) i = tr16 D i := by
  rw [← mem_jnb (l := l) (D := tr16 D) h]
  unfold jnb ta16
  rw [if_pos (.inl ((Nat.div_lt_iff_lt_mul hl).2 (by omega)))]
structure Sm1 (X0 : World) (n l s : Nat) (D Fw : Nat → Nat) (Sa : Nat → Nat → Nat) (t1 : Nat) (gw : Nat) (Cw : Nat) (W : World) : Prop where
  bel : Below X0.heap.size X0 W
  ob : Qb16 X0.heap.size t1 W gw (n + 8) Cw Fw
structure Sm2 (X0 : World) (n l s : Nat) (D Fw : Nat → Nat) (Sa : Nat → Nat → Nat) (t1 : Nat) (gw : Nat) (Cw : Nat) (t2 : Nat) (ge : Nat) (Ce : Nat) (W : World) : Prop where
  prev : Sm1 X0 n l s D Fw Sa t1 gw Cw W
  ob : Qb16 t1 t2 W ge (n + 8) Ce (fw16 n D)
structure Sm3 (X0 : World) (n l s : Nat) (D Fw : Nat → Nat) (Sa : Nat → Nat → Nat) (t1 : Nat) (gw : Nat) (Cw : Nat) (t2 : Nat) (ge : Nat) (Ce : Nat) (t3 : Nat) (u3 : Value) (W : World) : Prop where
  prev : Sm2 X0 n l s D Fw Sa t1 gw Cw t2 ge Ce W
  ob : Qw16 t2 t3 W u3 s l (spl l n D)
structure Sm4 (X0 : World) (n l s : Nat) (D Fw : Nat → Nat) (Sa : Nat → Nat → Nat) (t1 : Nat) (gw : Nat) (Cw : Nat) (t2 : Nat) (ge : Nat) (Ce : Nat) (t3 : Nat) (u3 : Value) (t4 : Nat) (ga : Nat) (Ba : Nat → Nat) (W : World) : Prop where
  prev : Sm3 X0 n l s D Fw Sa t1 gw Cw t2 ge Ce t3 u3 W
  ob : Qs16 t3 t4 W ga s l Ba Sa
structure Sm5 (X0 : World) (n l s : Nat) (D Fw : Nat → Nat) (Sa : Nat → Nat → Nat) (t1 : Nat) (gw : Nat) (Cw : Nat) (t2 : Nat) (ge : Nat) (Ce : Nat) (t3 : Nat) (u3 : Value) (t4 : Nat) (ga : Nat) (Ba : Nat → Nat) (t5 : Nat) (gb : Nat) (Bb : Nat → Nat) (W : World) : Prop where
  prev : Sm4 X0 n l s D Fw Sa t1 gw Cw t2 ge Ce t3 u3 t4 ga Ba W
  ob : Qs16 t4 t5 W gb s l Bb (spl l n D)
structure Sm6 (X0 : World) (n l s : Nat) (D Fw : Nat → Nat) (Sa : Nat → Nat → Nat) (t1 : Nat) (gw : Nat) (Cw : Nat) (t2 : Nat) (ge : Nat) (Ce : Nat) (t3 : Nat) (u3 : Value) (t4 : Nat) (ga : Nat) (Ba : Nat → Nat) (t5 : Nat) (gb : Nat) (Bb : Nat → Nat) (t6 : Nat) (gx : Nat) (W : World) : Prop where
  prev : Sm5 X0 n l s D Fw Sa t1 gw Cw t2 ge Ce t3 u3 t4 ga Ba t5 gb Bb W
  ob : Qb16 t5 t6 W gx n n D
structure Sm7 (X0 : World) (n l s : Nat) (D Fw : Nat → Nat) (Sa : Nat → Nat → Nat) (t1 : Nat) (gw : Nat) (Cw : Nat) (t2 : Nat) (ge : Nat) (Ce : Nat) (t3 : Nat) (u3 : Value) (t4 : Nat) (ga : Nat) (Ba : Nat → Nat) (t5 : Nat) (gb : Nat) (Bb : Nat → Nat) (t6 : Nat) (gx : Nat) (t7 : Nat) (gy : Nat) (W : World) : Prop where
  prev : Sm6 X0 n l s D Fw Sa t1 gw Cw t2 ge Ce t3 u3 t4 ga Ba t5 gb Bb t6 gx W
  ob : Qb16 t6 t7 W gy n n D
structure Sm8 (X0 : World) (n l s : Nat) (D Fw : Nat → Nat) (Sa : Nat → Nat → Nat) (t1 : Nat) (gw : Nat) (Cw : Nat) (t2 : Nat) (ge : Nat) (Ce : Nat) (t3 : Nat) (u3 : Value) (t4 : Nat) (ga : Nat) (Ba : Nat → Nat) (t5 : Nat) (gb : Nat) (Bb : Nat → Nat) (t6 : Nat) (gx : Nat) (t7 : Nat) (gy : Nat) (t8 : Nat) (gt : Nat) (Ct : Nat) (W : World) : Prop where
  prev : Sm7 X0 n l s D Fw Sa t1 gw Cw t2 ge Ce t3 u3 t4 ga Ba t5 gb Bb t6 gx t7 gy W
  ob : Qb16 t7 t8 W gt (n + 8) Ct (fw16 n (tr16 D))
structure Sm9 (X0 : World) (n l s : Nat) (D Fw : Nat → Nat) (Sa : Nat → Nat → Nat) (t1 : Nat) (gw : Nat) (Cw : Nat) (t2 : Nat) (ge : Nat) (Ce : Nat) (t3 : Nat) (u3 : Value) (t4 : Nat) (ga : Nat) (Ba : Nat → Nat) (t5 : Nat) (gb : Nat) (Bb : Nat → Nat) (t6 : Nat) (gx : Nat) (t7 : Nat) (gy : Nat) (t8 : Nat) (gt : Nat) (Ct : Nat) (t9 : Nat) (u9 : Value) (W : World) : Prop where
  prev : Sm8 X0 n l s D Fw Sa t1 gw Cw t2 ge Ce t3 u3 t4 ga Ba t5 gb Bb t6 gx t7 gy t8 gt Ct W
  ob : Qw16 t8 t9 W u9 s l (spl l n (tr16 D))
structure Sm10 (X0 : World) (n l s : Nat) (D Fw : Nat → Nat) (Sa : Nat → Nat → Nat) (t1 : Nat) (gw : Nat) (Cw : Nat) (t2 : Nat) (ge : Nat) (Ce : Nat) (t3 : Nat) (u3 : Value) (t4 : Nat) (ga : Nat) (Ba : Nat → Nat) (t5 : Nat) (gb : Nat) (Bb : Nat → Nat) (t6 : Nat) (gx : Nat) (t7 : Nat) (gy : Nat) (t8 : Nat) (gt : Nat) (Ct : Nat) (t9 : Nat) (u9 : Value) (t10 : Nat) (gc : Nat) (Bc : Nat → Nat) (W : World) : Prop where
  prev : Sm9 X0 n l s D Fw Sa t1 gw Cw t2 ge Ce t3 u3 t4 ga Ba t5 gb Bb t6 gx t7 gy t8 gt Ct t9 u9 W
  ob : Qs16 t9 t10 W gc s l Bc (spl l n (tr16 D))
structure Sm11 (X0 : World) (n l s : Nat) (D Fw : Nat → Nat) (Sa : Nat → Nat → Nat) (t1 : Nat) (gw : Nat) (Cw : Nat) (t2 : Nat) (ge : Nat) (Ce : Nat) (t3 : Nat) (u3 : Value) (t4 : Nat) (ga : Nat) (Ba : Nat → Nat) (t5 : Nat) (gb : Nat) (Bb : Nat → Nat) (t6 : Nat) (gx : Nat) (t7 : Nat) (gy : Nat) (t8 : Nat) (gt : Nat) (Ct : Nat) (t9 : Nat) (u9 : Value) (t10 : Nat) (gc : Nat) (Bc : Nat → Nat) (t11 : Nat) (gz : Nat) (W : World) : Prop where
  prev : Sm10 X0 n l s D Fw Sa t1 gw Cw t2 ge Ce t3 u3 t4 ga Ba t5 gb Bb t6 gx t7 gy t8 gt Ct t9 u9 t10 gc Bc W
  ob : Qb16 t10 t11 W gz n n (tr16 D)
section
variable {X0 W W' : World} {f : Int} {K M n l s : Nat} {D Fw Fw' : Nat → Nat} {Sa Sa' : Nat → Nat → Nat} {vD : Value} {t1 : Nat} {gw : Nat} {Cw : Nat} {t2 : Nat} {ge : Nat} {Ce : Nat} {t3 : Nat} {u3 : Value} {t4 : Nat} {ga : Nat} {Ba : Nat → Nat} {t5 : Nat} {gb : Nat} {Bb : Nat → Nat} {t6 : Nat} {gx : Nat} {t7 : Nat} {gy : Nat} {t8 : Nat} {gt : Nat} {Ct : Nat} {t9 : Nat} {u9 : Value} {t10 : Nat} {gc : Nat} {Bc : Nat → Nat} {t11 : Nat} {gz : Nat}
theorem Sm1.below (h : Sm1 X0 n l s D Fw Sa t1 gw Cw W) (hb : Below W.heap.size W W') : Sm1 X0 n l s D Fw Sa t1 gw Cw W' := ⟨bthen16 h.bel hb, h.ob.below hb⟩
theorem Sm1.data (h : Sm1 X0 n l s D Fw Sa t1 gw Cw W) (hD : Rb X0 vD n D) : Rb W vD n D := hD.below h.bel
theorem Sm2.below (h : Sm2 X0 n l s D Fw Sa t1 gw Cw t2 ge Ce W) (hb : Below W.heap.size W W') : Sm2 X0 n l s D Fw Sa t1 gw Cw t2 ge Ce W' := ⟨h.prev.below hb, h.ob.below hb⟩
theorem Sm2.data (h : Sm2 X0 n l s D Fw Sa t1 gw Cw t2 ge Ce W) (hD : Rb X0 vD n D) : Rb W vD n D := hD.below h.prev.bel
theorem Sm2.ord (h : Sm2 X0 n l s D Fw Sa t1 gw Cw t2 ge Ce W) (hs : 0 < s) : X0.heap.size < t1 ∧ t1 < t2 := ⟨Nat.lt_of_le_of_lt h.prev.ob.glo h.prev.ob.ghi, Nat.lt_of_le_of_lt h.ob.glo h.ob.ghi⟩
theorem Sm3.below (h : Sm3 X0 n l s D Fw Sa t1 gw Cw t2 ge Ce t3 u3 W) (hb : Below W.heap.size W W') : Sm3 X0 n l s D Fw Sa t1 gw Cw t2 ge Ce t3 u3 W' := ⟨h.prev.below hb, h.ob.below hb⟩
theorem Sm3.data (h : Sm3 X0 n l s D Fw Sa t1 gw Cw t2 ge Ce t3 u3 W) (hD : Rb X0 vD n D) : Rb W vD n D := hD.below h.prev.prev.bel
theorem Sm3.ord (h : Sm3 X0 n l s D Fw Sa t1 gw Cw t2 ge Ce t3 u3 W) (hs : 0 < s) : X0.heap.size < t1 ∧ t1 < t2 ∧ t2 < t3 := ⟨Nat.lt_of_le_of_lt h.prev.prev.ob.glo h.prev.prev.ob.ghi, Nat.lt_of_le_of_lt h.prev.ob.glo h.prev.ob.ghi, h.ob.lt hs⟩
theorem Sm4.below (h : Sm4 X0 n l s D Fw Sa t1 gw Cw t2 ge Ce t3 u3 t4 ga Ba W) (hb : Below W.heap.size W W') : Sm4 X0 n l s D Fw Sa t1 gw Cw t2 ge Ce t3 u3 t4 ga Ba W' := ⟨h.prev.below hb, h.ob.below hb⟩
theorem Sm4.data (h : Sm4 X0 n l s D Fw Sa t1 gw Cw t2 ge Ce t3 u3 t4 ga Ba W) (hD : Rb X0 vD n D) : Rb W vD n D := hD.below h.prev.prev.prev.bel
theorem Sm4.ord (h : Sm4 X0 n l s D Fw Sa t1 gw Cw t2 ge Ce t3 u3 t4 ga Ba W) (hs : 0 < s) : X0.heap.size < t1 ∧ t1 < t2 ∧ t2 < t3 ∧ t3 < t4 := ⟨Nat.lt_of_le_of_lt h.prev.prev.prev.ob.glo h.prev.prev.prev.ob.ghi, Nat.lt_of_le_of_lt h.prev.prev.ob.glo h.prev.prev.ob.ghi, h.prev.ob.lt hs, Nat.lt_of_le_of_lt h.ob.glo h.ob.ghi⟩
theorem Sm5.below (h : Sm5 X0 n l s D Fw Sa t1 gw Cw t2 ge Ce t3 u3 t4 ga Ba t5 gb Bb W) (hb : Below W.heap.size W W') : Sm5 X0 n l s D Fw Sa t1 gw Cw t2 ge Ce t3 u3 t4 ga Ba t5 gb Bb W' := ⟨h.prev.below hb, h.ob.below hb⟩
theorem Sm5.data (h : Sm5 X0 n l s D Fw Sa t1 gw Cw t2 ge Ce t3 u3 t4 ga Ba t5 gb Bb W) (hD : Rb X0 vD n D) : Rb W vD n D := hD.below h.prev.prev.prev.prev.bel
theorem Sm5.ord (h : Sm5 X0 n l s D Fw Sa t1 gw Cw t2 ge Ce t3 u3 t4 ga Ba t5 gb Bb W) (hs : 0 < s) : X0.heap.size < t1 ∧ t1 < t2 ∧ t2 < t3 ∧ t3 < t4 ∧ t4 < t5 := ⟨Nat.lt_of_le_of_lt h.prev.prev.prev.prev.ob.glo h.prev.prev.prev.prev.ob.ghi, Nat.lt_of_le_of_lt h.prev.prev.prev.ob.glo h.prev.prev.prev.ob.ghi, h.prev.prev.ob.lt hs, Nat.lt_of_le_of_lt h.prev.ob.glo h.prev.ob.ghi, Nat.lt_of_le_of_lt h.ob.glo h.ob.ghi⟩
theorem Sm6.below (h : Sm6 X0 n l s D Fw Sa t1 gw Cw t2 ge Ce t3 u3 t4 ga Ba t5 gb Bb t6 gx W) (hb : Below W.heap.size W W') : Sm6 X0 n l s D Fw Sa t1 gw Cw t2 ge Ce t3 u3 t4 ga Ba t5 gb Bb t6 gx W' := ⟨h.prev.below hb, h.ob.below hb⟩
theorem Sm6.data (h : Sm6 X0 n l s D Fw Sa t1 gw Cw t2 ge Ce t3 u3 t4 ga Ba t5 gb Bb t6 gx W) (hD : Rb X0 vD n D) : Rb W vD n D := hD.below h.prev.prev.prev.prev.prev.bel
theorem Sm6.ord (h : Sm6 X0 n l s D Fw Sa t1 gw Cw t2 ge Ce t3 u3 t4 ga Ba t5 gb Bb t6 gx W) (hs : 0 < s) : X0.heap.size < t1 ∧ t1 < t2 ∧ t2 < t3 ∧ t3 < t4 ∧ t4 < t5 ∧ t5 < t6 := ⟨Nat.lt_of_le_of_lt h.prev.prev.prev.prev.prev.ob.glo h.prev.prev.prev.prev.prev.ob.ghi, Nat.lt_of_le_of_lt h.prev.prev.prev.prev.ob.glo h.prev.prev.prev.prev.ob.ghi, h.prev.prev.prev.ob.lt hs, Nat.lt_of_le_of_lt h.prev.prev.ob.glo h.prev.prev.ob.ghi, Nat.lt_of_le_of_lt h.prev.ob.glo h.prev.ob.ghi, Nat.lt_of_le_of_lt h.ob.glo h.ob.ghi⟩
theorem Sm7.below (h : Sm7 X0 n l s D Fw Sa t1 gw Cw t2 ge Ce t3 u3 t4 ga Ba t5 gb Bb t6 gx t7 gy W) (hb : Below W.heap.size W W') : Sm7 X0 n l s D Fw Sa t1 gw Cw t2 ge Ce t3 u3 t4 ga Ba t5 gb Bb t6 gx t7 gy W' := ⟨h.prev.below hb, h.ob.below hb⟩
theorem Sm7.data (h : Sm7 X0 n l s D Fw Sa t1 gw Cw t2 ge Ce t3 u3 t4 ga Ba t5 gb Bb t6 gx t7 gy W) (hD : Rb X0 vD n D) : Rb W vD n D := hD.below h.prev.prev.prev.prev.prev.prev.bel
theorem Sm7.ord (h : Sm7 X0 n l s D Fw Sa t1 gw Cw t2 ge Ce t3 u3 t4 ga Ba t5 gb Bb t6 gx t7 gy W) (hs : 0 < s) : X0.heap.size < t1 ∧ t1 < t2 ∧ t2 < t3 ∧ t3 < t4 ∧ t4 < t5 ∧ t5 < t6 ∧ t6 < t7 := ⟨Nat.lt_of_le_of_lt h.prev.prev.prev.prev.prev.prev.ob.glo h.prev.prev.prev.prev.prev.prev.ob.ghi, Nat.lt_of_le_of_lt h.prev.prev.prev.prev.prev.ob.glo h.prev.prev.prev.prev.prev.ob.ghi, h.prev.prev.prev.prev.ob.lt hs, Nat.lt_of_le_of_lt h.prev.prev.prev.ob.glo h.prev.prev.prev.ob.ghi, Nat.lt_of_le_of_lt h.prev.prev.ob.glo h.prev.prev.ob.ghi, Nat.lt_of_le_of_lt h.prev.ob.glo h.prev.ob.ghi, Nat.lt_of_le_of_lt h.ob.glo h.ob.ghi⟩
theorem Sm8.below (h : Sm8 X0 n l s D Fw Sa t1 gw Cw t2 ge Ce t3 u3 t4 ga Ba t5 gb Bb t6 gx t7 gy t8 gt Ct W) (hb : Below W.heap.size W W') : Sm8 X0 n l s D Fw Sa t1 gw Cw t2 ge Ce t3 u3 t4 ga Ba t5 gb Bb t6 gx t7 gy t8 gt Ct W' := ⟨h.prev.below hb, h.ob.below hb⟩
theorem Sm8.data (h : Sm8 X0 n l s D Fw Sa t1 gw Cw t2 ge Ce t3 u3 t4 ga Ba t5 gb Bb t6 gx t7 gy t8 gt Ct W) (hD : Rb X0 vD n D) : Rb W vD n D := hD.below h.prev.prev.prev.prev.prev.prev.prev.bel
theorem Sm8.ord (h : Sm8 X0 n l s D Fw Sa t1 gw Cw t2 ge Ce t3 u3 t4 ga Ba t5 gb Bb t6 gx t7 gy t8 gt Ct W) (hs : 0 < s) : X0.heap.size < t1 ∧ t1 < t2 ∧ t2 < t3 ∧ t3 < t4 ∧ t4 < t5 ∧ t5 < t6 ∧ t6 < t7 ∧ t7 < t8 := ⟨Nat.lt_of_le_of_lt h.prev.prev.prev.prev.prev.prev.prev.ob.glo h.prev.prev.prev.prev.prev.prev.prev.ob.ghi, Nat.lt_of_le_of_lt h.prev.prev.prev.prev.prev.prev.ob.glo h.prev.prev.prev.prev.prev.prev.ob.ghi, h.prev.prev.prev.prev.prev.ob.lt hs, Nat.lt_of_le_of_lt h.prev.prev.prev.prev.ob.glo h.prev.prev.prev.prev.ob.ghi, Nat.lt_of_le_of_lt h.prev.prev.prev.ob.glo h.prev.prev.prev.ob.ghi, Nat.lt_of_le_of_lt h.prev.prev.ob.glo h.prev.prev.ob.ghi, Nat.lt_of_le_of_lt h.prev.ob.glo h.prev.ob.ghi, Nat.lt_of_le_of_lt h.ob.glo h.ob.ghi⟩
theorem Sm9.below (h : Sm9 X0 n l s D Fw Sa t1 gw Cw t2 ge Ce t3 u3 t4 ga Ba t5 gb Bb t6 gx t7 gy t8 gt Ct t9 u9 W) (hb : Below W.heap.size W W') : Sm9 X0 n l s D Fw Sa t1 gw Cw t2 ge Ce t3 u3 t4 ga Ba t5 gb Bb t6 gx t7 gy t8 gt Ct t9 u9 W' := ⟨h.prev.below hb, h.ob.below hb⟩
theorem Sm9.data (h : Sm9 X0 n l s D Fw Sa t1 gw Cw t2 ge Ce t3 u3 t4 ga Ba t5 gb Bb t6 gx t7 gy t8 gt Ct t9 u9 W) (hD : Rb X0 vD n D) : Rb W vD n D := hD.below h.prev.prev.prev.prev.prev.prev.prev.prev.bel
theorem Sm9.ord (h : Sm9 X0 n l s D Fw Sa t1 gw Cw t2 ge Ce t3 u3 t4 ga Ba t5 gb Bb t6 gx t7 gy t8 gt Ct t9 u9 W) (hs : 0 < s) : X0.heap.size < t1 ∧ t1 < t2 ∧ t2 < t3 ∧ t3 < t4 ∧ t4 < t5 ∧ t5 < t6 ∧ t6 < t7 ∧ t7 < t8 ∧ t8 < t9 := ⟨Nat.lt_of_le_of_lt h.prev.prev.prev.prev.prev.prev.prev.prev.ob.glo h.prev.prev.prev.prev.prev.prev.prev.prev.ob.ghi, Nat.lt_of_le_of_lt h.prev.prev.prev.prev.prev.prev.prev.ob.glo h.prev.prev.prev.prev.prev.prev.prev.ob.ghi, h.prev.prev.prev.prev.prev.prev.ob.lt hs, Nat.lt_of_le_of_lt h.prev.prev.prev.prev.prev.ob.glo h.prev.prev.prev.prev.prev.ob.ghi, Nat.lt_of_le_of_lt h.prev.prev.prev.prev.ob.glo h.prev.prev.prev.prev.ob.ghi, Nat.lt_of_le_of_lt h.prev.prev.prev.ob.glo h.prev.prev.prev.ob.ghi, Nat.lt_of_le_of_lt h.prev.prev.ob.glo h.prev.prev.ob.ghi, Nat.lt_of_le_of_lt h.prev.ob.glo h.prev.ob.ghi, h.ob.lt hs⟩
theorem Sm10.below (h : Sm10 X0 n l s D Fw Sa t1 gw Cw t2 ge Ce t3 u3 t4 ga Ba t5 gb Bb t6 gx t7 gy t8 gt Ct t9 u9 t10 gc Bc W) (hb : Below W.heap.size W W') : Sm10 X0 n l s D Fw Sa t1 gw Cw t2 ge Ce t3 u3 t4 ga Ba t5 gb Bb t6 gx t7 gy t8 gt Ct t9 u9 t10 gc Bc W' := ⟨h.prev.below hb, h.ob.below hb⟩
theorem Sm10.data (h : Sm10 X0 n l s D Fw Sa t1 gw Cw t2 ge Ce t3 u3 t4 ga Ba t5 gb Bb t6 gx t7 gy t8 gt Ct t9 u9 t10 gc Bc W) (hD : Rb X0 vD n D) : Rb W vD n D := hD.below h.prev.prev.prev.prev.prev.prev.prev.prev.prev.bel
theorem Sm10.ord (h : Sm10 X0 n l s D Fw Sa t1 gw Cw t2 ge Ce t3 u3 t4 ga Ba t5 gb Bb t6 gx t7 gy t8 gt Ct t9 u9 t10 gc Bc W) (hs : 0 < s) : X0.heap.size < t1 ∧ t1 < t2 ∧ t2 < t3 ∧ t3 < t4 ∧ t4 < t5 ∧ t5 < t6 ∧ t6 < t7 ∧ t7 < t8 ∧ t8 < t9 ∧ t9 < t10 := ⟨Nat.lt_of_le_of_lt h.prev.prev.prev.prev.prev.prev.prev.prev.prev.ob.glo h.prev.prev.prev.prev.prev.prev.prev.prev.prev.ob.ghi, Nat.lt_of_le_of_lt h.prev.prev.prev.prev.prev.prev.prev.prev.ob.glo h.prev.prev.prev.prev.prev.prev.prev.prev.ob.ghi, h.prev.prev.prev.prev.prev.prev.prev.ob.lt hs, Nat.lt_of_le_of_lt h.prev.prev.prev.prev.prev.prev.ob.glo h.prev.prev.prev.prev.prev.prev.ob.ghi, Nat.lt_of_le_of_lt h.prev.prev.prev.prev.prev.ob.glo h.prev.prev.prev.prev.prev.ob.ghi, Nat.lt_of_le_of_lt h.prev.prev.prev.prev.ob.glo h.prev.prev.prev.prev.ob.ghi, Nat.lt_of_le_of_lt h.prev.prev.prev.ob.glo h.prev.prev.prev.ob.ghi, Nat.lt_of_le_of_lt h.prev.prev.ob.glo h.prev.prev.ob.ghi, h.prev.ob.lt hs, Nat.lt_of_le_of_lt h.ob.glo h.ob.ghi⟩
theorem Sm11.below (h : Sm11 X0 n l s D Fw Sa t1 gw Cw t2 ge Ce t3 u3 t4 ga Ba t5 gb Bb t6 gx t7 gy t8 gt Ct t9 u9 t10 gc Bc t11 gz W) (hb : Below W.heap.size W W') : Sm11 X0 n l s D Fw Sa t1 gw Cw t2 ge Ce t3 u3 t4 ga Ba t5 gb Bb t6 gx t7 gy t8 gt Ct t9 u9 t10 gc Bc t11 gz W' := ⟨h.prev.below hb, h.ob.below hb⟩
theorem Sm11.data (h : Sm11 X0 n l s D Fw Sa t1 gw Cw t2 ge Ce t3 u3 t4 ga Ba t5 gb Bb t6 gx t7 gy t8 gt Ct t9 u9 t10 gc Bc t11 gz W) (hD : Rb X0 vD n D) : Rb W vD n D := hD.below h.prev.prev.prev.prev.prev.prev.prev.prev.prev.prev.bel
theorem Sm11.ord (h : Sm11 X0 n l s D Fw Sa t1 gw Cw t2 ge Ce t3 u3 t4 ga Ba t5 gb Bb t6 gx t7 gy t8 gt Ct t9 u9 t10 gc Bc t11 gz W) (hs : 0 < s) : X0.heap.size < t1 ∧ t1 < t2 ∧ t2 < t3 ∧ t3 < t4 ∧ t4 < t5 ∧ t5 < t6 ∧ t6 < t7 ∧ t7 < t8 ∧ t8 < t9 ∧ t9 < t10 ∧ t10 < t11 := ⟨Nat.lt_of_le_of_lt h.prev.prev.prev.prev.prev.prev.prev.prev.prev.prev.ob.glo h.prev.prev.prev.prev.prev.prev.prev.prev.prev.prev.ob.ghi, Nat.lt_of_le_of_lt h.prev.prev.prev.prev.prev.prev.prev.prev.prev.ob.glo h.prev.prev.prev.prev.prev.prev.prev.prev.prev.ob.ghi, h.prev.prev.prev.prev.prev.prev.prev.prev.ob.lt hs, Nat.lt_of_le_of_lt h.prev.prev.prev.prev.prev.prev.prev.ob.glo h.prev.prev.prev.prev.prev.prev.prev.ob.ghi, Nat.lt_of_le_of_lt h.prev.prev.prev.prev.prev.prev.ob.glo h.prev.prev.prev.prev.prev.prev.ob.ghi, Nat.lt_of_le_of_lt h.prev.prev.prev.prev.prev.ob.glo h.prev.prev.prev.prev.prev.ob.ghi, Nat.lt_of_le_of_lt h.prev.prev.prev.prev.ob.glo h.prev.prev.prev.prev.ob.ghi, Nat.lt_of_le_of_lt h.prev.prev.prev.ob.glo h.prev.prev.prev.ob.ghi, h.prev.prev.ob.lt hs, Nat.lt_of_le_of_lt h.prev.ob.glo h.prev.ob.ghi, Nat.lt_of_le_of_lt h.ob.glo h.ob.ghi⟩
theorem Sm7.wset (h : Sm7 X0 n l s D Fw Sa t1 gw Cw t2 ge Ce t3 u3 t4 ga Ba t5 gb Bb t6 gx t7 gy W) (hs : 0 < s) (i v : Nat) (hv : v < 256) : Sm7 X0 n l s D (fun j => if j = i then v else Fw j) Sa t1 gw Cw t2 ge Ce t3 u3 t4 ga Ba t5 gb Bb t6 gx t7 gy (W.setCell ⟨gw, i, none⟩ (.int .u8 (v : Nat))) := by
  have k : Ke (fun x => x = gw) W (W.setCell ⟨gw, i, none⟩ (.int .u8 (v : Nat))) := ((Only.refl gw W).setCell i _).kp.ke
  obtain ⟨q1, q2, q3, q4, q5, q6, q7⟩ := h.ord hs
  have g1 := h.prev.prev.prev.prev.prev.prev.ob.glo
  have g2 := h.prev.prev.prev.prev.prev.prev.ob.ghi
  exact ⟨⟨⟨⟨⟨⟨⟨h.prev.prev.prev.prev.prev.prev.bel.setCell g1 _, h.prev.prev.prev.prev.prev.prev.ob.set i v hv⟩, h.prev.prev.prev.prev.prev.ob.keep k (fun x h1 h2 e => by rw [e] at h1 h2; omega)⟩, h.prev.prev.prev.prev.ob.keep k (fun x h1 h2 e => by rw [e] at h1 h2; omega)⟩, h.prev.prev.prev.ob.keep k (fun x h1 h2 e => by rw [e] at h1 h2; omega)⟩, h.prev.prev.ob.keep k (fun x h1 h2 e => by rw [e] at h1 h2; omega)⟩, h.prev.ob.keep k (fun x h1 h2 e => by rw [e] at h1 h2; omega)⟩, h.ob.keep k (fun x h1 h2 e => by rw [e] at h1 h2; omega)⟩
theorem Sm7.cw (h : Sm7 X0 n l s D Fw Sa t1 gw Cw t2 ge Ce t3 u3 t4 ga Ba t5 gb Bb t6 gx t7 gy W) (e : ∀ j, j < n + 8 → Fw j = Fw' j) : Sm7 X0 n l s D Fw' Sa t1 gw Cw t2 ge Ce t3 u3 t4 ga Ba t5 gb Bb t6 gx t7 gy W := ⟨⟨⟨⟨⟨⟨⟨h.prev.prev.prev.prev.prev.prev.bel, h.prev.prev.prev.prev.prev.prev.ob.congr e⟩, h.prev.prev.prev.prev.prev.ob⟩, h.prev.prev.prev.prev.ob⟩, h.prev.prev.prev.ob⟩, h.prev.prev.ob⟩, h.prev.ob⟩, h.ob⟩
theorem Sm10.aset (h : Sm10 X0 n l s D Fw Sa t1 gw Cw t2 ge Ce t3 u3 t4 ga Ba t5 gb Bb t6 gx t7 gy t8 gt Ct t9 u9 t10 gc Bc W) (hs : 0 < s) (i j v : Nat) (hi : i < s) (hv : v < 256) : Sm10 X0 n l s D Fw (fun r x => if r = i ∧ x = j then v else Sa r x) t1 gw Cw t2 ge Ce t3 u3 t4 ga Ba t5 gb Bb t6 gx t7 gy t8 gt Ct t9 u9 t10 gc Bc (W.setCell ⟨Ba i, j, none⟩ (.int .u8 (v : Nat))) := by
  have k : Ke (fun x => x = Ba i) W (W.setCell ⟨Ba i, j, none⟩ (.int .u8 (v : Nat))) := ((Only.refl (Ba i) W).setCell j _).kp.ke
  obtain ⟨q1, q2, q3, q4, q5, q6, q7, q8, q9, q10⟩ := h.ord hs
  have g1 := (h.prev.prev.prev.prev.prev.prev.ob.row i hi).1
  have g2 := (h.prev.prev.prev.prev.prev.prev.ob.row i hi).2.1
  exact ⟨⟨⟨⟨⟨⟨⟨⟨⟨⟨h.prev.prev.prev.prev.prev.prev.prev.prev.prev.bel.setCell (by show _ ≤ Ba i; omega) _, h.prev.prev.prev.prev.prev.prev.prev.prev.prev.ob.keep k (fun x h1 h2 e => by rw [e] at h1 h2; omega)⟩, h.prev.prev.prev.prev.prev.prev.prev.prev.ob.keep k (fun x h1 h2 e => by rw [e] at h1 h2; omega)⟩, h.prev.prev.prev.prev.prev.prev.prev.ob.keep k (fun x h1 h2 e => by rw [e] at h1 h2; omega)⟩, h.prev.prev.prev.prev.prev.prev.ob.set j v hi hv⟩, h.prev.prev.prev.prev.prev.ob.keep k (fun x h1 h2 e => by rw [e] at h1 h2; omega)⟩, h.prev.prev.prev.prev.ob.keep k (fun x h1 h2 e => by rw [e] at h1 h2; omega)⟩, h.prev.prev.prev.ob.keep k (fun x h1 h2 e => by rw [e] at h1 h2; omega)⟩, h.prev.prev.ob.keep k (fun x h1 h2 e => by rw [e] at h1 h2; omega)⟩, h.prev.ob.keep k (fun x h1 h2 e => by rw [e] at h1 h2; omega)⟩, h.ob.keep k (fun x h1 h2 e => by rw [e] at h1 h2; omega)⟩
theorem Sm10.ca (h : Sm10 X0 n l s D Fw Sa t1 gw Cw t2 ge Ce t3 u3 t4 ga Ba t5 gb Bb t6 gx t7 gy t8 gt Ct t9 u9 t10 gc Bc W) (e : ∀ r, r < s → ∀ x, x < l → Sa r x = Sa' r x) : Sm10 X0 n l s D Fw Sa' t1 gw Cw t2 ge Ce t3 u3 t4 ga Ba t5 gb Bb t6 gx t7 gy t8 gt Ct t9 u9 t10 gc Bc W := ⟨⟨⟨⟨⟨⟨⟨⟨⟨⟨h.prev.prev.prev.prev.prev.prev.prev.prev.prev.bel, h.prev.prev.prev.prev.prev.prev.prev.prev.prev.ob⟩, h.prev.prev.prev.prev.prev.prev.prev.prev.ob⟩, h.prev.prev.prev.prev.prev.prev.prev.ob⟩, h.prev.prev.prev.prev.prev.prev.ob.congr e⟩, h.prev.prev.prev.prev.prev.ob⟩, h.prev.prev.prev.prev.ob⟩, h.prev.prev.prev.ob⟩, h.prev.prev.ob⟩, h.prev.ob⟩, h.ob⟩
theorem mem_app2 (X : Fx16 f K M n l s) (h : Sm1 X0 n l s D (fw16 n D) Sa t1 gw Cw W) : ∃ w' ge Ce t2, (Builtin.append_ #[24, 24] 24 #[.slice (some ⟨W.heap.size, 0, none⟩) 0 0, .slice (some ⟨gw, 0, none⟩) (n + 8) Cw]).run Try.prog (W.alloc (.cells #[] 5)) = .ok (.slice (some ⟨ge, 0, none⟩) (n + 8) Ce) w' ∧ Sm2 X0 n l s D (fw16 n D) Sa t1 gw Cw t2 ge Ce w' := by
  have hn := X.n2
  obtain ⟨w', g, C, F, hrun, hC, hg, hg1, hR, hF, hb⟩ := copy_app W (h.ob.rb (Nat.le_refl _)) (by omega)
  exact ⟨w', g, C, w'.heap.size, hrun, h.below hb, Nat.le_trans h.ob.hw hg, hg1, Nat.le_refl _, hC, F, hR, hF⟩
theorem mem_want (X : Fx16 f K M n l s) (hD : Rb X0 vD n D) (h : Sm2 X0 n l s D (fw16 n D) Sa t1 gw Cw t2 ge Ce W) : Calls Try.prog 16 #[.int .i64 f, .int .i64 (K : Int), .int .i64 (M : Int), vD] W fun e w' => ∃ u3 t3, e = .returned (.tuple #[u3, .int .i64 0]) ∧ Sm3 X0 n l s D (fw16 n D) Sa t1 gw Cw t2 ge Ce t3 u3 w' := by
  refine (q_rsplit X (h.data hD)).mono fun e w' h' => ?_
  obtain ⟨u3, rfl, hb, hq⟩ := h'
  exact ⟨u3, w'.heap.size, rfl, h.below hb, hq.wide h.ob.hw⟩
theorem mem_a (X : Fx16 f K M n l s) (hD : Rb X0 vD n D) (h : Sm3 X0 n l s D (fw16 n D) (spl l n D) t1 gw Cw t2 ge Ce t3 u3 W) : Calls Try.prog 9 #[.int .i64 f, .int .i64 (K : Int), .int .i64 (M : Int), .slice (some ⟨gw, 0, none⟩) n Cw] W fun e w' => ∃ ga Ba t4, e = .returned (.tuple #[.slice (some ⟨ga, 0, none⟩) s s, .int .i64 0]) ∧ Sm4 X0 n l s D (fw16 n D) (spl l n D) t1 gw Cw t2 ge Ce t3 u3 t4 ga Ba w' := by
  refine (q_split X (D := D) ((h.prev.prev.ob.rb (n := n) (Nat.le_add_right _ _)).congr (fun i hi => fw16_lo hi))).mono fun e w' h' => ?_
  obtain ⟨ga, Ba, rfl, hb, hq⟩ := h'
  exact ⟨ga, Ba, w'.heap.size, rfl, h.below hb, hq.wide h.ob.hw⟩
theorem mem_b (X : Fx16 f K M n l s) (hD : Rb X0 vD n D) (h : Sm4 X0 n l s D (fw16 n D) (spl l n D) t1 gw Cw t2 ge Ce t3 u3 t4 ga Ba W) : Calls Try.prog 9 #[.int .i64 f, .int .i64 (K : Int), .int .i64 (M : Int), .slice (some ⟨gw, 0, none⟩) n Cw] W fun e w' => ∃ gb Bb t5, e = .returned (.tuple #[.slice (some ⟨gb, 0, none⟩) s s, .int .i64 0]) ∧ Sm5 X0 n l s D (fw16 n D) (spl l n D) t1 gw Cw t2 ge Ce t3 u3 t4 ga Ba t5 gb Bb w' := by
  refine (q_split X (D := D) ((h.prev.prev.prev.ob.rb (n := n) (Nat.le_add_right _ _)).congr (fun i hi => fw16_lo hi))).mono fun e w' h' => ?_
  obtain ⟨gb, Bb, rfl, hb, hq⟩ := h'
  exact ⟨gb, Bb, w'.heap.size, rfl, h.below hb, hq.wide h.ob.hw⟩
theorem mem_x (X : Fx16 f K M n l s) (hD : Rb X0 vD n D) (h : Sm5 X0 n l s D (fw16 n D) (spl l n D) t1 gw Cw t2 ge Ce t3 u3 t4 ga Ba t5 gb Bb W) : Calls Try.prog 11 #[.int .i64 f, .int .i64 (K : Int), .int .i64 (M : Int), .slice (some ⟨ga, 0, none⟩) s s, .int .i64 (n : Int)] W fun e w' => ∃ gx t6, e = .returned (.tuple #[.slice (some ⟨gx, 0, none⟩) n n, .int .i64 0]) ∧ Sm6 X0 n l s D (fw16 n D) (spl l n D) t1 gw Cw t2 ge Ce t3 u3 t4 ga Ba t5 gb Bb t6 gx w' := by
  refine (q_join X h.prev.ob).mono fun e w' h' => ?_
  obtain ⟨gx, rfl, hb, hq⟩ := h'
  exact ⟨gx, w'.heap.size, rfl, h.below hb, (hq.wide h.ob.hw).congr (fun i hi => mem_jnb hi)⟩
theorem mem_y (X : Fx16 f K M n l s) (hD : Rb X0 vD n D) (h : Sm6 X0 n l s D (fw16 n D) (spl l n D) t1 gw Cw t2 ge Ce t3 u3 t4 ga Ba t5 gb Bb t6 gx W) : Calls Try.prog 11 #[.int .i64 f, .int .i64 (K : Int), .int .i64 (M : Int), .slice (some ⟨ga, 0, none⟩) s s, .int .i64 (n : Int)] W fun e w' => ∃ gy t7, e = .returned (.tuple #[.slice (some ⟨gy, 0, none⟩) n n, .int .i64 0]) ∧ Sm7 X0 n l s D (fw16 n D) (spl l n D) t1 gw Cw t2 ge Ce t3 u3 t4 ga Ba t5 gb Bb t6 gx t7 gy w' := by
  refine (q_join X h.prev.prev.ob).mono fun e w' h' => ?_
  obtain ⟨gy, rfl, hb, hq⟩ := h'
  exact ⟨gy, w'.heap.size, rfl, h.below hb, (hq.wide h.ob.hw).congr (fun i hi => mem_jnb hi)⟩
theorem mem_app8 (X : Fx16 f K M n l s) (h : Sm7 X0 n l s D (fw16 n (tr16 D)) (spl l n D) t1 gw Cw t2 ge Ce t3 u3 t4 ga Ba t5 gb Bb t6 gx t7 gy W) : ∃ w' gt Ct t8, (Builtin.append_ #[24, 24] 24 #[.slice (some ⟨W.heap.size, 0, none⟩) 0 0, .slice (some ⟨gw, 0, none⟩) (n + 8) Cw]).run Try.prog (W.alloc (.cells #[] 5)) = .ok (.slice (some ⟨gt, 0, none⟩) (n + 8) Ct) w' ∧ Sm8 X0 n l s D (fw16 n (tr16 D)) (spl l n D) t1 gw Cw t2 ge Ce t3 u3 t4 ga Ba t5 gb Bb t6 gx t7 gy t8 gt Ct w' := by
  have hn := X.n2
  obtain ⟨w', g, C, F, hrun, hC, hg, hg1, hR, hF, hb⟩ := copy_app W (h.prev.prev.prev.prev.prev.prev.ob.rb (Nat.le_refl _)) (by omega)
  exact ⟨w', g, C, w'.heap.size, hrun, h.below hb, Nat.le_trans h.ob.hw hg, hg1, Nat.le_refl _, hC, F, hR, hF⟩
theorem mem_later (X : Fx16 f K M n l s) (hD : Rb X0 vD n D) (h : Sm8 X0 n l s D (fw16 n (tr16 D)) (spl l n D) t1 gw Cw t2 ge Ce t3 u3 t4 ga Ba t5 gb Bb t6 gx t7 gy t8 gt Ct W) : Calls Try.prog 16 #[.int .i64 f, .int .i64 (K : Int), .int .i64 (M : Int), .slice (some ⟨gw, 0, none⟩) n Cw] W fun e w' => ∃ u9 t9, e = .returned (.tuple #[u9, .int .i64 0]) ∧ Sm9 X0 n l s D (fw16 n (tr16 D)) (spl l n D) t1 gw Cw t2 ge Ce t3 u3 t4 ga Ba t5 gb Bb t6 gx t7 gy t8 gt Ct t9 u9 w' := by
  refine (q_rsplit X (D := tr16 D) ((h.prev.prev.prev.prev.prev.prev.prev.ob.rb (n := n) (Nat.le_add_right _ _)).congr (fun i hi => fw16_lo hi))).mono fun e w' h' => ?_
  obtain ⟨u9, rfl, hb, hq⟩ := h'
  exact ⟨u9, w'.heap.size, rfl, h.below hb, hq.wide h.ob.hw⟩
theorem mem_c (X : Fx16 f K M n l s) (hD : Rb X0 vD n D) (h : Sm9 X0 n l s D (fw16 n (tr16 D)) (spl l n D) t1 gw Cw t2 ge Ce t3 u3 t4 ga Ba t5 gb Bb t6 gx t7 gy t8 gt Ct t9 u9 W) : Calls Try.prog 9 #[.int .i64 f, .int .i64 (K : Int), .int .i64 (M : Int), .slice (some ⟨gw, 0, none⟩) n Cw] W fun e w' => ∃ gc Bc t10, e = .returned (.tuple #[.slice (some ⟨gc, 0, none⟩) s s, .int .i64 0]) ∧ Sm10 X0 n l s D (fw16 n (tr16 D)) (spl l n D) t1 gw Cw t2 ge Ce t3 u3 t4 ga Ba t5 gb Bb t6 gx t7 gy t8 gt Ct t9 u9 t10 gc Bc w' := by
  refine (q_split X (D := tr16 D) ((h.prev.prev.prev.prev.prev.prev.prev.prev.ob.rb (n := n) (Nat.le_add_right _ _)).congr (fun i hi => fw16_lo hi))).mono fun e w' h' => ?_
  obtain ⟨gc, Bc, rfl, hb, hq⟩ := h'
  exact ⟨gc, Bc, w'.heap.size, rfl, h.below hb, hq.wide h.ob.hw⟩
theorem mem_z (X : Fx16 f K M n l s) (hD : Rb X0 vD n D) (h : Sm10 X0 n l s D (fw16 n (tr16 D)) (ta16 l n D K 0) t1 gw Cw t2 ge Ce t3 u3 t4 ga Ba t5 gb Bb t6 gx t7 gy t8 gt Ct t9 u9 t10 gc Bc W) : Calls Try.prog 11 #[.int .i64 f, .int .i64 (K : Int), .int .i64 (M : Int), .slice (some ⟨ga, 0, none⟩) s s, .int .i64 (n : Int)] W fun e w' => ∃ gz t11, e = .returned (.tuple #[.slice (some ⟨gz, 0, none⟩) n n, .int .i64 0]) ∧ Sm11 X0 n l s D (fw16 n (tr16 D)) (ta16 l n D K 0) t1 gw Cw t2 ge Ce t3 u3 t4 ga Ba t5 gb Bb t6 gx t7 gy t8 gt Ct t9 u9 t10 gc Bc t11 gz w' := by
  refine (q_join X h.prev.prev.prev.prev.prev.prev.ob).mono fun e w' h' => ?_
  obtain ⟨gz, rfl, hb, hq⟩ := h'
  exact ⟨gz, w'.heap.size, rfl, h.below hb, (hq.wide h.ob.hw).congr (fun i hi => mem_jnb2 hi X.l1 X.ge)⟩
theorem ck5a (X : Fx16 f K M n l s) (hD : Rb X0 vD n D) (h : Sm5 X0 n l s D (fw16 n D) (spl l n D) t1 gw Cw t2 ge Ce t3 u3 t4 ga Ba t5 gb Bb W) : Calls Try.prog 17 #[.slice (some ⟨ga, 0, none⟩) s s, u3] W fun e w' => e = .returned (.bool true) ∧ Sm5 X0 n l s D (fw16 n D) (spl l n D) t1 gw Cw t2 ge Ce t3 u3 t4 ga Ba t5 gb Bb w' :=
  (sm16_true _ _ s (fun _ => l) _ _ W (h.prev.ob.lb X.sb) h.prev.prev.ob.lb (fun _ _ _ _ => rfl)).mono fun e w' ⟨h1, m, h2⟩ => ⟨h1, by rw [h2]; exact h.below (below_drewN (Below.refl _ _) m)⟩
theorem ck5b (X : Fx16 f K M n l s) (hD : Rb X0 vD n D) (h : Sm5 X0 n l s D (fw16 n D) (spl l n D) t1 gw Cw t2 ge Ce t3 u3 t4 ga Ba t5 gb Bb W) : Calls Try.prog 17 #[.slice (some ⟨gb, 0, none⟩) s s, u3] W fun e w' => e = .returned (.bool true) ∧ Sm5 X0 n l s D (fw16 n D) (spl l n D) t1 gw Cw t2 ge Ce t3 u3 t4 ga Ba t5 gb Bb w' :=
  (sm16_true _ _ s (fun _ => l) _ _ W (h.ob.lb X.sb) h.prev.prev.ob.lb (fun _ _ _ _ => rfl)).mono fun e w' ⟨h1, m, h2⟩ => ⟨h1, by rw [h2]; exact h.below (below_drewN (Below.refl _ _) m)⟩
theorem ck5w (X : Fx16 f K M n l s) (hD : Rb X0 vD n D) (h : Sm5 X0 n l s D (fw16 n D) (spl l n D) t1 gw Cw t2 ge Ce t3 u3 t4 ga Ba t5 gb Bb W) : Calls Try.prog 12 #[.slice (some ⟨gw, 0, none⟩) (n + 8) Cw, .slice (some ⟨ge, 0, none⟩) (n + 8) Ce] W fun e w' => e = .returned (.bool true) ∧ Sm5 X0 n l s D (fw16 n D) (spl l n D) t1 gw Cw t2 ge Ce t3 u3 t4 ga Ba t5 gb Bb w' :=
  (sb16_true _ _ (n + 8) _ _ W (h.prev.prev.prev.prev.ob.rb (Nat.le_refl _)) (h.prev.prev.prev.ob.rb (Nat.le_refl _)) (fun i hi => rfl)).mono fun e w' ⟨h1, m, h2⟩ => ⟨h1, by rw [h2]; exact h.below (below_drewN (Below.refl _ _) m)⟩
theorem ck7x (X : Fx16 f K M n l s) (hD : Rb X0 vD n D) (h : Sm7 X0 n l s D (fw16 n D) (spl l n D) t1 gw Cw t2 ge Ce t3 u3 t4 ga Ba t5 gb Bb t6 gx t7 gy W) : Calls Try.prog 12 #[.slice (some ⟨gx, 0, none⟩) n n, vD] W fun e w' => e = .returned (.bool true) ∧ Sm7 X0 n l s D (fw16 n D) (spl l n D) t1 gw Cw t2 ge Ce t3 u3 t4 ga Ba t5 gb Bb t6 gx t7 gy w' :=
  (sb16_true _ _ n _ _ W (h.prev.ob.rb (Nat.le_refl _)) (h.data hD) (fun i hi => rfl)).mono fun e w' ⟨h1, m, h2⟩ => ⟨h1, by rw [h2]; exact h.below (below_drewN (Below.refl _ _) m)⟩
theorem ck7y (X : Fx16 f K M n l s) (hD : Rb X0 vD n D) (h : Sm7 X0 n l s D (fw16 n D) (spl l n D) t1 gw Cw t2 ge Ce t3 u3 t4 ga Ba t5 gb Bb t6 gx t7 gy W) : Calls Try.prog 12 #[.slice (some ⟨gy, 0, none⟩) n n, vD] W fun e w' => e = .returned (.bool true) ∧ Sm7 X0 n l s D (fw16 n D) (spl l n D) t1 gw Cw t2 ge Ce t3 u3 t4 ga Ba t5 gb Bb t6 gx t7 gy w' :=
  (sb16_true _ _ n _ _ W (h.ob.rb (Nat.le_refl _)) (h.data hD) (fun i hi => rfl)).mono fun e w' ⟨h1, m, h2⟩ => ⟨h1, by rw [h2]; exact h.below (below_drewN (Below.refl _ _) m)⟩
theorem ck7a (X : Fx16 f K M n l s) (hD : Rb X0 vD n D) (h : Sm7 X0 n l s D (fw16 n D) (spl l n D) t1 gw Cw t2 ge Ce t3 u3 t4 ga Ba t5 gb Bb t6 gx t7 gy W) : Calls Try.prog 17 #[.slice (some ⟨ga, 0, none⟩) s s, u3] W fun e w' => e = .returned (.bool true) ∧ Sm7 X0 n l s D (fw16 n D) (spl l n D) t1 gw Cw t2 ge Ce t3 u3 t4 ga Ba t5 gb Bb t6 gx t7 gy w' :=
  (sm16_true _ _ s (fun _ => l) _ _ W (h.prev.prev.prev.ob.lb X.sb) h.prev.prev.prev.prev.ob.lb (fun _ _ _ _ => rfl)).mono fun e w' ⟨h1, m, h2⟩ => ⟨h1, by rw [h2]; exact h.below (below_drewN (Below.refl _ _) m)⟩
theorem ck10c (X : Fx16 f K M n l s) (hD : Rb X0 vD n D) (h : Sm10 X0 n l s D (fw16 n (tr16 D)) (spl l n D) t1 gw Cw t2 ge Ce t3 u3 t4 ga Ba t5 gb Bb t6 gx t7 gy t8 gt Ct t9 u9 t10 gc Bc W) : Calls Try.prog 17 #[.slice (some ⟨gc, 0, none⟩) s s, u9] W fun e w' => e = .returned (.bool true) ∧ Sm10 X0 n l s D (fw16 n (tr16 D)) (spl l n D) t1 gw Cw t2 ge Ce t3 u3 t4 ga Ba t5 gb Bb t6 gx t7 gy t8 gt Ct t9 u9 t10 gc Bc w' :=
  (sm16_true _ _ s (fun _ => l) _ _ W (h.ob.lb X.sb) h.prev.ob.lb (fun _ _ _ _ => rfl)).mono fun e w' ⟨h1, m, h2⟩ => ⟨h1, by rw [h2]; exact h.below (below_drewN (Below.refl _ _) m)⟩
theorem ck10a (X : Fx16 f K M n l s) (hD : Rb X0 vD n D) (h : Sm10 X0 n l s D (fw16 n (tr16 D)) (spl l n D) t1 gw Cw t2 ge Ce t3 u3 t4 ga Ba t5 gb Bb t6 gx t7 gy t8 gt Ct t9 u9 t10 gc Bc W) : Calls Try.prog 17 #[.slice (some ⟨ga, 0, none⟩) s s, u3] W fun e w' => e = .returned (.bool true) ∧ Sm10 X0 n l s D (fw16 n (tr16 D)) (spl l n D) t1 gw Cw t2 ge Ce t3 u3 t4 ga Ba t5 gb Bb t6 gx t7 gy t8 gt Ct t9 u9 t10 gc Bc w' :=
  (sm16_true _ _ s (fun _ => l) _ _ W (h.prev.prev.prev.prev.prev.prev.ob.lb X.sb) h.prev.prev.prev.prev.prev.prev.prev.ob.lb (fun _ _ _ _ => rfl)).mono fun e w' ⟨h1, m, h2⟩ => ⟨h1, by rw [h2]; exact h.below (below_drewN (Below.refl _ _) m)⟩
theorem ck10b (X : Fx16 f K M n l s) (hD : Rb X0 vD n D) (h : Sm10 X0 n l s D (fw16 n (tr16 D)) (spl l n D) t1 gw Cw t2 ge Ce t3 u3 t4 ga Ba t5 gb Bb t6 gx t7 gy t8 gt Ct t9 u9 t10 gc Bc W) : Calls Try.prog 17 #[.slice (some ⟨gb, 0, none⟩) s s, u3] W fun e w' => e = .returned (.bool true) ∧ Sm10 X0 n l s D (fw16 n (tr16 D)) (spl l n D) t1 gw Cw t2 ge Ce t3 u3 t4 ga Ba t5 gb Bb t6 gx t7 gy t8 gt Ct t9 u9 t10 gc Bc w' :=
  (sm16_true _ _ s (fun _ => l) _ _ W (h.prev.prev.prev.prev.prev.ob.lb X.sb) h.prev.prev.prev.prev.prev.prev.prev.ob.lb (fun _ _ _ _ => rfl)).mono fun e w' ⟨h1, m, h2⟩ => ⟨h1, by rw [h2]; exact h.below (below_drewN (Below.refl _ _) m)⟩
theorem ck10x (X : Fx16 f K M n l s) (hD : Rb X0 vD n D) (h : Sm10 X0 n l s D (fw16 n (tr16 D)) (spl l n D) t1 gw Cw t2 ge Ce t3 u3 t4 ga Ba t5 gb Bb t6 gx t7 gy t8 gt Ct t9 u9 t10 gc Bc W) : Calls Try.prog 12 #[.slice (some ⟨gx, 0, none⟩) n n, vD] W fun e w' => e = .returned (.bool true) ∧ Sm10 X0 n l s D (fw16 n (tr16 D)) (spl l n D) t1 gw Cw t2 ge Ce t3 u3 t4 ga Ba t5 gb Bb t6 gx t7 gy t8 gt Ct t9 u9 t10 gc Bc w' :=
  (sb16_true _ _ n _ _ W (h.prev.prev.prev.prev.ob.rb (Nat.le_refl _)) (h.data hD) (fun i hi => rfl)).mono fun e w' ⟨h1, m, h2⟩ => ⟨h1, by rw [h2]; exact h.below (below_drewN (Below.refl _ _) m)⟩
theorem ck10w (X : Fx16 f K M n l s) (hD : Rb X0 vD n D) (h : Sm10 X0 n l s D (fw16 n (tr16 D)) (spl l n D) t1 gw Cw t2 ge Ce t3 u3 t4 ga Ba t5 gb Bb t6 gx t7 gy t8 gt Ct t9 u9 t10 gc Bc W) : Calls Try.prog 12 #[.slice (some ⟨gw, 0, none⟩) (n + 8) Cw, .slice (some ⟨gt, 0, none⟩) (n + 8) Ct] W fun e w' => e = .returned (.bool true) ∧ Sm10 X0 n l s D (fw16 n (tr16 D)) (spl l n D) t1 gw Cw t2 ge Ce t3 u3 t4 ga Ba t5 gb Bb t6 gx t7 gy t8 gt Ct t9 u9 t10 gc Bc w' :=
  (sb16_true _ _ (n + 8) _ _ W (h.prev.prev.prev.prev.prev.prev.prev.prev.prev.ob.rb (Nat.le_refl _)) (h.prev.prev.ob.rb (Nat.le_refl _)) (fun i hi => rfl)).mono fun e w' ⟨h1, m, h2⟩ => ⟨h1, by rw [h2]; exact h.below (below_drewN (Below.refl _ _) m)⟩
theorem ck11z (X : Fx16 f K M n l s) (hD : Rb X0 vD n D) (h : Sm11 X0 n l s D (fw16 n (tr16 D)) (ta16 l n D K 0) t1 gw Cw t2 ge Ce t3 u3 t4 ga Ba t5 gb Bb t6 gx t7 gy t8 gt Ct t9 u9 t10 gc Bc t11 gz W) : Calls Try.prog 12 #[.slice (some ⟨gz, 0, none⟩) n n, .slice (some ⟨gw, 0, none⟩) n Cw] W fun e w' => e = .returned (.bool true) ∧ Sm11 X0 n l s D (fw16 n (tr16 D)) (ta16 l n D K 0) t1 gw Cw t2 ge Ce t3 u3 t4 ga Ba t5 gb Bb t6 gx t7 gy t8 gt Ct t9 u9 t10 gc Bc t11 gz w' :=
  (sb16_true _ _ n _ _ W (h.ob.rb (Nat.le_refl _)) ((h.prev.prev.prev.prev.prev.prev.prev.prev.prev.prev.ob.rb (n := n) (Nat.le_add_right _ _)).congr (fun i hi => fw16_lo hi)) (fun i hi => rfl)).mono fun e w' ⟨h1, m, h2⟩ => ⟨h1, by rw [h2]; exact h.below (below_drewN (Below.refl _ _) m)⟩
theorem ck11x (X : Fx16 f K M n l s) (hD : Rb X0 vD n D) (h : Sm11 X0 n l s D (fw16 n (tr16 D)) (ta16 l n D K 0) t1 gw Cw t2 ge Ce t3 u3 t4 ga Ba t5 gb Bb t6 gx t7 gy t8 gt Ct t9 u9 t10 gc Bc t11 gz W) : Calls Try.prog 12 #[.slice (some ⟨gx, 0, none⟩) n n, vD] W fun e w' => e = .returned (.bool true) ∧ Sm11 X0 n l s D (fw16 n (tr16 D)) (ta16 l n D K 0) t1 gw Cw t2 ge Ce t3 u3 t4 ga Ba t5 gb Bb t6 gx t7 gy t8 gt Ct t9 u9 t10 gc Bc t11 gz w' :=
  (sb16_true _ _ n _ _ W (h.prev.prev.prev.prev.prev.ob.rb (Nat.le_refl _)) (h.data hD) (fun i hi => rfl)).mono fun e w' ⟨h1, m, h2⟩ => ⟨h1, by rw [h2]; exact h.below (below_drewN (Below.refl _ _) m)⟩
theorem ck11y (X : Fx16 f K M n l s) (hD : Rb X0 vD n D) (h : Sm11 X0 n l s D (fw16 n (tr16 D)) (ta16 l n D K 0) t1 gw Cw t2 ge Ce t3 u3 t4 ga Ba t5 gb Bb t6 gx t7 gy t8 gt Ct t9 u9 t10 gc Bc t11 gz W) : Calls Try.prog 12 #[.slice (some ⟨gy, 0, none⟩) n n, vD] W fun e w' => e = .returned (.bool true) ∧ Sm11 X0 n l s D (fw16 n (tr16 D)) (ta16 l n D K 0) t1 gw Cw t2 ge Ce t3 u3 t4 ga Ba t5 gb Bb t6 gx t7 gy t8 gt Ct t9 u9 t10 gc Bc t11 gz w' :=
  (sb16_true _ _ n _ _ W (h.prev.prev.prev.prev.ob.rb (Nat.le_refl _)) (h.data hD) (fun i hi => rfl)).mono fun e w' ⟨h1, m, h2⟩ => ⟨h1, by rw [h2]; exact h.below (below_drewN (Below.refl _ _) m)⟩
end
end Go.Proofs.Ytldacjpkblffbab
