import Derived.Test.YtemjodlhpelbaaaDoorAj4
namespace Go.Proofs.YtemjodlhpelbaaaDoor
open Go.RowKit Gf2
set_option linter.unusedVariables false

-- layer 14: rows
/-- of what was there nothing but blocks of E has turned. -/
def Kx (E : Nat → Prop) (w w' : World) : Prop := Below 0 w w' ∧ ∀ b, b < w.heap.size → ¬ E b → w'.heap[b]? = w.heap[b]?
theorem Kx.refl (E : Nat → Prop) (w : World) : Kx E w w := ⟨Below.refl _ _, fun _ _ _ => rfl⟩
theorem Kx.size {E : Nat → Prop} {w w' : World} (h : Kx E w w') : w.heap.size ≤ w'.heap.size := h.1.size
theorem Kx.trans {E : Nat → Prop} {a b c : World} (h : Kx E a b) (k : Kx E b c) : Kx E a c := ⟨h.1.trans k.1, fun x hx hn => (k.2 x (Nat.lt_of_lt_of_le hx h.size) hn).trans (h.2 x hx hn)⟩
theorem Kx.mono {E D : Nat → Prop} {a b : World} (h : Kx E a b) (hE : ∀ x, E x → D x) : Kx D a b := ⟨h.1, fun x hx hn => h.2 x hx (fun e => hn (hE x e))⟩
theorem Kp.kx {g : Nat} {E : Nat → Prop} {a b : World} (h : Kp g a b) (hE : E g) : Kx E a b := ⟨h.1, fun x hx hn => h.2 x hx (fun e => hn (e ▸ hE))⟩
theorem kx_below {a b : World} (h : Below a.heap.size a b) (E : Nat → Prop) : Kx E a b := ⟨h.mono (Nat.zero_le _), fun x hx _ => h.block x hx⟩
theorem Kx.below {E : Nat → Prop} {B : Nat} {a b : World} (h : Kx E a b) (hg : ∀ x, E x → B ≤ x) (hB : B ≤ a.heap.size) : Below B a b := ⟨h.1.os, h.1.tape, h.1.output, h.1.size, fun k hk => h.2 k (by omega) (fun e => by have := hg k e; omega)⟩
theorem Kx.cell {E : Nat → Prop} {h q : Nat} {a b : World} (k : Kx E a b) (hl : h < a.heap.size) (hne : ¬ E h) : b.cell? ⟨h, q, none⟩ = a.cell? ⟨h, q, none⟩ := by
  unfold World.cell?
  rw [k.2 h hl hne]
theorem R6.kx {w w' : World} {g N : Nat} {E : Nat → Prop} {F : Nat → Nat} (h : R6 w g N F) (hk : Kx E w w') (hne : ¬ E g) : R6 w' g N F := ⟨h.1, h.2.1, h.2.2.of_block (hk.2 g h.2.2.lt hne)⟩
theorem Kx.drew {E : Nat → Prop} {a b : World} (h : Kx E a b) : Kx E a b.drew := ⟨h.1.drew, h.2⟩
theorem Fac.kx {w w' : World} {lo q c : Nat} {E : Nat → Prop} (h : Fac w lo q c) (hk : Kx E w w') (hg : ∀ x, E x → x < lo) : Fac w' lo q c := by
  obtain ⟨h0, h1, h2, h3, h4⟩ := h
  have nq : ¬ E q := fun e => by have := hg q e; omega
  refine ⟨h0, h1, Nat.lt_of_lt_of_le h2 hk.size, (hk.cell h2 nq).trans h3, ?_⟩
  rcases h4 with h4 | ⟨T, t1, t2, t3⟩
  · exact .inl ((hk.cell h2 nq).trans h4)
  · exact .inr ⟨T, t1, (hk.cell h2 nq).trans t2, t3.of_block (hk.2 T t3.lt (fun e => by have := hg T e; omega))⟩
/-- what becomes of the first and of the second row. -/
def r1f (n c : Nat) (F G : Nat → Nat) (x : Nat) : Nat := if x < n then F x ^^^ fm 65581 c (G x) else F x
def r2f (n c : Nat) (F G : Nat → Nat) (x : Nat) : Nat := if x < n then G x ^^^ (F x ^^^ fm 65581 c (G x)) else G x
def r1b (n c : Nat) (F G : Nat → Nat) (x : Nat) : Nat := if x < n then F x ^^^ fm 65581 c (G x ^^^ F x) else F x
def r2b (n c : Nat) (F G : Nat → Nat) (x : Nat) : Nat := if x < n then G x ^^^ F x else G x
theorem pl0 {F S : Nat → Nat} {n x : Nat} : pl F 0 n S x = if x < n then S x else F x := by
  unfold pl
  by_cases h : x < n
  · rw [if_pos h, if_pos (by omega), Nat.sub_zero]
  · rw [if_neg h, if_neg (by omega)]
set_option maxHeartbeats 4000000 in
set_option maxRecDepth 100000 in
theorem evalR14 (g1 g2 N1 N2 n c1 c2 lo q c : Nat) (F G : Nat → Nat) (w : World) (hf : Fac w lo q c) (h1 : g1 < lo) (h2 : g2 < lo) (hne : g1 ≠ g2) (r1 : R6 w g1 N1 F) (r2 : R6 w g2 N2 G) (hn1 : n ≤ N1) (hn2 : n ≤ N2) (hn : n ≤ 140737488355328) :
    Calls Tryd.prog 29 #[.pointer (some ⟨q, 0, none⟩), .slice (some ⟨g1, 0, none⟩) n c1, .slice (some ⟨g2, 0, none⟩) n c2] w fun e w' => e = .returned (.tuple #[]) ∧ R6 w' g1 N1 (r1f n c F G) ∧ R6 w' g2 N2 (r2f n c F G) ∧ Kx (fun b => b = g1 ∨ b = g2) w w' := by
  have k1 : Calls Tryd.prog 43 #[.pointer (some ⟨q, 0, none⟩), .slice (some ⟨g1, 0, none⟩) n c1, .slice (some ⟨g2, 0, none⟩) n c2] w fun e w1 => e = .returned (.tuple #[]) ∧
      Calls Tryd.prog 37 #[.slice (some ⟨g2, 0, none⟩) n c2, .slice (some ⟨g1, 0, none⟩) n c1] w1 fun e w2 => e = .returned (.tuple #[]) ∧ Hid (R6 w2 g1 N1 (r1f n c F G) ∧ R6 w2 g2 N2 (r2f n c F G) ∧ Kx (fun b => b = g1 ∨ b = g2) w w2) := by
    refine (addProducts14 _ _ g1 N1 0 n c1 g2 0 c2 lo q c F (fun i => G (0 + i)) w hf h1 r1 (by omega) hn (fun _ => rfl) (fun _ => rfl) (r2.srl (by omega)) (r2.src (by omega)) (.inl (Ne.symm hne))).mono fun e w1 ⟨he, s1, o1⟩ => ⟨he, ?_⟩
    have s2 := r2.kp o1.kp (Ne.symm hne)
    have s1' : R6 w1 g1 N1 (r1f n c F G) := s1.congr (fun i hi => by rw [pl0]; unfold r1f; simp only [Nat.zero_add])
    refine (add14 _ _ g2 N2 0 n c2 g1 0 c1 G (fun i => r1f n c F G (0 + i)) w1 s2 (by omega) hn (fun _ => rfl) (fun _ => rfl) (s1'.srl (by omega)) (s1'.src (by omega)) (.inl hne)).mono fun e w2 ⟨he, t2, o2⟩ => ⟨he, s1'.kp o2.kp hne, t2.congr (fun i hi => ?_), (o1.kp.kx (E := fun b => b = g1 ∨ b = g2) (.inl rfl)).trans (o2.kp.kx (E := fun b => b = g1 ∨ b = g2) (.inr rfl))⟩
    rw [pl0]
    unfold r2f r1f
    simp only [Nat.zero_add]
    by_cases hx : i < n
    · rw [if_pos hx, if_pos hx, if_pos hx]
    · rw [if_neg hx, if_neg hx]
  clear hf h1 h2 hne r1 r2 hn1 hn2 hn
  go_enter Tryd.func29, Tryd.ntmps29
  go_wp2_with (first | (go_at_call 43; ((with_reducible refine (k1).mono ?_); (rintro e w1 ⟨rfl, k2⟩))) | (go_at_call 37; ((with_reducible refine (k2).mono ?_); (rintro e w2 ⟨rfl, HV⟩))))
  ((try simp only [Exit.inBlock, Exit.then]); first | (refine bodyPost_ret (results_none rfl _ _ _) rfl ?_) | (refine bodyPost_end (results_none rfl _ _ _) rfl ?_))
  exact ⟨rfl, HV.out⟩
set_option maxHeartbeats 4000000 in
set_option maxRecDepth 100000 in
theorem interR14 (g1 g2 N1 N2 n c1 c2 lo q c : Nat) (F G : Nat → Nat) (w : World) (hf : Fac w lo q c) (h1 : g1 < lo) (h2 : g2 < lo) (hne : g1 ≠ g2) (r1 : R6 w g1 N1 F) (r2 : R6 w g2 N2 G) (hn1 : n ≤ N1) (hn2 : n ≤ N2) (hn : n ≤ 140737488355328) :
    Calls Tryd.prog 27 #[.pointer (some ⟨q, 0, none⟩), .slice (some ⟨g1, 0, none⟩) n c1, .slice (some ⟨g2, 0, none⟩) n c2] w fun e w' => e = .returned (.tuple #[]) ∧ R6 w' g1 N1 (r1b n c F G) ∧ R6 w' g2 N2 (r2b n c F G) ∧ Kx (fun b => b = g1 ∨ b = g2) w w' := by
  have k1 : Calls Tryd.prog 37 #[.slice (some ⟨g2, 0, none⟩) n c2, .slice (some ⟨g1, 0, none⟩) n c1] w fun e w1 => e = .returned (.tuple #[]) ∧
      Calls Tryd.prog 43 #[.pointer (some ⟨q, 0, none⟩), .slice (some ⟨g1, 0, none⟩) n c1, .slice (some ⟨g2, 0, none⟩) n c2] w1 fun e w2 => e = .returned (.tuple #[]) ∧ Hid (R6 w2 g1 N1 (r1b n c F G) ∧ R6 w2 g2 N2 (r2b n c F G) ∧ Kx (fun b => b = g1 ∨ b = g2) w w2) := by
    refine (add14 _ _ g2 N2 0 n c2 g1 0 c1 G (fun i => F (0 + i)) w r2 (by omega) hn (fun _ => rfl) (fun _ => rfl) (r1.srl (by omega)) (r1.src (by omega)) (.inl hne)).mono fun e w1 ⟨he, s2, o1⟩ => ⟨he, ?_⟩
    have s1 := r1.kp o1.kp hne
    have s2' : R6 w1 g2 N2 (r2b n c F G) := s2.congr (fun i hi => by rw [pl0]; unfold r2b; simp only [Nat.zero_add])
    refine (addProducts14 _ _ g1 N1 0 n c1 g2 0 c2 lo q c F (fun i => r2b n c F G (0 + i)) w1 (hf.kp o1.kp h2) h1 s1 (by omega) hn (fun _ => rfl) (fun _ => rfl) (s2'.srl (by omega)) (s2'.src (by omega)) (.inl (Ne.symm hne))).mono fun e w2 ⟨he, t1, o2⟩ => ⟨he, t1.congr (fun i hi => ?_), s2'.kp o2.kp (Ne.symm hne), (o1.kp.kx (E := fun b => b = g1 ∨ b = g2) (.inr rfl)).trans (o2.kp.kx (E := fun b => b = g1 ∨ b = g2) (.inl rfl))⟩
    rw [pl0]
    unfold r1b r2b
    simp only [Nat.zero_add]
    by_cases hx : i < n
    · rw [if_pos hx, if_pos hx, if_pos hx]
    · rw [if_neg hx, if_neg hx]
  clear hf h1 h2 hne r1 r2 hn1 hn2 hn
  go_enter Tryd.func27, Tryd.ntmps27
  go_wp2_with (first | (go_at_call 37; ((with_reducible refine (k1).mono ?_); (rintro e w1 ⟨rfl, k2⟩))) | (go_at_call 43; ((with_reducible refine (k2).mono ?_); (rintro e w2 ⟨rfl, HV⟩))))
  ((try simp only [Exit.inBlock, Exit.then]); first | (refine bodyPost_ret (results_none rfl _ _ _) rfl ?_) | (refine bodyPost_end (results_none rfl _ _ _) rfl ?_))
  exact ⟨rfl, HV.out⟩
/-- rows of n words, each in a block of its own. -/
structure Rw (w : World) (gr o nr n : Nat) (B C : Nat → Nat) (F : Nat → Nat → Nat) : Prop where
  cell : ∀ i, i < nr → w.cell? ⟨gr, o + i, none⟩ = some (.slice (some ⟨B i, 0, none⟩) n (C i))
  row : ∀ i, i < nr → R6 w (B i) (C i) (F i)
  len : ∀ i, i < nr → n ≤ C i
  inj : ∀ i j, i < nr → j < nr → B i = B j → i = j
  out : ∀ i, i < nr → B i ≠ gr
  lt : gr < w.heap.size
/-- the rows' blocks. -/
def Eb (B : Nat → Nat) (nr b : Nat) : Prop := ∃ i, i < nr ∧ b = B i
theorem Rw.congr {w : World} {gr o nr n : Nat} {B C : Nat → Nat} {F G : Nat → Nat → Nat} (h : Rw w gr o nr n B C F) (e : ∀ i, i < nr → ∀ x, x < C i → F i x = G i x) : Rw w gr o nr n B C G :=
  ⟨h.cell, fun i hi => (h.row i hi).congr (e i hi), h.len, h.inj, h.out, h.lt⟩
theorem Rw.below {w w' : World} {gr o nr n : Nat} {B C : Nat → Nat} {F : Nat → Nat → Nat} (h : Rw w gr o nr n B C F) (hb : Below w.heap.size w w') : Rw w' gr o nr n B C F :=
  ⟨fun i hi => (hb.cell (p := ⟨gr, o + i, none⟩) h.lt).trans (h.cell i hi), fun i hi => (h.row i hi).below hb, h.len, h.inj, h.out, Nat.lt_of_lt_of_le h.lt hb.size⟩
theorem Rw.drewN {w : World} {gr o nr n : Nat} {B C : Nat → Nat} {F : Nat → Nat → Nat} (h : Rw w gr o nr n B C F) (m : Nat) : Rw (w.drewN m) gr o nr n B C F :=
  ⟨h.cell, fun i hi => (h.row i hi).drewN m, h.len, h.inj, h.out, h.lt⟩
/-- two rows of them have turned. -/
theorem Rw.two {w w' : World} {gr o nr n : Nat} {B C : Nat → Nat} {F : Nat → Nat → Nat} (h : Rw w gr o nr n B C F) {i j : Nat} (hi : i < nr) (hj : j < nr) (hij : i ≠ j) {P Q : Nat → Nat} (p : R6 w' (B i) (C i) P) (q : R6 w' (B j) (C j) Q) (hk : Kx (fun b => b = B i ∨ b = B j) w w') :
    Rw w' gr o nr n B C (fun y => if y = i then P else if y = j then Q else F y) := by
  refine ⟨fun y hy => (hk.cell h.lt (fun e => ?_)).trans (h.cell y hy), fun y hy => ?_, h.len, h.inj, h.out, Nat.lt_of_lt_of_le h.lt hk.size⟩
  · rcases e with e | e
    · exact h.out i hi e.symm
    · exact h.out j hj e.symm
  · by_cases e1 : y = i
    · rw [if_pos e1, e1]; exact p
    · rw [if_neg e1]
      by_cases e2 : y = j
      · rw [if_pos e2, e2]; exact q
      · rw [if_neg e2]
        refine (h.row y hy).kx hk (fun e => ?_)
        rcases e with e | e
        · exact e1 (h.inj y i hy hi e)
        · exact e2 (h.inj y j hy hj e)
/-- in each of the first n columns. -/
def cw (n : Nat) (T : (Nat → Nat) → Nat → Nat) (F : Nat → Nat → Nat) (i x : Nat) : Nat := if x < n then T (fun i => F i x) i else F i x
theorem cw_cw (n : Nat) (T U : (Nat → Nat) → Nat → Nat) (F : Nat → Nat → Nat) : cw n U (cw n T F) = cw n (fun f => U (T f)) F := by
  funext i x
  unfold cw
  by_cases h : x < n
  · rw [if_pos h, if_pos h]
    congr 1
    funext j
    rw [if_pos h]
  · rw [if_neg h, if_neg h, if_neg h]
theorem cw_id (n : Nat) (F : Nat → Nat → Nat) : cw n (fun f => f) F = F := by
  funext i x
  unfold cw
  split <;> rfl
/-- a block's turn, its first j pairs alone. -/
def tp (b : Bool) (m t S j : Nat) (F : Nat → Nat) (i : Nat) : Nat := if (m ≤ i ∧ i < m + j) ∨ (m + 2 ^ t ≤ i ∧ i < m + 2 ^ t + j) then tn b m t S F i else F i
theorem tp_zero (b : Bool) (m t S : Nat) : tp b m t S 0 = fun f => f := by
  funext F i
  unfold tp
  rw [if_neg (by omega)]
theorem tn_out (b : Bool) {m t S i : Nat} {F : Nat → Nat} (h : ¬ (m ≤ i ∧ i < m + 2 * 2 ^ t)) : tn b m t S F i = F i := by
  cases b
  · show tf m t S F i = F i
    unfold tf; rw [if_neg h]
  · show ti m t S F i = F i
    unfold ti; rw [if_neg h]
theorem tp_all (b : Bool) (m t S : Nat) : tp b m t S (2 ^ t) = tn b m t S := by
  funext F i
  unfold tp
  by_cases h : (m ≤ i ∧ i < m + 2 ^ t) ∨ (m + 2 ^ t ≤ i ∧ i < m + 2 ^ t + 2 ^ t)
  · rw [if_pos h]
  · rw [if_neg h, tn_out b (by omega)]
end Go.Proofs.YtemjodlhpelbaaaDoor
namespace Go.Proofs.YtemjodlhpelbaaaDoor
open Go.RowKit Gf2
set_option linter.unusedVariables false

-- layer 14: the closure of rows (laid by wip/genagm.py)
theorem mul_wrap14 {X H n : Nat} (h : X = H * n) (hH : H ≤ 65536) (hn : n ≤ 70368744177664) : wrap64 ((H : Int) * (n : Int)) = (X : Int) := by
  have h1 : H * n ≤ 65536 * 70368744177664 := Nat.mul_le_mul hH hn
  have e : ((H : Int) * (n : Int)) = (X : Int) := by rw [h]; simp
  rw [e]
  unfold wrap64
  omega
theorem pair_nums {m H M nr j i : Nat} (n1 : M = m + H) (n4 : m + 2 * H ≤ nr) (hi : i = m + j) (hlt : i < M) : ∃ I, I = i + H ∧ True ∧ True ∧ i < nr ∧ I < nr ∧ j < H := ⟨i + H, rfl, trivial, trivial, by omega, by omega, by omega⟩
theorem pair_wraps {i I H nr M : Nat} (i1 : I = i + H) (i5 : I < nr) (n5 : nr ≤ 65536) (hlt : i < M) : ((i : Nat) : Int) < (M : Int) ∧ ((i : Nat) : Int) < (nr : Int) ∧ ((I : Nat) : Int) < (nr : Int) ∧ wrap64 ((i : Int) + (H : Int)) = (I : Int) ∧ wrap64 ((i : Int) + 1) = (i : Int) + 1 := by
  refine ⟨by omega, by omega, by omega, ?_, ?_⟩
  · unfold wrap64; omega
  · unfold wrap64; omega
theorem cw_tp (n m t S j : Nat) (b : Bool) (F : Nat → Nat → Nat) {i : Nat} (h : ¬ ((m ≤ i ∧ i < m + j) ∨ (m + 2 ^ t ≤ i ∧ i < m + 2 ^ t + j))) (x : Nat) : cw n (tp b m t S j) F i x = F i x := by
  unfold cw tp
  rw [if_neg h]
  split <;> rfl
theorem pairf (n m t S j : Nat) (F : Nat → Nat → Nat) (hj : j < 2 ^ t) :
    (fun y => if y = m + j then r1f n S (cw n (tp false m t S j) F (m + j)) (cw n (tp false m t S j) F (m + 2 ^ t + j)) else if y = m + 2 ^ t + j then r2f n S (cw n (tp false m t S j) F (m + j)) (cw n (tp false m t S j) F (m + 2 ^ t + j)) else cw n (tp false m t S j) F y) = cw n (tp false m t S (j + 1)) F := by
  funext y x
  have a1 := cw_tp n m t S j false F (i := m + j) (by omega) x
  have a2 := cw_tp n m t S j false F (i := m + 2 ^ t + j) (by omega) x
  by_cases e1 : y = m + j
  · subst e1
    rw [if_pos rfl]
    unfold r1f
    rw [a1, a2]
    by_cases hx : x < n
    · rw [if_pos hx]
      unfold cw tp
      rw [if_pos hx, if_pos (by omega)]
      show _ = tf m t S (fun i => F i x) (m + j)
      unfold tf bf
      rw [if_pos (by omega), if_pos (by omega), show m + j + 2 ^ t = m + 2 ^ t + j by omega]
    · rw [if_neg hx]
      unfold cw
      rw [if_neg hx]
  · by_cases e2 : y = m + 2 ^ t + j
    · subst e2
      rw [if_neg e1, if_pos rfl]
      unfold r2f
      rw [a1, a2]
      by_cases hx : x < n
      · rw [if_pos hx]
        unfold cw tp
        rw [if_pos hx, if_pos (by omega)]
        show _ = tf m t S (fun i => F i x) (m + 2 ^ t + j)
        unfold tf bf
        rw [if_pos (by omega), if_neg (by omega), show m + 2 ^ t + j - 2 ^ t = m + j by omega]
      · rw [if_neg hx]
        unfold cw
        rw [if_neg hx]
    · rw [if_neg e1, if_neg e2]
      unfold cw tp
      by_cases hx : x < n
      · rw [if_pos hx, if_pos hx]
        by_cases h : (m ≤ y ∧ y < m + j) ∨ (m + 2 ^ t ≤ y ∧ y < m + 2 ^ t + j)
        · rw [if_pos h, if_pos (by omega)]
        · rw [if_neg h, if_neg (by omega)]
      · rw [if_neg hx, if_neg hx]
theorem pairb (n m t S j : Nat) (F : Nat → Nat → Nat) (hj : j < 2 ^ t) :
    (fun y => if y = m + j then r1b n S (cw n (tp true m t S j) F (m + j)) (cw n (tp true m t S j) F (m + 2 ^ t + j)) else if y = m + 2 ^ t + j then r2b n S (cw n (tp true m t S j) F (m + j)) (cw n (tp true m t S j) F (m + 2 ^ t + j)) else cw n (tp true m t S j) F y) = cw n (tp true m t S (j + 1)) F := by
  funext y x
  have a1 := cw_tp n m t S j true F (i := m + j) (by omega) x
  have a2 := cw_tp n m t S j true F (i := m + 2 ^ t + j) (by omega) x
  by_cases e1 : y = m + j
  · subst e1
    rw [if_pos rfl]
    unfold r1b
    rw [a1, a2]
    by_cases hx : x < n
    · rw [if_pos hx]
      unfold cw tp
      rw [if_pos hx, if_pos (by omega)]
      show _ = ti m t S (fun i => F i x) (m + j)
      unfold ti bi
      rw [if_pos (by omega), if_pos (by omega), show m + j + 2 ^ t = m + 2 ^ t + j by omega]
    · rw [if_neg hx]
      unfold cw
      rw [if_neg hx]
  · by_cases e2 : y = m + 2 ^ t + j
    · subst e2
      rw [if_neg e1, if_pos rfl]
      unfold r2b
      rw [a1, a2]
      by_cases hx : x < n
      · rw [if_pos hx]
        unfold cw tp
        rw [if_pos hx, if_pos (by omega)]
        show _ = ti m t S (fun i => F i x) (m + 2 ^ t + j)
        unfold ti bi
        rw [if_pos (by omega), if_neg (by omega), show m + 2 ^ t + j - 2 ^ t = m + j by omega]
      · rw [if_neg hx]
        unfold cw
        rw [if_neg hx]
    · rw [if_neg e1, if_neg e2]
      unfold cw tp
      by_cases hx : x < n
      · rw [if_pos hx, if_pos hx]
        by_cases h : (m ≤ y ∧ y < m + j) ∨ (m + 2 ^ t ≤ y ∧ y < m + 2 ^ t + j)
        · rw [if_pos h, if_pos (by omega)]
        · rw [if_neg h, if_neg (by omega)]
      · rw [if_neg hx, if_neg hx]
set_option maxHeartbeats 4000000 in
set_option maxRecDepth 100000 in
theorem turnR14f (gr o nr n cr m t H c bl bd : Nat) (B C : Nat → Nat) (F : Nat → Nat → Nat) (w : World) (hl : w.cell? ⟨bl, 0, none⟩ = some (.slice (some ⟨gr, o, none⟩) nr cr)) (hd : w.cell? ⟨bd, 0, none⟩ = some (.func (.func 29) #[] #[]))
    (h1 : ¬ Eb B nr bl) (h2 : ¬ Eb B nr bd) (h3 : bl < w.heap.size) (h4 : bd < w.heap.size) (hR : Rw w gr o nr n B C F) (hc : c < 65536) (hH : H = 2 ^ t) (hm : m + 2 * H ≤ nr) (hN : nr ≤ 65536) (hn : n ≤ 70368744177664) :
    Calls Tryd.prog 49 #[.int .i64 (m : Int), .int .i64 (H : Int), .int .u16 (c : Nat), .pointer (some ⟨bl, 0, none⟩), .pointer (some ⟨bd, 0, none⟩)] w fun e w' => e = .returned (.tuple #[]) ∧ Rw w' gr o nr n B C (cw n (tn false m t c) F) ∧ Kx (Eb B nr) w w' := by
  obtain ⟨M, hM⟩ : ∃ M, M = m + H := ⟨_, rfl⟩
  obtain ⟨X, hX⟩ : ∃ X, X = H * n := ⟨_, rfl⟩
  have H0 : 0 < H := by rw [hH]; exact Nat.two_pow_pos t
  have y2 := hR.cell m (by omega)
  have k1 := newFactor14 c X hc w
  have HN : Hid (M = m + H ∧ 0 < H ∧ H = 2 ^ t ∧ m + 2 * H ≤ nr ∧ nr ≤ 65536 ∧ n ≤ 70368744177664) := ⟨hM, H0, hH, hm, hN, hn⟩
  have HC : Hid (¬ Eb B nr bl ∧ ¬ Eb B nr bd ∧ bl < w.heap.size ∧ bd < w.heap.size ∧ w.cell? ⟨bl, 0, none⟩ = some (.slice (some ⟨gr, o, none⟩) nr cr) ∧ w.cell? ⟨bd, 0, none⟩ = some (.func (.func 29) #[] #[])) := ⟨h1, h2, h3, h4, hl, hd⟩
  have HR : Hid (Rw w gr o nr n B C F) := hR
  have mb : (m : Int) < (nr : Int) := by omega
  have W0 := mul_wrap14 hX (show H ≤ 65536 by omega) hn
  have HWW : Hid (wrap64 ((m : Int) + (H : Int)) = (M : Int)) := wrap_add_eq hM (by omega)
  clear h1 h2 h3 h4 hR hc hm hN hn hM hX H0
  replace hH : Hid (H = 2 ^ t) := hH
  go_enter Tryd.func49, Tryd.ntmps49
  go_wp2_with (go_at_call 42; ((with_reducible refine (k1).mono ?_); (rintro e w1 ⟨q, rfl, hf1, b1⟩)))
  have HF : Hid (Fac w1 w.heap.size q c ∧ Rw w1 gr o nr n B C F ∧ Below w.heap.size w w1) := ⟨hf1, HR.out.below b1, b1⟩
  clear k1 hf1 b1 y2 hl hd W0
  go_loopw [9] (fun iv wr => ∃ j i : Nat, Hid (j ≤ H ∧ i = m + j) ∧ iv = .int .i64 i ∧ Rw wr gr o nr n B C (cw n (tp false m t c j) F) ∧ Kx (Eb B nr) w1 wr) (fun iv _ => M - (intOf iv).toNat)
  case atStart => exact ⟨0, m, ⟨Nat.zero_le _, rfl⟩, rfl, by rw [tp_zero, cw_id]; exact HF.out.2.1, Kx.refl _ _⟩
  case round =>
    obtain ⟨j, i, hj, rfl, hr, hk⟩ := hrel
    by_cases hlt : i < M
    · obtain ⟨n1, n2, n3, n4, n5, n6⟩ := HN.out
      obtain ⟨c1, c2, c3, c4, c5, c6⟩ := HC.out
      obtain ⟨f1, f2, f3⟩ := HF.out
      obtain ⟨I, i1, i2, i3, i4, i5, i6⟩ := pair_nums n1 n4 hj.out.2 hlt
      have y1 : wr.cell? ⟨bl, 0, none⟩ = some (.slice (some ⟨gr, o, none⟩) nr cr) := ((hk.cell (Nat.lt_of_lt_of_le c3 f3.size) c1).trans (f3.cell (p := ⟨bl, 0, none⟩) c3)).trans c5
      have y2 : wr.cell? ⟨bd, 0, none⟩ = some (.func (.func 29) #[] #[]) := ((hk.cell (Nat.lt_of_lt_of_le c4 f3.size) c2).trans (f3.cell (p := ⟨bd, 0, none⟩) c4)).trans c6
      have y3 := hr.cell i i4
      have y4 := hr.cell I i5
      have lo : ∀ x, Eb B nr x → x < w.heap.size := fun x ⟨u, hu, e⟩ => e ▸ (HR.out.row u hu).lt
      have c0 := evalR14 (B i) (B I) (C i) (C I) n (C i) (C I) w.heap.size q c _ _ wr.drew ((f1.kx hk lo).kx (Kx.refl _ wr).drew (E := Eb B nr) lo) (lo _ ⟨i, i4, rfl⟩) (lo _ ⟨I, i5, rfl⟩) (fun e => by have := hr.inj i I i4 i5 e; omega) ((hr.row i i4).drewN 1) ((hr.row I i5).drewN 1) (hr.len i i4) (hr.len I i5) (by omega)
      obtain ⟨tb, ib, Ib, W2, W4⟩ := pair_wraps i1 i5 n5 hlt
      have W1 := HWW.out
      have HV : Hid (Rw wr gr o nr n B C (cw n (tp false m t c j) F) ∧ Kx (Eb B nr) w1 wr ∧ I = i + H ∧ j < H ∧ i < nr ∧ I < nr ∧ i = m + j ∧ i < M) := ⟨hr, hk, i1, i6, i4, i5, hj.out.2, hlt⟩
      have W3 := wrap_k W2
      clear hr hk hj hlt n1 n2 n3 n4 n5 n6 c1 c2 c3 c4 c5 c6 f1 f2 f3 i1 i2 i3 i4 i5 i6 lo
      go_wp2
      refine region_planI (fun w' => w'.cell? ⟨bl, 0, none⟩ = some (.slice (some ⟨gr, o, none⟩) nr cr) ∧ w'.cell? ⟨bd, 0, none⟩ = some (.func (.func 29) #[] #[]) ∧ w'.cell? ⟨gr, o + i, none⟩ = some (.slice (some ⟨B i, 0, none⟩) n (C i)) ∧ w'.cell? ⟨gr, o + I, none⟩ = some (.slice (some ⟨B I, 0, none⟩) n (C I))) [0, 1, 2, 3, 4, 5, 6, 7, 8, 9, 10, 11, 12] [12, 0] 40 ⟨y1, y2, y3, y4⟩ (by kernel_rfl) (by kernel_rfl) (fun _ a d v _ h => by cases d <;> exact h) ?_
      simp only [atI, List.getElem?_cons_zero, List.getElem?_cons_succ]
      refine planH_step ?A2 rfl (fun w' hS => ?s2) rfl (fun K hK => ?n2)
      case s2 =>
        obtain ⟨z1, z2, z3, z4⟩ := hS
        simp only [List.take_succ_cons, List.take_zero]
        repeat still_step
        exact rfl
      case n2 =>
      go_simp
      go_wp2_with (go_at_call 29; (with_reducible refine c0.mono ?_); rintro e w2 ⟨rfl, p2, q2, k2⟩)
      clear c0
      have HW : Hid (Rw w2 gr o nr n B C (cw n (tp false m t c (j + 1)) F) ∧ Kx (Eb B nr) w1 w2 ∧ (w2.cell? ⟨bl, 0, none⟩ = some (.slice (some ⟨gr, o, none⟩) nr cr) ∧ w2.cell? ⟨bd, 0, none⟩ = some (.func (.func 29) #[] #[]))) := by
        obtain ⟨hr, hk, i1, i6, i4, i5, hj, -⟩ := HV.out
        obtain ⟨c1, c2, c3, c4, c5, c6⟩ := HC.out
        have kE : Kx (Eb B nr) wr.drew w2 := k2.mono (fun x hx => by
          rcases hx with rfl | rfl
          · exact ⟨i, i4, rfl⟩
          · exact ⟨I, i5, rfl⟩)
        have kk := (hk.drew).trans kE
        have r := Rw.two (hr.drewN 1) i4 i5 (by have := HN.out.2.1; omega) p2 q2 k2
        refine ⟨?_, kk, ((kk.cell (Nat.lt_of_lt_of_le c3 HF.out.2.2.size) c1).trans (HF.out.2.2.cell (p := ⟨bl, 0, none⟩) c3)).trans c5, ((kk.cell (Nat.lt_of_lt_of_le c4 HF.out.2.2.size) c2).trans (HF.out.2.2.cell (p := ⟨bd, 0, none⟩) c4)).trans c6⟩
        have e := pairf n m t c j F (by have := HN.out.2.2.1; omega)
        rw [← hH.out] at e
        rw [← e, show m + H + j = I by omega, show m + j = i by omega]
        exact r
      refine hK _ _ ⟨HW.out.2.2.1, HW.out.2.2.2, HW.out.1.cell i HV.out.2.2.2.2.1, HW.out.1.cell I HV.out.2.2.2.2.2.1⟩ ?_
      clear hK K y1 y2 y3 y4 p2 q2 k2
      refine planH_last ?A4 rfl (fun w' hS => ?s4) rfl ?n4
      case s4 =>
        simp only [List.take_zero]
        exact rfl
      case n4 =>
      go_wp2
      go_roundw
      case rel => exact ⟨j + 1, i + 1, ⟨HV.out.2.2.2.1, by have := HV.out.2.2.2.2.2.2.1; omega⟩, by first | rfl | (rw [W4]; rfl), HW.out.1, HW.out.2.1⟩
      case measure => first | exact meas_lt8 HV.out.2.2.2.2.2.2.2 | (rw [W4]; exact meas_lt8 HV.out.2.2.2.2.2.2.2)
    · obtain rfl : j = H := by have := hj.out; have := HN.out.1; omega
      have tb : ¬ ((i : Nat) : Int) < (M : Int) := by omega
      have W1 := HWW.out
      have HV : Hid (Rw wr gr o nr n B C (cw n (tn false m t c) F) ∧ Kx (Eb B nr) w wr) := ⟨by
        have h := hr
        rw [hH.out, tp_all] at h
        exact h, (kx_below HF.out.2.2 _).trans hk⟩
      clear hr hk hj hlt
      go_wp2
      ((try simp only [Exit.inBlock, Exit.then]); first | (refine bodyPost_ret (results_none rfl _ _ _) rfl ?_) | (refine bodyPost_end (results_none rfl _ _ _) rfl ?_))
      exact ⟨rfl, HV.out⟩
set_option maxHeartbeats 4000000 in
set_option maxRecDepth 100000 in
theorem turnR14b (gr o nr n cr m t H c bl bd : Nat) (B C : Nat → Nat) (F : Nat → Nat → Nat) (w : World) (hl : w.cell? ⟨bl, 0, none⟩ = some (.slice (some ⟨gr, o, none⟩) nr cr)) (hd : w.cell? ⟨bd, 0, none⟩ = some (.func (.func 27) #[] #[]))
    (h1 : ¬ Eb B nr bl) (h2 : ¬ Eb B nr bd) (h3 : bl < w.heap.size) (h4 : bd < w.heap.size) (hR : Rw w gr o nr n B C F) (hc : c < 65536) (hH : H = 2 ^ t) (hm : m + 2 * H ≤ nr) (hN : nr ≤ 65536) (hn : n ≤ 70368744177664) :
    Calls Tryd.prog 49 #[.int .i64 (m : Int), .int .i64 (H : Int), .int .u16 (c : Nat), .pointer (some ⟨bl, 0, none⟩), .pointer (some ⟨bd, 0, none⟩)] w fun e w' => e = .returned (.tuple #[]) ∧ Rw w' gr o nr n B C (cw n (tn true m t c) F) ∧ Kx (Eb B nr) w w' := by
  obtain ⟨M, hM⟩ : ∃ M, M = m + H := ⟨_, rfl⟩
  obtain ⟨X, hX⟩ : ∃ X, X = H * n := ⟨_, rfl⟩
  have H0 : 0 < H := by rw [hH]; exact Nat.two_pow_pos t
  have y2 := hR.cell m (by omega)
  have k1 := newFactor14 c X hc w
  have HN : Hid (M = m + H ∧ 0 < H ∧ H = 2 ^ t ∧ m + 2 * H ≤ nr ∧ nr ≤ 65536 ∧ n ≤ 70368744177664) := ⟨hM, H0, hH, hm, hN, hn⟩
  have HC : Hid (¬ Eb B nr bl ∧ ¬ Eb B nr bd ∧ bl < w.heap.size ∧ bd < w.heap.size ∧ w.cell? ⟨bl, 0, none⟩ = some (.slice (some ⟨gr, o, none⟩) nr cr) ∧ w.cell? ⟨bd, 0, none⟩ = some (.func (.func 27) #[] #[])) := ⟨h1, h2, h3, h4, hl, hd⟩
  have HR : Hid (Rw w gr o nr n B C F) := hR
  have mb : (m : Int) < (nr : Int) := by omega
  have W0 := mul_wrap14 hX (show H ≤ 65536 by omega) hn
  have HWW : Hid (wrap64 ((m : Int) + (H : Int)) = (M : Int)) := wrap_add_eq hM (by omega)
  clear h1 h2 h3 h4 hR hc hm hN hn hM hX H0
  replace hH : Hid (H = 2 ^ t) := hH
  go_enter Tryd.func49, Tryd.ntmps49
  go_wp2_with (go_at_call 42; ((with_reducible refine (k1).mono ?_); (rintro e w1 ⟨q, rfl, hf1, b1⟩)))
  have HF : Hid (Fac w1 w.heap.size q c ∧ Rw w1 gr o nr n B C F ∧ Below w.heap.size w w1) := ⟨hf1, HR.out.below b1, b1⟩
  clear k1 hf1 b1 y2 hl hd W0
  go_loopw [9] (fun iv wr => ∃ j i : Nat, Hid (j ≤ H ∧ i = m + j) ∧ iv = .int .i64 i ∧ Rw wr gr o nr n B C (cw n (tp true m t c j) F) ∧ Kx (Eb B nr) w1 wr) (fun iv _ => M - (intOf iv).toNat)
  case atStart => exact ⟨0, m, ⟨Nat.zero_le _, rfl⟩, rfl, by rw [tp_zero, cw_id]; exact HF.out.2.1, Kx.refl _ _⟩
  case round =>
    obtain ⟨j, i, hj, rfl, hr, hk⟩ := hrel
    by_cases hlt : i < M
    · obtain ⟨n1, n2, n3, n4, n5, n6⟩ := HN.out
      obtain ⟨c1, c2, c3, c4, c5, c6⟩ := HC.out
      obtain ⟨f1, f2, f3⟩ := HF.out
      obtain ⟨I, i1, i2, i3, i4, i5, i6⟩ := pair_nums n1 n4 hj.out.2 hlt
      have y1 : wr.cell? ⟨bl, 0, none⟩ = some (.slice (some ⟨gr, o, none⟩) nr cr) := ((hk.cell (Nat.lt_of_lt_of_le c3 f3.size) c1).trans (f3.cell (p := ⟨bl, 0, none⟩) c3)).trans c5
      have y2 : wr.cell? ⟨bd, 0, none⟩ = some (.func (.func 27) #[] #[]) := ((hk.cell (Nat.lt_of_lt_of_le c4 f3.size) c2).trans (f3.cell (p := ⟨bd, 0, none⟩) c4)).trans c6
      have y3 := hr.cell i i4
      have y4 := hr.cell I i5
      have lo : ∀ x, Eb B nr x → x < w.heap.size := fun x ⟨u, hu, e⟩ => e ▸ (HR.out.row u hu).lt
      have c0 := interR14 (B i) (B I) (C i) (C I) n (C i) (C I) w.heap.size q c _ _ wr.drew ((f1.kx hk lo).kx (Kx.refl _ wr).drew (E := Eb B nr) lo) (lo _ ⟨i, i4, rfl⟩) (lo _ ⟨I, i5, rfl⟩) (fun e => by have := hr.inj i I i4 i5 e; omega) ((hr.row i i4).drewN 1) ((hr.row I i5).drewN 1) (hr.len i i4) (hr.len I i5) (by omega)
      obtain ⟨tb, ib, Ib, W2, W4⟩ := pair_wraps i1 i5 n5 hlt
      have W1 := HWW.out
      have HV : Hid (Rw wr gr o nr n B C (cw n (tp true m t c j) F) ∧ Kx (Eb B nr) w1 wr ∧ I = i + H ∧ j < H ∧ i < nr ∧ I < nr ∧ i = m + j ∧ i < M) := ⟨hr, hk, i1, i6, i4, i5, hj.out.2, hlt⟩
      have W3 := wrap_k W2
      clear hr hk hj hlt n1 n2 n3 n4 n5 n6 c1 c2 c3 c4 c5 c6 f1 f2 f3 i1 i2 i3 i4 i5 i6 lo
      go_wp2
      refine region_planI (fun w' => w'.cell? ⟨bl, 0, none⟩ = some (.slice (some ⟨gr, o, none⟩) nr cr) ∧ w'.cell? ⟨bd, 0, none⟩ = some (.func (.func 27) #[] #[]) ∧ w'.cell? ⟨gr, o + i, none⟩ = some (.slice (some ⟨B i, 0, none⟩) n (C i)) ∧ w'.cell? ⟨gr, o + I, none⟩ = some (.slice (some ⟨B I, 0, none⟩) n (C I))) [0, 1, 2, 3, 4, 5, 6, 7, 8, 9, 10, 11, 12] [12, 0] 40 ⟨y1, y2, y3, y4⟩ (by kernel_rfl) (by kernel_rfl) (fun _ a d v _ h => by cases d <;> exact h) ?_
      simp only [atI, List.getElem?_cons_zero, List.getElem?_cons_succ]
      refine planH_step ?A2 rfl (fun w' hS => ?s2) rfl (fun K hK => ?n2)
      case s2 =>
        obtain ⟨z1, z2, z3, z4⟩ := hS
        simp only [List.take_succ_cons, List.take_zero]
        repeat still_step
        exact rfl
      case n2 =>
      go_simp
      go_wp2_with (go_at_call 27; (with_reducible refine c0.mono ?_); rintro e w2 ⟨rfl, p2, q2, k2⟩)
      clear c0
      have HW : Hid (Rw w2 gr o nr n B C (cw n (tp true m t c (j + 1)) F) ∧ Kx (Eb B nr) w1 w2 ∧ (w2.cell? ⟨bl, 0, none⟩ = some (.slice (some ⟨gr, o, none⟩) nr cr) ∧ w2.cell? ⟨bd, 0, none⟩ = some (.func (.func 27) #[] #[]))) := by
        obtain ⟨hr, hk, i1, i6, i4, i5, hj, -⟩ := HV.out
        obtain ⟨c1, c2, c3, c4, c5, c6⟩ := HC.out
        have kE : Kx (Eb B nr) wr.drew w2 := k2.mono (fun x hx => by
          rcases hx with rfl | rfl
          · exact ⟨i, i4, rfl⟩
          · exact ⟨I, i5, rfl⟩)
        have kk := (hk.drew).trans kE
        have r := Rw.two (hr.drewN 1) i4 i5 (by have := HN.out.2.1; omega) p2 q2 k2
        refine ⟨?_, kk, ((kk.cell (Nat.lt_of_lt_of_le c3 HF.out.2.2.size) c1).trans (HF.out.2.2.cell (p := ⟨bl, 0, none⟩) c3)).trans c5, ((kk.cell (Nat.lt_of_lt_of_le c4 HF.out.2.2.size) c2).trans (HF.out.2.2.cell (p := ⟨bd, 0, none⟩) c4)).trans c6⟩
        have e := pairb n m t c j F (by have := HN.out.2.2.1; omega)
        rw [← hH.out] at e
        rw [← e, show m + H + j = I by omega, show m + j = i by omega]
        exact r
      refine hK _ _ ⟨HW.out.2.2.1, HW.out.2.2.2, HW.out.1.cell i HV.out.2.2.2.2.1, HW.out.1.cell I HV.out.2.2.2.2.2.1⟩ ?_
      clear hK K y1 y2 y3 y4 p2 q2 k2
      refine planH_last ?A4 rfl (fun w' hS => ?s4) rfl ?n4
      case s4 =>
        simp only [List.take_zero]
        exact rfl
      case n4 =>
      go_wp2
      go_roundw
      case rel => exact ⟨j + 1, i + 1, ⟨HV.out.2.2.2.1, by have := HV.out.2.2.2.2.2.2.1; omega⟩, by first | rfl | (rw [W4]; rfl), HW.out.1, HW.out.2.1⟩
      case measure => first | exact meas_lt8 HV.out.2.2.2.2.2.2.2 | (rw [W4]; exact meas_lt8 HV.out.2.2.2.2.2.2.2)
    · obtain rfl : j = H := by have := hj.out; have := HN.out.1; omega
      have tb : ¬ ((i : Nat) : Int) < (M : Int) := by omega
      have W1 := HWW.out
      have HV : Hid (Rw wr gr o nr n B C (cw n (tn true m t c) F) ∧ Kx (Eb B nr) w wr) := ⟨by
        have h := hr
        rw [hH.out, tp_all] at h
        exact h, (kx_below HF.out.2.2 _).trans hk⟩
      clear hr hk hj hlt
      go_wp2
      ((try simp only [Exit.inBlock, Exit.then]); first | (refine bodyPost_ret (results_none rfl _ _ _) rfl ?_) | (refine bodyPost_end (results_none rfl _ _ _) rfl ?_))
      exact ⟨rfl, HV.out⟩
theorem turnR14 (b : Bool) (gr o nr n cr m t H c bl bd : Nat) (B C : Nat → Nat) (F : Nat → Nat → Nat) (w : World) (hl : w.cell? ⟨bl, 0, none⟩ = some (.slice (some ⟨gr, o, none⟩) nr cr)) (hd : w.cell? ⟨bd, 0, none⟩ = some (.func (.func (chg b)) #[] #[]))
    (h1 : ¬ Eb B nr bl) (h2 : ¬ Eb B nr bd) (h3 : bl < w.heap.size) (h4 : bd < w.heap.size) (hR : Rw w gr o nr n B C F) (hc : c < 65536) (hH : H = 2 ^ t) (hm : m + 2 * H ≤ nr) (hN : nr ≤ 65536) (hn : n ≤ 70368744177664) :
    Calls Tryd.prog 49 #[.int .i64 (m : Int), .int .i64 (H : Int), .int .u16 (c : Nat), .pointer (some ⟨bl, 0, none⟩), .pointer (some ⟨bd, 0, none⟩)] w fun e w' => e = .returned (.tuple #[]) ∧ Rw w' gr o nr n B C (cw n (tn b m t c) F) ∧ Kx (Eb B nr) w w' := by
  cases b
  · exact turnR14f gr o nr n cr m t H c bl bd B C F w hl hd h1 h2 h3 h4 hR hc hH hm hN hn
  · exact turnR14b gr o nr n cr m t H c bl bd B C F w hl hd h1 h2 h3 h4 hR hc hH hm hN hn
end Go.Proofs.YtemjodlhpelbaaaDoor
namespace Go.Proofs.YtemjodlhpelbaaaDoor
open Go.RowKit Gf2
set_option linter.unusedVariables false

-- layer 14: ForwardRows and InverseRows (laid by wip/genagn.py)
set_option maxHeartbeats 4000000 in
set_option maxRecDepth 100000 in
theorem ofRows14 (a : Option Addr) (n cap K : Nat) (w : World) :
    Calls Tryd.prog 34 #[.slice a n cap, .func (.func K) #[] #[]] w fun e w' => e = .returned (.func (.func 49) #[] #[.pointer (some ⟨w.heap.size, 0, none⟩), .pointer (some ⟨w.heap.size + 1, 0, none⟩)]) ∧ w'.heap.size = w.heap.size + 2 ∧
      w'.cell? ⟨w.heap.size, 0, none⟩ = some (.slice a n cap) ∧ w'.cell? ⟨w.heap.size + 1, 0, none⟩ = some (.func (.func K) #[] #[]) ∧ Below w.heap.size w w' := by
  go_enter Tryd.func34, Tryd.ntmps34
  go_wp2
  go_ret
  have b1 := below_alloc w (.cells #[.slice a n cap] 39)
  have b2 := below_alloc (w.alloc (.cells #[.slice a n cap] 39)) (.cells #[.func (.func K) #[] #[]] 64)
  refine ⟨rfl, by simp, ?_, ?_, bthen13 b1 b2⟩
  · rw [b2.cell (p := ⟨w.heap.size, 0, none⟩) (by simp), cell_of_row _ w.heap.size 0 _ _ _ (heap_alloc_new _ _)]; rfl
  · have := heap_alloc_new (w.alloc (.cells #[.slice a n cap] 39)) (.cells #[.func (.func K) #[] #[]] 64)
    rw [show (w.alloc (.cells #[.slice a n cap] 39)).heap.size = w.heap.size + 1 by simp] at this
    rw [cell_of_row _ (w.heap.size + 1) 0 _ _ _ this]; rfl
/-- what the closure of rows has captured. -/
structure CapR (w : World) (b : Bool) (bl bd gr o nr cr : Nat) (B : Nat → Nat) : Prop where
  l : w.cell? ⟨bl, 0, none⟩ = some (.slice (some ⟨gr, o, none⟩) nr cr)
  d : w.cell? ⟨bd, 0, none⟩ = some (.func (.func (chg b)) #[] #[])
  nl : ¬ Eb B nr bl
  nd : ¬ Eb B nr bd
  ll : bl < w.heap.size
  ld : bd < w.heap.size
theorem CapR.kx {w w' : World} {b : Bool} {bl bd gr o nr cr : Nat} {B : Nat → Nat} (h : CapR w b bl bd gr o nr cr B) (hk : Kx (Eb B nr) w w') : CapR w' b bl bd gr o nr cr B :=
  ⟨(hk.cell h.ll h.nl).trans h.l, (hk.cell h.ld h.nd).trans h.d, h.nl, h.nd, Nat.lt_of_lt_of_le h.ll hk.size, Nat.lt_of_lt_of_le h.ld hk.size⟩
theorem Bs.kx {w0 w w' : World} {E : Nat → Prop} (h : Bs w0 w) (hk : Kx E w w') (hg : ∀ x, E x → w0.heap.size ≤ x) : Bs w0 w' := ⟨h.c, h.t, h.b.trans (hk.below hg h.b.size)⟩
def clR (bl bd : Nat) : Value := .func (.func 49) #[] #[.pointer (some ⟨bl, 0, none⟩), .pointer (some ⟨bd, 0, none⟩)]
theorem cw_congr {n : Nat} {T U : (Nat → Nat) → Nat → Nat} {F : Nat → Nat → Nat} {i x : Nat} (h : T (fun i => F i x) i = U (fun i => F i x) i) : cw n T F i x = cw n U F i x := by
  unfold cw
  split
  · exact h
  · rfl
theorem roundR14 (b : Bool) (w0 w : World) (J nr n sh t gr o cr bl bd : Nat) (B C : Nat → Nat) (F : Nat → Nat → Nat) (hB : Bs w0 w) (hE : ∀ x, Eb B nr x → w0.heap.size ≤ x) (hc : CapR w b bl bd gr o nr cr B) (hR : Rw w gr o nr n B C F) (ht : t < 16) (hn : nr = J * (2 * 2 ^ t)) (hs : sh + nr ≤ 65536) (hl : n ≤ 70368744177664) :
    Calls Tryd.prog 40 #[.int .i64 (nr : Int), .int .i64 (sh : Int), .int .i64 (t : Int), clR bl bd] w fun e w' => e = .returned (.tuple #[]) ∧ Rw w' gr o nr n B C (cw n (rn b sh t) F) ∧ Kx (Eb B nr) w w' := by
  refine (round14R J nr sh t (2 ^ t) ⟨bl, 0, none⟩ ⟨bd, 0, none⟩ (fun j w' => Rw w' gr o nr n B C (cw n (fun f => pn b sh t f (j * (2 * 2 ^ t))) F) ∧ Kx (Eb B nr) w w') rfl ht hn hs (fun j w' hj ⟨h1, h2⟩ => ⟨(hB.kx h2 hE).cab, ?_⟩) w ⟨?_, Kx.refl _ _⟩).mono fun e w' ⟨he, h1, h2⟩ => ⟨he, h1.congr (fun i hi x hx => cw_congr (pn_all b _ (by rw [← hn]; exact hi))), h2⟩
  · have hc' := hc.kx h2
    have hjn : (j + 1) * (2 * 2 ^ t) ≤ nr := by rw [hn]; exact Nat.mul_le_mul_right _ hj
    rw [Nat.add_mul, Nat.one_mul] at hjn
    have hw : we ((sh + j * (2 * 2 ^ t)) / 2 ^ t) = sv t (we (sh + j * (2 * 2 ^ t))) := (sv_we (by have := Nat.two_pow_pos t; omega) t).symm
    refine (turnR14 b gr o nr n cr (j * (2 * 2 ^ t)) t (2 ^ t) _ bl bd B C _ w' hc'.l hc'.d hc'.nl hc'.nd hc'.ll hc'.ld h1 (by rw [hw]; exact sv_lt _ _) rfl hjn (by omega) hl).mono fun e w2 ⟨he, r, k⟩ => ⟨he, ?_, h2.trans k⟩
    rw [hw, cw_cw] at r
    rw [show (fun f => pn b sh t f ((j + 1) * (2 * 2 ^ t))) = fun f => tn b (j * (2 * 2 ^ t)) t (sv t (we (sh + j * (2 * 2 ^ t)))) (pn b sh t f (j * (2 * 2 ^ t))) from funext fun f => (pn_step b sh t j f).symm]
    exact r
  · rw [show (fun f => pn b sh t f (0 * (2 * 2 ^ t))) = fun f => f from funext fun f => by rw [Nat.zero_mul, pn_zero], cw_id]
    exact hR
theorem fwdR14 (w0 w : World) (k nr n sh gr o cr bl bd : Nat) (B C : Nat → Nat) (F : Nat → Nat → Nat) (hB : Bs w0 w) (hE : ∀ x, Eb B nr x → w0.heap.size ≤ x) (hc : CapR w false bl bd gr o nr cr B) (hR : Rw w gr o nr n B C F) (hk : k ≤ 16) (hn : nr = 2 ^ k) (hs : sh + nr ≤ 65536) (hl : n ≤ 70368744177664) :
    Calls Tryd.prog 28 #[.int .i64 (nr : Int), .int .i64 (sh : Int), clR bl bd] w fun e w' => e = .returned (.tuple #[]) ∧ Rw w' gr o nr n B C (cw n (fun f => fw sh k f k) F) ∧ Kx (Eb B nr) w w' := by
  refine forward14 k nr sh hk hn (clR bl bd) (fun c w' => Rw w' gr o nr n B C (cw n (fun f => fw sh k f c) F) ∧ Kx (Eb B nr) w w') (fun c t w' hct ⟨h1, h2⟩ => ?_) w hB.tzt ⟨by show Rw w gr o nr n B C (cw n (fun f => f) F); rw [cw_id]; exact hR, Kx.refl _ _⟩
  refine (roundR14 false w0 w' (2 ^ c) nr n sh t gr o cr bl bd B C _ (hB.kx h2 hE) hE (hc.kx h2) h1 (by omega) ?_ hs hl).mono fun e w2 ⟨he, r, k2⟩ => ⟨he, ?_, h2.trans k2⟩
  · rw [hn, ← hct, Nat.pow_succ, Nat.pow_add, Nat.mul_comm 2, Nat.mul_assoc]
  · rw [cw_cw] at r
    show Rw w2 gr o nr n B C (cw n (fun f => rd sh (k - c - 1) (fw sh k f c)) F)
    rw [show k - c - 1 = t by omega]
    exact r
theorem invR14 (w0 w : World) (k nr n sh gr o cr bl bd : Nat) (B C : Nat → Nat) (F : Nat → Nat → Nat) (hB : Bs w0 w) (hE : ∀ x, Eb B nr x → w0.heap.size ≤ x) (hc : CapR w true bl bd gr o nr cr B) (hR : Rw w gr o nr n B C F) (hk : k ≤ 16) (hn : nr = 2 ^ k) (hs : sh + nr ≤ 65536) (hl : n ≤ 70368744177664) :
    Calls Tryd.prog 25 #[.int .i64 (nr : Int), .int .i64 (sh : Int), clR bl bd] w fun e w' => e = .returned (.tuple #[]) ∧ Rw w' gr o nr n B C (cw n (fun f => iw sh f k) F) ∧ Kx (Eb B nr) w w' := by
  refine inverse14 k nr sh hk hn (clR bl bd) (fun c w' => Rw w' gr o nr n B C (cw n (fun f => iw sh f c) F) ∧ Kx (Eb B nr) w w') (fun t w' ht ⟨h1, h2⟩ => ?_) w hB.tzt ⟨by show Rw w gr o nr n B C (cw n (fun f => f) F); rw [cw_id]; exact hR, Kx.refl _ _⟩
  refine (roundR14 true w0 w' (2 ^ (k - t - 1)) nr n sh t gr o cr bl bd B C _ (hB.kx h2 hE) hE (hc.kx h2) h1 (by omega) ?_ hs hl).mono fun e w2 ⟨he, r, k2⟩ => ⟨he, ?_, h2.trans k2⟩
  · rw [hn, Nat.mul_left_comm, ← Nat.pow_add, Nat.mul_comm, ← Nat.pow_succ]
    congr 1
    omega
  · rw [cw_cw] at r
    exact r
set_option maxHeartbeats 4000000 in
set_option maxRecDepth 100000 in
theorem chkRows14_no (s : Int) (nr cr : Nat) (a : Option Addr) (hn : ¬ pw2 nr 65536) (h64 : nr ≤ 9223372036854775807) (w : World) :
    Calls Tryd.prog 33 #[.slice a nr cr, .int .i64 s] w fun e w' => e = .returned (.int .i64 130) ∧ w' = w := by
  have c1 := isPow14_no (nr : Int) (fun m e => by rw [show m = nr by omega]; exact hn) (by omega) w
  clear hn h64
  go_enter Tryd.func33, Tryd.ntmps33
  go_wp2_with (go_at_call 35; ((with_reducible refine (c1).mono ?_); rintro e w' ⟨rfl, rfl⟩))
  go_ret
  exact ⟨rfl, rfl⟩
set_option maxHeartbeats 4000000 in
set_option maxRecDepth 100000 in
theorem chkRows14_even (s : Int) (k nr cr gr o L0 : Nat) (A : Nat → Option Addr) (L C : Nat → Nat) (w : World) (hc : ∀ i, i < nr → w.cell? ⟨gr, o + i, none⟩ = some (.slice (A i) (L i) (C i))) (hL : ∀ i, i < nr → L i = L0) (hn : nr = 2 ^ k) (hm : nr ≤ 65536) :
    Calls Tryd.prog 33 #[.slice (some ⟨gr, o, none⟩) nr cr, .int .i64 s] w fun e w' => e = .returned (.int .i64 (if Beg s nr nr then 0 else 140)) ∧ w' = w := by
  have h0 : 0 < nr := by rw [hn]; exact Nat.two_pow_pos k
  have c1 := isPow14_yes k nr hn hm w
  have c2 := chkCoset14 s nr h0 (by omega) w
  generalize (if Beg s nr nr then (0 : Int) else 140) = Z at c2 ⊢
  have y0 := hc 0 h0
  rw [hL 0 h0, Nat.add_zero] at y0
  have b0 : (0 : Int) < (nr : Int) := by omega
  have HN : Hid ((∀ i, i < nr → w.cell? ⟨gr, o + i, none⟩ = some (.slice (A i) (L i) (C i))) ∧ (∀ i, i < nr → L i = L0) ∧ nr ≤ 65536) := ⟨hc, hL, hm⟩
  clear hn hm hc hL h0
  go_enter Tryd.func33, Tryd.ntmps33
  go_wp2_with (go_at_call 35; ((with_reducible refine (c1).mono ?_); rintro e w' ⟨rfl, rfl⟩))
  go_loopw [13] (fun iv wr => ∃ i : Nat, i ≤ nr ∧ iv = .int .i64 i ∧ wr = w') (fun iv _ => nr - (intOf iv).toNat)
  case atStart => exact ⟨0, Nat.zero_le _, rfl, rfl⟩
  case round =>
    obtain ⟨i, hi, rfl, rfl⟩ := hrel
    by_cases hlt : i < nr
    · have y1 := HN.out.1 i hlt
      rw [HN.out.2.1 i hlt] at y1
      have tb : ((i : Nat) : Int) < (nr : Int) := by omega
      have W1 := wrap_succ8 (j := i) (by have := HN.out.2.2; unfold big; omega)
      clear c1 c2
      go_wp2
      go_roundw
      case rel => exact ⟨i + 1, hlt, by first | rfl | (rw [W1]; rfl), by first | rfl | trivial⟩
      case measure => first | exact meas_lt8 hlt | (rw [W1]; exact meas_lt8 hlt)
    · obtain rfl : i = nr := by omega
      go_wp2_with (go_at_call 38; ((with_reducible refine (c2).mono ?_); rintro e w' ⟨rfl, rfl⟩))
      go_ret
      exact ⟨rfl, rfl⟩
set_option maxHeartbeats 4000000 in
set_option maxRecDepth 100000 in
theorem chkRows14_uneven (s : Int) (k nr cr gr o z : Nat) (A : Nat → Option Addr) (L C : Nat → Nat) (w : World) (hc : ∀ i, i < nr → w.cell? ⟨gr, o + i, none⟩ = some (.slice (A i) (L i) (C i))) (hz : z < nr) (hzL : L z ≠ L 0) (hfirst : ∀ i, i < z → L i = L 0) (hn : nr = 2 ^ k) (hm : nr ≤ 65536) :
    Calls Tryd.prog 33 #[.slice (some ⟨gr, o, none⟩) nr cr, .int .i64 s] w fun e w' => e = .returned (.int .i64 6) ∧ w' = w := by
  have h0 : 0 < nr := by rw [hn]; exact Nat.two_pow_pos k
  have c1 := isPow14_yes k nr hn hm w
  have y0 := hc 0 h0
  rw [Nat.add_zero] at y0
  have b0 : (0 : Int) < (nr : Int) := by omega
  have HN : Hid ((∀ i, i < nr → w.cell? ⟨gr, o + i, none⟩ = some (.slice (A i) (L i) (C i))) ∧ (∀ i, i < z → L i = L 0) ∧ nr ≤ 65536 ∧ z < nr ∧ L z ≠ L 0) := ⟨hc, hfirst, hm, hz, hzL⟩
  obtain ⟨L0, hL0⟩ : ∃ L0, L0 = L 0 := ⟨_, rfl⟩
  rw [← hL0] at y0 HN
  clear hn hm hc hfirst h0 hz hzL hL0
  go_enter Tryd.func33, Tryd.ntmps33
  go_wp2_with (go_at_call 35; ((with_reducible refine (c1).mono ?_); rintro e w' ⟨rfl, rfl⟩))
  go_loopw [13] (fun iv wr => ∃ i : Nat, i ≤ z ∧ iv = .int .i64 i ∧ wr = w') (fun iv _ => nr - (intOf iv).toNat)
  case atStart => exact ⟨0, Nat.zero_le _, rfl, rfl⟩
  case round =>
    obtain ⟨i, hi, rfl, rfl⟩ := hrel
    have hin : i < nr := by have := HN.out.2.2.2.1; omega
    by_cases hlt : i < z
    · have y1 := HN.out.1 i hin
      rw [HN.out.2.1 i hlt] at y1
      have tb : ((i : Nat) : Int) < (nr : Int) := by omega
      have W1 := wrap_succ8 (j := i) (by have := HN.out.2.2.1; unfold big; omega)
      clear c1
      go_wp2
      go_roundw
      case rel => exact ⟨i + 1, hlt, by first | rfl | (rw [W1]; rfl), by first | rfl | trivial⟩
      case measure => first | exact meas_lt8 hin | (rw [W1]; exact meas_lt8 hin)
    · obtain rfl : i = z := by omega
      have y1 := HN.out.1 i hin
      have tb : ((i : Nat) : Int) < (nr : Int) := by omega
      have hne := HN.out.2.2.2.2
      obtain ⟨Lz, hLz⟩ : ∃ Lz, Lz = L i := ⟨_, rfl⟩
      rw [← hLz] at y1 hne
      have ne1 : ((Lz : Int) == (L0 : Int)) = false := by simp; omega
      have ne2 : (Lz : Int) ≠ (L0 : Int) := by omega
      clear c1 hLz
      go_wp2
      go_ret
      exact ⟨rfl, rfl⟩
theorem chkRows14_ok (s : Int) (k nr n cr gr o : Nat) (B C : Nat → Nat) (w : World) (hc : ∀ i, i < nr → w.cell? ⟨gr, o + i, none⟩ = some (.slice (some ⟨B i, 0, none⟩) n (C i))) (hn : nr = 2 ^ k) (hm : nr ≤ 65536) :
    Calls Tryd.prog 33 #[.slice (some ⟨gr, o, none⟩) nr cr, .int .i64 s] w fun e w' => e = .returned (.int .i64 (if Beg s nr nr then 0 else 140)) ∧ w' = w :=
  chkRows14_even s k nr cr gr o n (fun i => some ⟨B i, 0, none⟩) (fun _ => n) C w hc (fun _ _ => rfl) hn hm
set_option maxHeartbeats 4000000 in
set_option maxRecDepth 100000 in
theorem fwr14 (k nr n s gr o cr : Nat) (B C : Nat → Nat) (F : Nat → Nat → Nat) (w0 w : World) (hB : Bs w0 w) (hE : ∀ x, Eb B nr x → w0.heap.size ≤ x) (h : Rw w gr o nr n B C F) (hk : k ≤ 16) (hn : nr = 2 ^ k) (hd : nr ∣ s) (hs : s + nr ≤ 65536) (hl : n ≤ 70368744177664) :
    Calls Tryd.prog 19 #[.slice (some ⟨gr, o, none⟩) nr cr, .int .i64 (s : Int)] w fun e w' => e = .returned (.int .i64 0) ∧ Rw w' gr o nr n B C (cw n (fun f => fw s k f k) F) ∧ Kx (Eb B nr) w w' := by
  have k0 := chkRows14_ok (s : Int) k nr n cr gr o B C w h.cell hn (by omega)
  rw [if_pos (beg_of hd hs)] at k0
  have k1 : Calls Tryd.prog 34 #[.slice (some ⟨gr, o, none⟩) nr cr, .func (.func 29) #[] #[]] w fun e w2 => e = .returned (.func (.func 49) #[] #[.pointer (some ⟨w.heap.size, 0, none⟩), .pointer (some ⟨w.heap.size + 1, 0, none⟩)]) ∧
      Calls Tryd.prog 28 #[.int .i64 (nr : Int), .int .i64 (s : Int), .func (.func 49) #[] #[.pointer (some ⟨w.heap.size, 0, none⟩), .pointer (some ⟨w.heap.size + 1, 0, none⟩)]] w2 fun e w3 => e = .returned (.tuple #[]) ∧ Hid (Rw w3 gr o nr n B C (cw n (fun f => fw s k f k) F) ∧ Kx (Eb B nr) w w3) := by
    refine (ofRows14 _ nr cr 29 w).mono fun e w2 ⟨he, z2, l2, d2, b2⟩ => ⟨he, ?_⟩
    have lo : ∀ x, Eb B nr x → x < w.heap.size := fun x ⟨u, hu, e⟩ => e ▸ (h.row u hu).lt
    refine (fwdR14 w0 w2 k nr n s gr o cr w.heap.size (w.heap.size + 1) B C F (hB.then b2) hE ⟨l2, d2, fun e => by have := lo _ e; omega, fun e => by have := lo _ e; omega, by omega, by omega⟩ (h.below b2) hk hn hs hl).mono fun e w3 ⟨he, r3, p3⟩ => ⟨he, r3, (kx_below b2 _).trans p3⟩
  clear hB h hk hn hd hs hE hl
  go_enter Tryd.func19, Tryd.ntmps19
  go_wp2_with (first | (go_at_call 33; ((with_reducible refine (k0).mono ?_); rintro e w' ⟨rfl, rfl⟩)) | (go_at_call 34; ((with_reducible refine (k1).mono ?_); (rintro e w2 ⟨rfl, k3⟩))) | (go_at_call 28; ((with_reducible refine (k3).mono ?_); (rintro e w3 ⟨rfl, HV⟩))))
  go_ret
  exact ⟨rfl, HV.out⟩
set_option maxHeartbeats 4000000 in
set_option maxRecDepth 100000 in
theorem fwr14_no (v : Value) (s z : Int) (w : World) (h0 : Calls Tryd.prog 33 #[v, .int .i64 s] w fun e w' => e = .returned (.int .i64 z) ∧ w' = w) (hz : (z == 0) = false) :
    Calls Tryd.prog 19 #[v, .int .i64 s] w fun e w' => e = .returned (.int .i64 z) ∧ w' = w := by
  go_enter Tryd.func19, Tryd.ntmps19
  go_wp2_with (go_at_call 33; ((with_reducible refine (h0).mono ?_); rintro e w' ⟨rfl, rfl⟩))
  go_ret
  exact ⟨rfl, rfl⟩
set_option maxHeartbeats 4000000 in
set_option maxRecDepth 100000 in
theorem ivr14 (k nr n s gr o cr : Nat) (B C : Nat → Nat) (F : Nat → Nat → Nat) (w0 w : World) (hB : Bs w0 w) (hE : ∀ x, Eb B nr x → w0.heap.size ≤ x) (h : Rw w gr o nr n B C F) (hk : k ≤ 16) (hn : nr = 2 ^ k) (hd : nr ∣ s) (hs : s + nr ≤ 65536) (hl : n ≤ 70368744177664) :
    Calls Tryd.prog 20 #[.slice (some ⟨gr, o, none⟩) nr cr, .int .i64 (s : Int)] w fun e w' => e = .returned (.int .i64 0) ∧ Rw w' gr o nr n B C (cw n (fun f => iw s f k) F) ∧ Kx (Eb B nr) w w' := by
  have k0 := chkRows14_ok (s : Int) k nr n cr gr o B C w h.cell hn (by omega)
  rw [if_pos (beg_of hd hs)] at k0
  have k1 : Calls Tryd.prog 34 #[.slice (some ⟨gr, o, none⟩) nr cr, .func (.func 27) #[] #[]] w fun e w2 => e = .returned (.func (.func 49) #[] #[.pointer (some ⟨w.heap.size, 0, none⟩), .pointer (some ⟨w.heap.size + 1, 0, none⟩)]) ∧
      Calls Tryd.prog 25 #[.int .i64 (nr : Int), .int .i64 (s : Int), .func (.func 49) #[] #[.pointer (some ⟨w.heap.size, 0, none⟩), .pointer (some ⟨w.heap.size + 1, 0, none⟩)]] w2 fun e w3 => e = .returned (.tuple #[]) ∧ Hid (Rw w3 gr o nr n B C (cw n (fun f => iw s f k) F) ∧ Kx (Eb B nr) w w3) := by
    refine (ofRows14 _ nr cr 27 w).mono fun e w2 ⟨he, z2, l2, d2, b2⟩ => ⟨he, ?_⟩
    have lo : ∀ x, Eb B nr x → x < w.heap.size := fun x ⟨u, hu, e⟩ => e ▸ (h.row u hu).lt
    refine (invR14 w0 w2 k nr n s gr o cr w.heap.size (w.heap.size + 1) B C F (hB.then b2) hE ⟨l2, d2, fun e => by have := lo _ e; omega, fun e => by have := lo _ e; omega, by omega, by omega⟩ (h.below b2) hk hn hs hl).mono fun e w3 ⟨he, r3, p3⟩ => ⟨he, r3, (kx_below b2 _).trans p3⟩
  clear hB h hk hn hd hs hE hl
  go_enter Tryd.func20, Tryd.ntmps20
  go_wp2_with (first | (go_at_call 33; ((with_reducible refine (k0).mono ?_); rintro e w' ⟨rfl, rfl⟩)) | (go_at_call 34; ((with_reducible refine (k1).mono ?_); (rintro e w2 ⟨rfl, k3⟩))) | (go_at_call 25; ((with_reducible refine (k3).mono ?_); (rintro e w3 ⟨rfl, HV⟩))))
  go_ret
  exact ⟨rfl, HV.out⟩
set_option maxHeartbeats 4000000 in
set_option maxRecDepth 100000 in
theorem ivr14_no (v : Value) (s z : Int) (w : World) (h0 : Calls Tryd.prog 33 #[v, .int .i64 s] w fun e w' => e = .returned (.int .i64 z) ∧ w' = w) (hz : (z == 0) = false) :
    Calls Tryd.prog 20 #[v, .int .i64 s] w fun e w' => e = .returned (.int .i64 z) ∧ w' = w := by
  go_enter Tryd.func20, Tryd.ntmps20
  go_wp2_with (go_at_call 33; ((with_reducible refine (h0).mono ?_); rintro e w' ⟨rfl, rfl⟩))
  go_ret
  exact ⟨rfl, rfl⟩
end Go.Proofs.YtemjodlhpelbaaaDoor
