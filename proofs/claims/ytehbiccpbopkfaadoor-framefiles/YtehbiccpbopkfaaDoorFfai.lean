import Derived.Test.YtehbiccpbopkfaaDoorFfag
import Derived.Test.YtehbiccpbopkfaaDoorFfae
import Derived.StillTail
import Derived.Lib.AppendZeros
import Derived.Test.YtehbiccpbopkfaaDoorFfaf
import Derived.Deep.Upon
namespace Go.Proofs.YtehbiccpbopkfaaDoor
open Go.RowKit Gf2
set_option linter.unusedVariables false

/-- append([]byte{}, x...). -/
theorem copy_app (w : World) {x : Option Addr} {n cx : Nat} {S : Nat → Nat} (h : Rb w (.slice x n cx) n S) (hn : n ≤ 140737488355328) :
    ∃ w' g C F, (Builtin.append_ #[27, 27] 27 #[.slice (some ⟨w.heap.size, 0, none⟩) 0 0, .slice x n cx]).run Tryd.prog (w.alloc (.cells #[] 5)) = .ok (.slice (some ⟨g, 0, none⟩) n C) w' ∧
      n ≤ C ∧ w.heap.size ≤ g ∧ g < w'.heap.size ∧ Rw w' g C F ∧ (∀ i, i < n → F i = S i) ∧ Below w.heap.size w w' := by
  obtain ⟨b1, b2, a, c', b3, b5, b6, b4⟩ := h
  cases b3
  have r0 := lit_rw [] w (fun x h => by cases h) (by decide)
  have hb0 : Below w.heap.size w (w.alloc (.cells #[] 5)) := (Below.refl _ _).alloc (Nat.le_refl _) _
  obtain ⟨w1, g, C, F, hrun, hC, hR, -, hF, hcase⟩ := app8 (w.alloc (.cells #[] 5)) (g := w.heap.size) (C := 0) (L := 0) r0 (Nat.le_refl _) (x := x) (n := n) (cx := cx) (S := S) b2 (fun h0 => by
    obtain ⟨b, o, e, hl, hcl⟩ := b4 h0
    exact ⟨b, o, e, fun i hi => (hb0.cell (p := ⟨b, o + i, none⟩) hl).trans (hcl i hi)⟩) (by omega)
  rw [Nat.zero_add] at hrun hC
  have hs : (w.alloc (.cells #[] 5)).heap.size = w.heap.size + 1 := by simp
  refine ⟨w1, g, C, F, hrun, hC, ?_, hR.lt, hR, fun i hi => by rw [← hF i hi, Nat.zero_add], ?_⟩
  · rcases hcase with ⟨e, -⟩ | ⟨e, -, -⟩
    · omega
    · rw [hs] at e; omega
  · rcases hcase with ⟨e, ho⟩ | ⟨e, -, hb⟩
    · exact hb0.trans (ho.below (Nat.le_refl _))
    · exact hb0.trans (hb.mono (by rw [hs]; omega))

end Go.Proofs.YtehbiccpbopkfaaDoor
namespace Go.Proofs.YtehbiccpbopkfaaDoor
open Go.RowKit Gf2
set_option linter.unusedVariables false

/-- of what was there nothing but block g has turned. -/
def Kp (g : Nat) (w w' : World) : Prop := Below 0 w w' ∧ ∀ b, b < w.heap.size → b ≠ g → w'.heap[b]? = w.heap[b]?
theorem Kp.refl (g : Nat) (w : World) : Kp g w w := ⟨Below.refl _ _, fun _ _ _ => rfl⟩
theorem Kp.size {g : Nat} {w w' : World} (h : Kp g w w') : w.heap.size ≤ w'.heap.size := h.1.size
theorem Kp.trans {g : Nat} {a b c : World} (h : Kp g a b) (k : Kp g b c) : Kp g a c := ⟨h.1.trans k.1, fun x hx hn => (k.2 x (Nat.lt_of_lt_of_le hx h.size) hn).trans (h.2 x hx hn)⟩
theorem Only.kp {g : Nat} {a b : World} (h : Only g a b) : Kp g a b := ⟨h.1, fun x _ hn => h.2.2 x hn⟩
theorem Kp.below {g B : Nat} {a b : World} (h : Kp g a b) (hg : B ≤ g) (hB : B ≤ a.heap.size) : Below B a b := ⟨h.1.os, h.1.tape, h.1.output, h.1.size, fun k hk => h.2 k (by omega) (by omega)⟩
theorem Kp.drewN {g : Nat} {a b : World} (h : Kp g a b) (m : Nat) : Kp g a (b.drewN m) := ⟨⟨h.1.os, h.1.tape, h.1.output, h.1.size, h.1.block⟩, h.2⟩
theorem Kp.drew {g : Nat} {a b : World} (h : Kp g a b) : Kp g a b.drew := ⟨h.1.drew, h.2⟩
theorem Kp.setCell {g : Nat} {a b : World} (h : Kp g a b) (o : Nat) (v : Value) : Kp g a (b.setCell ⟨g, o, none⟩ v) := h.trans ((Only.refl g b).setCell o v).kp
theorem Kp.cell {g h q : Nat} {a b : World} (k : Kp g a b) (hl : h < a.heap.size) (hne : h ≠ g) : b.cell? ⟨h, q, none⟩ = a.cell? ⟨h, q, none⟩ := by
  unfold World.cell?
  rw [k.2 h hl hne]
section
variable {W0 W : World} {K : Nat} {N B : Nat → Nat} {G : Nat → Nat → Nat}
theorem Rw.set {w : World} {g N : Nat} {F : Nat → Nat} (h : Rw w g N F) (k v : Nat) (hv : v < 256) : Rw (w.setCell ⟨g, k, none⟩ (.int .u8 (v : Nat))) g N (fun i => if i = k then v else F i) := by
  refine ⟨h.1, fun i hi => ?_, (h.2.2.set k _).congr (fun i hi => ?_)⟩
  · dsimp only
    split
    · exact hv
    · exact h.2.1 i hi
  · dsimp only
    by_cases e : i = k
    · rw [if_pos e, if_pos e]
    · rw [if_neg e, if_neg e]
end
end Go.Proofs.YtehbiccpbopkfaaDoor
namespace Go.Proofs.YtehbiccpbopkfaaDoor
open Go.RowKit Gf2
set_option linter.unusedVariables false

/-- of what was there nothing but the blocks of E has turned; new memory may have come. -/
def Ke (E : Nat → Prop) (w w' : World) : Prop := Below 0 w w' ∧ ∀ b, b < w.heap.size → ¬ E b → w'.heap[b]? = w.heap[b]?
theorem Ke.refl (E : Nat → Prop) (w : World) : Ke E w w := ⟨Below.refl _ _, fun _ _ _ => rfl⟩
theorem Ke.size {E : Nat → Prop} {w w' : World} (h : Ke E w w') : w.heap.size ≤ w'.heap.size := h.1.size
theorem Ke.trans {E : Nat → Prop} {a b c : World} (h : Ke E a b) (k : Ke E b c) : Ke E a c := ⟨h.1.trans k.1, fun x hx hn => (k.2 x (Nat.lt_of_lt_of_le hx h.size) hn).trans (h.2 x hx hn)⟩
theorem Ke.mono {E E' : Nat → Prop} {a b : World} (h : Ke E a b) (hE : ∀ x, x < a.heap.size → E x → E' x) : Ke E' a b := ⟨h.1, fun x hx hn => h.2 x hx (fun e => hn (hE x hx e))⟩
theorem Kp.ke {g : Nat} {a b : World} (h : Kp g a b) : Ke (fun x => x = g) a b := ⟨h.1, fun x hx hn => h.2 x hx hn⟩
theorem Ke.kp {g : Nat} {a b : World} (h : Ke (fun x => x = g) a b) : Kp g a b := ⟨h.1, fun x hx hn => h.2 x hx hn⟩
theorem ke_below {a b : World} (h : Below a.heap.size a b) (E : Nat → Prop) : Ke E a b := ⟨h.mono (Nat.zero_le _), fun x hx _ => h.block x hx⟩
theorem Ke.below {E : Nat → Prop} {B : Nat} {a b : World} (h : Ke E a b) (hE : ∀ x, E x → B ≤ x) (hB : B ≤ a.heap.size) : Below B a b := ⟨h.1.os, h.1.tape, h.1.output, h.1.size, fun k hk => h.2 k (by omega) (fun e => by have := hE k e; omega)⟩
theorem Ke.drewN {E : Nat → Prop} {a b : World} (h : Ke E a b) (m : Nat) : Ke E a (b.drewN m) := ⟨⟨h.1.os, h.1.tape, h.1.output, h.1.size, h.1.block⟩, h.2⟩
theorem Ke.cell {E : Nat → Prop} {h q : Nat} {a b : World} (k : Ke E a b) (hl : h < a.heap.size) (hne : ¬ E h) : b.cell? ⟨h, q, none⟩ = a.cell? ⟨h, q, none⟩ := by
  unfold World.cell?
  rw [k.2 h hl hne]
/-- bytes behind a slice value, in no block of E. -/
def Re (E : Nat → Prop) (w : World) (v : Value) (n : Nat) (F : Nat → Nat) : Prop := n ≤ big ∧ (∀ i, i < n → F i < 256) ∧
  ∃ a cap, v = .slice a n cap ∧ n ≤ cap ∧ cap ≤ big ∧ (0 < n → ∃ b o, a = some ⟨b, o, none⟩ ∧ (b < w.heap.size ∧ ¬ E b) ∧ ∀ i, i < n → w.cell? ⟨b, o + i, none⟩ = some (.int .u8 (F i : Nat)))
theorem Re.rb {E : Nat → Prop} {w : World} {v : Value} {n : Nat} {F : Nat → Nat} (h : Re E w v n F) : Rb w v n F := by
  obtain ⟨h1, h2, a, cap, h3, h5, h6, h4⟩ := h
  refine ⟨h1, h2, a, cap, h3, h5, h6, fun h0 => ?_⟩
  obtain ⟨b, o, e, hl, hc⟩ := h4 h0
  exact ⟨b, o, e, hl.1, hc⟩
theorem Rb.re {E : Nat → Prop} {w : World} {v : Value} {n : Nat} {F : Nat → Nat} (h : Rb w v n F) (hE : ∀ x, x < w.heap.size → ¬ E x) : Re E w v n F := by
  obtain ⟨h1, h2, a, cap, h3, h5, h6, h4⟩ := h
  refine ⟨h1, h2, a, cap, h3, h5, h6, fun h0 => ?_⟩
  obtain ⟨b, o, e, hl, hc⟩ := h4 h0
  exact ⟨b, o, e, ⟨hl, hE b hl⟩, hc⟩
theorem Re.mono {E E' : Nat → Prop} {w : World} {v : Value} {n : Nat} {F : Nat → Nat} (h : Re E w v n F) (hE : ∀ x, x < w.heap.size → E' x → E x) : Re E' w v n F := by
  obtain ⟨h1, h2, a, cap, h3, h5, h6, h4⟩ := h
  refine ⟨h1, h2, a, cap, h3, h5, h6, fun h0 => ?_⟩
  obtain ⟨b, o, e, hl, hc⟩ := h4 h0
  exact ⟨b, o, e, ⟨hl.1, fun x => hl.2 (hE b hl.1 x)⟩, hc⟩
theorem Re.ke {E : Nat → Prop} {w w' : World} {v : Value} {n : Nat} {F : Nat → Nat} (h : Re E w v n F) (hk : Ke E w w') : Re E w' v n F := by
  obtain ⟨h1, h2, a, cap, h3, h5, h6, h4⟩ := h
  refine ⟨h1, h2, a, cap, h3, h5, h6, fun h0 => ?_⟩
  obtain ⟨b, o, e, hl, hc⟩ := h4 h0
  exact ⟨b, o, e, ⟨Nat.lt_of_lt_of_le hl.1 hk.size, hl.2⟩, fun i hi => (hk.cell hl.1 hl.2).trans (hc i hi)⟩
theorem Re.congr {E : Nat → Prop} {w : World} {v : Value} {n : Nat} {F G : Nat → Nat} (h : Re E w v n F) (e : ∀ i, i < n → F i = G i) : Re E w v n G := by
  obtain ⟨h1, h2, a, cap, h3, h5, h6, h4⟩ := h
  refine ⟨h1, fun i hi => by rw [← e i hi]; exact h2 i hi, a, cap, h3, h5, h6, fun h0 => ?_⟩
  obtain ⟨b, o, e', hl, hc⟩ := h4 h0
  exact ⟨b, o, e', hl, fun i hi => by rw [← e i hi]; exact hc i hi⟩
theorem Rw.re {E : Nat → Prop} {w : World} {g N n cap : Nat} {F : Nat → Nat} (h : Rw w g N F) (hn : n ≤ N) (hc : n ≤ cap) (hc2 : cap ≤ big) (hE : ¬ E g) : Re E w (.slice (some ⟨g, 0, none⟩) n cap) n F := by
  obtain ⟨h1, h2, h3⟩ := h
  exact ⟨by omega, fun i hi => h2 _ (by omega), _, _, rfl, hc, hc2, fun _ => ⟨g, 0, rfl, ⟨h3.lt, hE⟩, fun i hi => by rw [Nat.zero_add]; exact h3.cell (by omega)⟩⟩

/-- the sum of the products of R i and S i t, i below k. -/
def ks (R : Nat → Nat) (S : Nat → Nat → Nat) : Nat → Nat → Nat
  | 0, _ => 0
  | k + 1, t => ks R S k t ^^^ fm 285 (R k) (S k t)
section
variable {lo hi m : Nat} {w w' : World} {v : Value} {n C B : Nat → Nat} {S : Nat → Nat → Nat}
end
end Go.Proofs.YtehbiccpbopkfaaDoor
namespace Go.Proofs.YtehbiccpbopkfaaDoor
open Go.RowKit Gf2
set_option linter.unusedVariables false

/-- a row of ints. -/
def Ri (w : World) (g N : Nat) (F : Nat → Int) : Prop := N ≤ big ∧ True ∧ w.rowIs g 3 N (fun i => .int .i64 (F i))
/-- a list of ints that can be read. -/
def Qi (w : World) (v : Value) (n : Nat) (F : Nat → Int) : Prop := n ≤ big ∧ True ∧
  ∃ a cap, v = .slice a n cap ∧ n ≤ cap ∧ cap ≤ big ∧ (0 < n → ∃ b o, a = some ⟨b, o, none⟩ ∧ b < w.heap.size ∧ ∀ i, i < n → w.cell? ⟨b, o + i, none⟩ = some (.int .i64 (F i)))
theorem Ri.congr {w : World} {g N : Nat} {F G : Nat → Int} (h : Ri w g N F) (e : ∀ i, i < N → F i = G i) : Ri w g N G :=
  ⟨h.1, trivial, h.2.2.congr (fun i hi => by rw [e i hi])⟩
theorem Ri.below {w w' : World} {g N : Nat} {F : Nat → Int} (h : Ri w g N F) (hb : Below w.heap.size w w') : Ri w' g N F := ⟨h.1, h.2.1, h.2.2.of_block (hb.block g h.2.2.lt)⟩
theorem Ri.kp {w w' : World} {g k N : Nat} {F : Nat → Int} (h : Ri w g N F) (hk : Kp k w w') (hne : g ≠ k) : Ri w' g N F := ⟨h.1, h.2.1, h.2.2.of_block (hk.2 g h.2.2.lt hne)⟩
theorem Ri.ke {w w' : World} {g N : Nat} {E : Nat → Prop} {F : Nat → Int} (h : Ri w g N F) (hk : Ke E w w') (hne : ¬ E g) : Ri w' g N F := ⟨h.1, h.2.1, h.2.2.of_block (hk.2 g h.2.2.lt hne)⟩
theorem Ri.drewN {w : World} {g N : Nat} {F : Nat → Int} (h : Ri w g N F) (m : Nat) : Ri (w.drewN m) g N F := ⟨h.1, h.2.1, h.2.2.of_block rfl⟩
theorem Ri.qi {w : World} {g N n cap : Nat} {F T : Nat → Int} (h : Ri w g N F) (hn : n ≤ N) (hc : n ≤ cap) (hc2 : cap ≤ big) (e : ∀ i, i < n → F i = T i) : Qi w (.slice (some ⟨g, 0, none⟩) n cap) n T :=
  ⟨by have := h.1; omega, trivial, _, _, rfl, hc, hc2, fun _ => ⟨g, 0, rfl, h.2.2.lt, fun i hi => by rw [Nat.zero_add, ← e i hi]; exact h.2.2.cell (by omega)⟩⟩
theorem Qi.below {w w' : World} {v : Value} {n : Nat} {F : Nat → Int} (h : Qi w v n F) (hb : Below w.heap.size w w') : Qi w' v n F := by
  obtain ⟨h1, h2, a, cap, h3, h5, h6, h4⟩ := h
  refine ⟨h1, h2, a, cap, h3, h5, h6, fun h0 => ?_⟩
  obtain ⟨b, o, e, hl, hc⟩ := h4 h0
  exact ⟨b, o, e, Nat.lt_of_lt_of_le hl hb.size, fun i hi => (hb.cell (p := ⟨b, o + i, none⟩) hl).trans (hc i hi)⟩
theorem Qi.congr {w : World} {v : Value} {n : Nat} {F G : Nat → Int} (h : Qi w v n F) (e : ∀ i, i < n → F i = G i) : Qi w v n G := by
  obtain ⟨h1, h2, a, cap, h3, h5, h6, h4⟩ := h
  refine ⟨h1, trivial, a, cap, h3, h5, h6, fun h0 => ?_⟩
  obtain ⟨b, o, e1, hl, hc⟩ := h4 h0
  exact ⟨b, o, e1, hl, fun i hi => by rw [← e i hi]; exact hc i hi⟩
theorem Qi.drewN {w : World} {v : Value} {n : Nat} {F : Nat → Int} (h : Qi w v n F) (m : Nat) : Qi (w.drewN m) v n F := h
/-- S from place o on, n of them. -/
def plz (F : Nat → Int) (o n : Nat) (S : Nat → Int) (i : Nat) : Int := if o ≤ i ∧ i < o + n then S (i - o) else F i
theorem plz_out {F S : Nat → Int} {o n i : Nat} (h : i < o ∨ o + n ≤ i) : plz F o n S i = F i := by unfold plz; rw [if_neg (by omega)]
theorem plz_in {F S : Nat → Int} {o n i : Nat} (h : i < n) : plz F o n S (o + i) = S i := by unfold plz; rw [if_pos (by omega), Nat.add_sub_cancel_left]

theorem info_int : (Tryd.prog.info? 3).map (fun i => (i.zero, i.size, i.bytes)) = some (some (Value.int .i64 0), 1, 8) := by kernel_rfl
theorem Ri.set {w : World} {g N : Nat} {F : Nat → Int} (h : Ri w g N F) (k : Nat) (v : Int) : Ri (w.setCell ⟨g, k, none⟩ (.int .i64 v)) g N (fun i => if i = k then v else F i) := by
  refine ⟨h.1, trivial, (h.2.2.set k _).congr (fun i hi => ?_)⟩
  · dsimp only
    by_cases e : i = k
    · rw [if_pos e, if_pos e]
    · rw [if_neg e, if_neg e]
theorem Ri.lt {w : World} {g N : Nat} {F : Nat → Int} (h : Ri w g N F) : g < w.heap.size := h.2.2.lt
/-- S 0, .., S (n - 1) as cells. -/
def bi : Nat → (Nat → Int) → List Value
  | 0, _ => []
  | n + 1, S => Value.int .i64 (S 0) :: bi n (fun i => S (i + 1))
theorem bi_len : ∀ (n : Nat) (S : Nat → Int), (bi n S).length = n
  | 0, _ => rfl
  | n + 1, S => by rw [bi, List.length_cons, bi_len n]
theorem bi_get : ∀ (n : Nat) (S : Nat → Int) (i : Nat), i < n → (bi n S)[i]? = some (Value.int .i64 (S i))
  | 0, _, i, h => absurd h (Nat.not_lt_zero _)
  | n + 1, S, 0, _ => rfl
  | n + 1, S, i + 1, h => by rw [bi, List.getElem?_cons_succ]; exact bi_get n _ i (by omega)
theorem bi_one {n : Nat} {S : Nat → Int} : ∀ u ∈ bi n S, u.oneCell' = true := by
  intro u hu
  obtain ⟨i, hi⟩ := List.getElem?_of_mem hu
  have hl : i < n := by
    rcases Nat.lt_or_ge i n with h | h
    · exact h
    · rw [List.getElem?_eq_none (by rw [bi_len]; exact h)] at hi; cases hi
  rw [bi_get n S i hl] at hi
  cases hi
  rfl
theorem setCells_ri {g N : Nat} : ∀ (n : Nat) (S : Nat → Int) (o : Nat) (w : World) (F : Nat → Int), Ri w g N F → o + n ≤ N → Ri (w.setCells g o (bi n S)) g N (plz F o n S) ∧ Only g w (w.setCells g o (bi n S))
  | 0, S, o, w, F, h, _ => ⟨h.congr (fun i hi => (plz_out (by omega)).symm), Only.refl _ _⟩
  | n + 1, S, o, w, F, h, ho => by
    have h1 : Ri (w.setCell ⟨g, o, none⟩ (.int .i64 (S 0))) g N (fun i => if i = o then S 0 else F i) := by
      refine ⟨h.1, trivial, (h.2.2.set o _).congr (fun i hi => ?_)⟩
      · dsimp only
        by_cases e : i = o
        · rw [if_pos e, if_pos e]
        · rw [if_neg e, if_neg e]
    have o1 : Only g w (w.setCell ⟨g, o, none⟩ (.int .i64 (S 0))) := (Only.refl g w).setCell o _
    obtain ⟨h2, o2⟩ := setCells_ri n (fun i => S (i + 1)) (o + 1) _ _ h1 (by omega)
    refine ⟨h2.congr (fun i hi => ?_), o1.trans o2⟩
    unfold plz
    dsimp only
    by_cases e : i = o
    · rw [if_neg (by omega), if_pos e, if_pos (by omega), e, Nat.sub_self]
    · by_cases e2 : o + 1 ≤ i ∧ i < o + 1 + n
      · rw [if_pos e2, if_pos (by omega)]
        show S (i - (o + 1) + 1) = S (i - o)
        rw [show i - (o + 1) + 1 = i - o by omega]
      · rw [if_neg e2, if_neg e, if_neg (by omega)]

theorem info_inta : ∃ i, Tryd.prog.info? 3 = some i ∧ i.zero = some (Value.int .i64 0) ∧ i.size = 1 ∧ i.bytes = 8 := by
  have h := info_int
  cases hi : Tryd.prog.info? 3 with
  | none => rw [hi] at h; cases h
  | some i =>
    rw [hi] at h
    simp at h
    exact ⟨i, rfl, h.1, h.2.1, h.2.2⟩

/-- n bytes more behind the first L of a row. -/
theorem appi (w : World) {g C L : Nat} {F : Nat → Int} (hr : Ri w g C F) (hL : L ≤ C) {x : Option Addr} {n cx : Nat} {S : Nat → Int}
    (h4 : 0 < n → ∃ b p, x = some ⟨b, p, none⟩ ∧ ∀ i, i < n → w.cell? ⟨b, p + i, none⟩ = some (.int .i64 (S i))) (hn : (L + n) * 8 ≤ 140737488355328) :
    ∃ w' g' C' F', (Builtin.append_ #[70, 70] 70 #[.slice (some ⟨g, 0, none⟩) L C, .slice x n cx]).run Tryd.prog w = .ok (.slice (some ⟨g', 0, none⟩) (L + n) C') w' ∧
      L + n ≤ C' ∧ Ri w' g' C' F' ∧ (∀ i, i < L → F' i = F i) ∧ (∀ i, i < n → F' (L + i) = S i) ∧ ((g' = g ∧ Only g w w') ∨ (g' = w.heap.size ∧ w'.heap.size = w.heap.size + 1 ∧ Below w.heap.size w w')) := by
  obtain ⟨ti, hi, hz, hs1, hb1⟩ := info_inta
  by_cases h0 : n = 0
  · subst h0
    refine ⟨w, g, C, F, ?_, hL, hr, fun _ _ => rfl, fun i hi => absurd hi (Nat.not_lt_zero _), .inl ⟨rfl, Only.refl _ _⟩⟩
    cases x with
    | none =>
      have hs : Src Tryd.prog ti.size 70 (.slice none 0 cx) 0 [] w := Src.ofNil w Tryd.underlying70 cx
      exact run_append_nothing w 70 70 70 3 ti Tryd.underlying70 hi _ L C hL _ hs
    | some a =>
      have hs : Src Tryd.prog ti.size 70 (.slice (some a) 0 cx) 0 [] w := Src.ofSlice w Tryd.underlying70 a 0 cx [] (by simp) (fun j u h => by simp at h) (fun u h => by cases h)
      exact run_append_nothing w 70 70 70 3 ti Tryd.underlying70 hi _ L C hL _ hs
  · obtain ⟨b, p, rfl, hc⟩ := h4 (by omega)
    have ea : ∀ j, (⟨b, p, none⟩ : Addr).add j = ⟨b, p + j, none⟩ := fun j => by unfold Addr.add; split <;> simp_all
    have hs : Src Tryd.prog ti.size 70 (.slice (some ⟨b, p, none⟩) n cx) n (bi n S) w := Src.ofSlice w Tryd.underlying70 ⟨b, p, none⟩ n cx (bi n S) (by rw [bi_len, hs1, Nat.mul_one]) (fun j u h => by
      have hj : j < n := by
        rcases Nat.lt_or_ge j n with h9 | h9
        · exact h9
        · rw [List.getElem?_eq_none (by rw [bi_len]; exact h9)] at h; cases h
      rw [bi_get n S j hj] at h
      cases h
      rw [ea]
      exact hc j hj) bi_one
    by_cases hroom : L + n ≤ C
    · obtain ⟨k1, k2⟩ := setCells_ri n S L w F hr hroom
      have hrun := run_append_room_src w 70 70 70 3 ti Tryd.underlying70 hi g 0 L C _ n (bi n S) hs hroom
        (fun j hj => by rw [bi_len] at hj; rw [hs1, Nat.mul_one, Nat.zero_add, hr.2.2.cell (i := L + j) (by omega)]; rfl)
        (fun j hj => by rw [hs1, Nat.mul_one, Nat.zero_add]; exact hr.2.2.frozen _)
      rw [hs1, Nat.mul_one, Nat.zero_add] at hrun
      exact ⟨_, g, C, _, hrun, hroom, k1, fun i hi => plz_out (by omega), fun i hi => plz_in hi, .inl ⟨rfl, k2⟩⟩
    · have hold : (Builtin.firstCells ti.size L (.slice (some ⟨g, 0, none⟩) L C)).run Tryd.prog w.drew = .ok (bi L F).toArray w.drew := by
        refine run_firstCells_some w.drew ti.size L ⟨g, 0, none⟩ L C (bi L F) (by rw [bi_len, hs1, Nat.mul_one]) (fun j u hu => ?_)
        have hj : j < L := by
          rcases Nat.lt_or_ge j L with h9 | h9
          · exact h9
          · rw [List.getElem?_eq_none (by rw [bi_len]; exact h9)] at hu; cases hu
        rw [bi_get L F j hj] at hu
        cases hu
        rw [Addr.add_lit, Nat.zero_add]
        exact hr.2.2.cell (i := j) (by omega)
      have hrun := run_append_grow_src w 70 70 70 3 ti (Value.int .i64 0) Tryd.underlying70 hi hz (some ⟨g, 0, none⟩) L C (bi L F) hold _ n (bi n S) hs (by omega) (by omega) (growslice_fits (by omega) (by rw [hb1]; exact hn))
      have hge := grownCap_ge w (L + n) C 3
      have hcm := grownCap_le_maxLen w (L + n) C 3 (by unfold maxLen; omega)
      obtain ⟨C', hC'⟩ : ∃ C', C' = grownCap w (L + n) C 3 := ⟨_, rfl⟩
      rw [← hC'] at hrun hge hcm
      refine ⟨_, w.heap.size, C', fun i => if i < L then F i else if i < L + n then S (i - L) else 0, hrun, hge, ⟨by unfold big; unfold maxLen at hcm; exact hcm, trivial, _, heap_alloc_new _ _, ?_, fun i hi => ?_⟩, fun i hi => if_pos hi, fun i hi => ?_, .inr ⟨rfl, by simp, ?_⟩⟩
      · rw [Array.size_append, List.size_toArray, List.length_append, bi_len, bi_len, size_zeroCells]
        show L + n + (C' - (L + n)) * 1 = C'
        omega
      · show _ = some (Value.int .i64 (if i < L then F i else if i < L + n then S (i - L) else 0))
        by_cases e1 : i < L
        · rw [if_pos e1, Array.getElem?_append_left (by simp [bi_len]; omega), List.getElem?_toArray, List.getElem?_append_left (by rw [bi_len]; exact e1), bi_get _ _ _ e1]
        · by_cases e2 : i < L + n
          · rw [if_neg e1, if_pos e2, Array.getElem?_append_left (by simp [bi_len]; omega), List.getElem?_toArray, List.getElem?_append_right (by rw [bi_len]; omega), bi_len, bi_get _ _ _ (by omega)]
          · rw [if_neg e1, if_neg e2, Array.getElem?_append_right (by simp [bi_len]; omega)]
            have hk : i - ((bi L F ++ bi n S).toArray).size < C' - (L + n) := by simp [bi_len]; omega
            generalize i - ((bi L F ++ bi n S).toArray).size = k at hk
            simp [Builtin.zeroCells, Value.cells, hk, Nat.mod_one]
      · show (if L + i < L then F (L + i) else if L + i < L + n then S (L + i - L) else 0) = S i
        rw [if_neg (by omega), if_pos (by omega), Nat.add_sub_cancel_left]
      · exact ((Below.refl w.heap.size w).drew).alloc (by simp) _
/-- n bytes more behind nothing. -/
theorem appi_nil (w : World) {x : Option Addr} {n cx : Nat} {S : Nat → Int} (h0 : 0 < n)
    (h4 : ∃ b p, x = some ⟨b, p, none⟩ ∧ ∀ i, i < n → w.cell? ⟨b, p + i, none⟩ = some (.int .i64 (S i))) (hn : n * 8 ≤ 140737488355328) :
    ∃ w' C' F', (Builtin.append_ #[70, 70] 70 #[.slice none 0 0, .slice x n cx]).run Tryd.prog w = .ok (.slice (some ⟨w.heap.size, 0, none⟩) n C') w' ∧
      n ≤ C' ∧ Ri w' w.heap.size C' F' ∧ (∀ i, i < n → F' i = S i) ∧ w'.heap.size = w.heap.size + 1 ∧ Below w.heap.size w w' := by
  obtain ⟨ti, hi, hz, hs1, hb1⟩ := info_inta
  obtain ⟨b, p, rfl, hc⟩ := h4
  have ea : ∀ j, (⟨b, p, none⟩ : Addr).add j = ⟨b, p + j, none⟩ := fun j => by unfold Addr.add; split <;> simp_all
  have hs : Src Tryd.prog ti.size 70 (.slice (some ⟨b, p, none⟩) n cx) n (bi n S) w := Src.ofSlice w Tryd.underlying70 ⟨b, p, none⟩ n cx (bi n S) (by rw [bi_len, hs1, Nat.mul_one]) (fun j u h => by
    have hj : j < n := by
      rcases Nat.lt_or_ge j n with h9 | h9
      · exact h9
      · rw [List.getElem?_eq_none (by rw [bi_len]; exact h9)] at h; cases h
    rw [bi_get n S j hj] at h
    cases h
    rw [ea]
    exact hc j hj) bi_one
  have hold : (Builtin.firstCells ti.size 0 (.slice none 0 0)).run Tryd.prog w.drew = .ok (([] : List Value)).toArray w.drew := by
    simp [Builtin.firstCells]
  have hrun := run_append_grow_src w 70 70 70 3 ti (Value.int .i64 0) Tryd.underlying70 hi hz none 0 0 [] hold _ n (bi n S) hs (by omega) (by omega) (growslice_fits (by omega) (by rw [hb1]; omega))
  have hge := grownCap_ge w (0 + n) 0 3
  have hcm := grownCap_le_maxLen w (0 + n) 0 3 (by unfold maxLen; omega)
  obtain ⟨C', hC'⟩ : ∃ C', C' = grownCap w (0 + n) 0 3 := ⟨_, rfl⟩
  rw [← hC'] at hrun hge hcm
  rw [Nat.zero_add] at hrun hge
  refine ⟨_, C', fun i => if i < n then S i else 0, hrun, hge, ⟨by unfold big; unfold maxLen at hcm; exact hcm, trivial, _, heap_alloc_new _ _, ?_, fun i hi => ?_⟩, fun i hi => if_pos hi, by simp, ?_⟩
  · rw [Array.size_append, List.size_toArray, List.length_append, bi_len, size_zeroCells]
    show 0 + n + (C' - n) * 1 = C'
    omega
  · show _ = some (Value.int .i64 (if i < n then S i else 0))
    rw [List.nil_append]
    by_cases e2 : i < n
    · rw [if_pos e2, Array.getElem?_append_left (by simp [bi_len]; omega), List.getElem?_toArray, bi_get _ _ _ e2]
    · rw [if_neg e2, Array.getElem?_append_right (by simp [bi_len]; omega)]
      have hk : i - ((bi n S).toArray).size < C' - n := by simp [bi_len]; omega
      generalize i - ((bi n S).toArray).size = k at hk
      simp [Builtin.zeroCells, Value.cells, hk, Nat.mod_one]
  · exact ((Below.refl w.heap.size w).drew).alloc (by simp) _

/-- a list of ints that grows by append, in a block from lo on. -/
def Gj (lo : Nat) (W : World) (v : Value) (L : Nat) (S : Nat → Int) : Prop := (L = 0 ∧ v = .slice none 0 0) ∨ ∃ g C F, v = .slice (some ⟨g, 0, none⟩) L C ∧ L ≤ C ∧ lo ≤ g ∧ Ri W g C F ∧ ∀ i, i < L → F i = S i
theorem Gj.start (lo : Nat) (W : World) (S : Nat → Int) : Gj lo W (.slice none 0 0) 0 S := .inl ⟨rfl, rfl⟩
theorem Gj.keep {E : Nat → Prop} {lo : Nat} {W W' : World} {v : Value} {L : Nat} {S : Nat → Int} (h : Gj lo W v L S) (hk : Ke E W W') (hE : ∀ x, lo ≤ x → ¬ E x) : Gj lo W' v L S := by
  rcases h with h | ⟨g, C, F, a1, a2, a3, a4, a5⟩
  · exact .inl h
  · exact .inr ⟨g, C, F, a1, a2, a3, a4.ke hk (hE g a3), a5⟩
theorem Gj.below {lo : Nat} {W W' : World} {v : Value} {L : Nat} {S : Nat → Int} (h : Gj lo W v L S) (hb : Below W.heap.size W W') : Gj lo W' v L S := h.keep (ke_below hb (fun _ => False)) (fun _ _ e => e)
theorem Gj.congr {lo : Nat} {W : World} {v : Value} {L : Nat} {S T : Nat → Int} (h : Gj lo W v L S) (e : ∀ i, i < L → S i = T i) : Gj lo W v L T := by
  rcases h with h | ⟨g, C, F, a1, a2, a3, a4, a5⟩
  · exact .inl h
  · exact .inr ⟨g, C, F, a1, a2, a3, a4, fun i hi => (a5 i hi).trans (e i hi)⟩
theorem Gj.qi {lo : Nat} {W : World} {v : Value} {L : Nat} {S : Nat → Int} (h : Gj lo W v L S) : Qi W v L S := by
  rcases h with ⟨rfl, rfl⟩ | ⟨g, C, F, rfl, a2, a3, a4, a5⟩
  · exact ⟨by decide, trivial, none, 0, rfl, Nat.le_refl _, by decide, fun h => absurd h (Nat.lt_irrefl _)⟩
  · exact a4.qi a2 a2 a4.1 a5
/-- one int more. -/
theorem app_gj {lo : Nat} {W : World} {v : Value} {L : Nat} {S : Nat → Int} (h : Gj lo W v L S) (hlo : lo ≤ W.heap.size) (t : Int) (hL : (L + 1) * 8 ≤ 140737488355328) :
    ∃ w' v', (Builtin.append_ #[70, 70] 70 #[v, .slice (some ⟨W.heap.size, 0, none⟩) 1 1]).run Tryd.prog (W.alloc (.cells #[.int .i64 t] 3)) = .ok v' w' ∧ Gj lo w' v' (L + 1) (fun i => if i < L then S i else t) ∧ Below lo W w' := by
  have hb0 : Below W.heap.size W (W.alloc (.cells #[.int .i64 t] 3)) := (Below.refl _ _).alloc (Nat.le_refl _) _
  have hsz : (W.alloc (.cells #[.int .i64 t] 3)).heap.size = W.heap.size + 1 := by simp
  have hcell : ∀ i, i < 1 → (W.alloc (.cells #[.int .i64 t] 3)).cell? ⟨W.heap.size, 0 + i, none⟩ = some (.int .i64 ((fun _ => t) i)) := by
    intro i hi
    obtain rfl : i = 0 := by omega
    rw [cell_of_row _ W.heap.size (0 + 0) _ _ _ (heap_alloc_new _ _)]
    rfl
  have h1 := h.below hb0
  rcases h1 with ⟨rfl, rfl⟩ | ⟨g, C, F, rfl, a2, a3, a4, a5⟩
  · obtain ⟨w', C', F', hrun, hC, hR, hF, hs, hb⟩ := appi_nil (W.alloc (.cells #[.int .i64 t] 3)) (x := some ⟨W.heap.size, 0, none⟩) (n := 1) (cx := 1) (S := fun _ => t) (by decide) ⟨_, _, rfl, hcell⟩ (by omega)
    refine ⟨w', _, hrun, .inr ⟨_, C', F', rfl, hC, by omega, hR, fun i hi => ?_⟩, (hb0.mono hlo).trans (hb.mono (by omega))⟩
    rw [hF i (by omega)]
    show t = if i < 0 then S i else t
    rw [if_neg (Nat.not_lt_zero _)]
  · obtain ⟨w', g', C', F', hrun, hC, hR, hF1, hF2, hcase⟩ := appi (W.alloc (.cells #[.int .i64 t] 3)) (g := g) (C := C) (L := L) a4 a2 (x := some ⟨W.heap.size, 0, none⟩) (n := 1) (cx := 1) (S := fun _ => t) (fun _ => ⟨_, _, rfl, hcell⟩) hL
    refine ⟨w', _, hrun, .inr ⟨g', C', F', rfl, hC, ?_, hR, fun i hi => ?_⟩, (hb0.mono hlo).trans ?_⟩
    · rcases hcase with ⟨rfl, ho⟩ | ⟨rfl, -, hb⟩
      · exact a3
      · omega
    · dsimp only
      by_cases e : i < L
      · rw [if_pos e, hF1 i e]; exact a5 i e
      · rw [if_neg e, show i = L + 0 by omega]
        exact hF2 0 (by decide)
    · rcases hcase with ⟨rfl, ho⟩ | ⟨rfl, -, hb⟩
      · exact ho.below a3
      · exact hb.mono (by omega)
end Go.Proofs.YtehbiccpbopkfaaDoor
namespace Go.Proofs.YtehbiccpbopkfaaDoor
open Go.RowKit Gf2
set_option linter.unusedVariables false

/-- S, but x at row i and column j. -/
def st2 (S : Nat → Nat → Nat) (i j x : Nat) : Nat → Nat → Nat := fun r c => if r = i ∧ c = j then x else S r c
section
variable {lo hi m : Nat} {w w' : World} {v : Value} {n C B : Nat → Nat} {S : Nat → Nat → Nat}
end

end Go.Proofs.YtehbiccpbopkfaaDoor
