import Derived.Test.YtidcdbjhkgpjcaaDoorWalki
import Derived.Test.YtidcdbjhkgpjcaaDoorLma
import Derived.Below
import Derived.Deep.OwnRows
import Derived.Laws.CopyOwn
import Derived.Deep.WholeRow
import Derived.Deep.QuietTactic
import Derived.BigQuiet
import Derived.StillTailTactics
import Derived.Deep.Upon
import Derived.Lib.AppendZeros
namespace Go.Proofs.YtidcdbjhkgpjcaaDoor
open Go.RowKit Gf2
set_option linter.unusedVariables false

-- lists of words of sixteen bits
/-- the greatest length. -/
def big : Nat := 9223372036854775807
/-- nothing but block g has turned, and nothing is new. -/
def Only (g : Nat) (w w' : World) : Prop := Below 0 w w' ∧ w'.heap.size = w.heap.size ∧ ∀ b, b ≠ g → w'.heap[b]? = w.heap[b]?
theorem wrap_succ8 {j : Nat} (h : j < big) : wrap64 ((j : Int) + 1) = (j : Int) + 1 := by unfold big at h; unfold wrap64; omega
theorem meas_lt8 {l k : Nat} (h : k < l) : l - (intOf (Value.int .i64 ((k : Int) + 1))).toNat < l - (intOf (Value.int .i64 (k : Int))).toNat := by
  simp [intOf]; omega
theorem Only.refl (g : Nat) (w : World) : Only g w w := ⟨Below.refl _ _, rfl, fun _ _ => rfl⟩
theorem Only.trans {g : Nat} {a b c : World} (h : Only g a b) (k : Only g b c) : Only g a c := ⟨h.1.trans k.1, k.2.1.trans h.2.1, fun x hx => (k.2.2 x hx).trans (h.2.2 x hx)⟩
theorem Only.drewN {g : Nat} {a b : World} (h : Only g a b) (m : Nat) : Only g a (b.drewN m) := ⟨⟨h.1.os, h.1.tape, h.1.output, h.1.size, h.1.block⟩, h.2.1, h.2.2⟩
theorem Only.drew {g : Nat} {a b : World} (h : Only g a b) : Only g a b.drew := ⟨h.1.drew, h.2.1, h.2.2⟩
theorem Only.setCell {g : Nat} {a b : World} (h : Only g a b) (o : Nat) (v : Value) : Only g a (b.setCell ⟨g, o, none⟩ v) :=
  ⟨h.1.setCell (Nat.zero_le _) v, by rw [World.size_setCell]; exact h.2.1, fun x hx => by rw [← h.2.2 x hx]; exact heap_setCell_other _ _ _ _ hx⟩
theorem Only.setRow {g : Nat} {a b : World} (h : Only g a b) (cs : Array Value) : Only g a (b.setRow g cs) :=
  ⟨below_setRow h.1 (Nat.zero_le _) cs, by rw [setRow_size]; exact h.2.1, fun x hx => by rw [← h.2.2 x hx]; exact setRow_other _ _ _ _ hx⟩
theorem Only.below {g B : Nat} {a b : World} (h : Only g a b) (hg : B ≤ g) : Below B a b :=
  ⟨h.1.os, h.1.tape, h.1.output, h.1.size, fun k hk => h.2.2 k (by omega)⟩
def pl (F : Nat → Nat) (o n : Nat) (S : Nat → Nat) (i : Nat) : Nat := if o ≤ i ∧ i < o + n then S (i - o) else F i
theorem pl_in {F : Nat → Nat} {o n : Nat} {S : Nat → Nat} {i : Nat} (h : i < n) : pl F o n S (o + i) = S i := by unfold pl; rw [if_pos (by omega), Nat.add_sub_cancel_left]
theorem pl_out {F : Nat → Nat} {o n : Nat} {S : Nat → Nat} {i : Nat} (h : i < o ∨ o + n ≤ i) : pl F o n S i = F i := by unfold pl; rw [if_neg (by omega)]
theorem below_drewN {B : Nat} {W W' : World} (h : Below B W W') (m : Nat) : Below B W (W'.drewN m) := ⟨h.os, h.tape, h.output, h.size, h.block⟩
/-- of what was there nothing but block g has turned. -/
def Kp (g : Nat) (w w' : World) : Prop := Below 0 w w' ∧ ∀ b, b < w.heap.size → b ≠ g → w'.heap[b]? = w.heap[b]?
theorem Kp.refl (g : Nat) (w : World) : Kp g w w := ⟨Below.refl _ _, fun _ _ _ => rfl⟩
theorem Kp.size {g : Nat} {w w' : World} (h : Kp g w w') : w.heap.size ≤ w'.heap.size := h.1.size
theorem Kp.trans {g : Nat} {a b c : World} (h : Kp g a b) (k : Kp g b c) : Kp g a c := ⟨h.1.trans k.1, fun x hx hn => (k.2 x (Nat.lt_of_lt_of_le hx h.size) hn).trans (h.2 x hx hn)⟩
theorem Only.kp {g : Nat} {a b : World} (h : Only g a b) : Kp g a b := ⟨h.1, fun x _ hn => h.2.2 x hn⟩
theorem kp_below {a b : World} (h : Below a.heap.size a b) (g : Nat) : Kp g a b := ⟨h.mono (Nat.zero_le _), fun x hx _ => h.block x hx⟩
theorem Kp.below {g B : Nat} {a b : World} (h : Kp g a b) (hg : B ≤ g) (hB : B ≤ a.heap.size) : Below B a b := ⟨h.1.os, h.1.tape, h.1.output, h.1.size, fun k hk => h.2 k (by omega) (by omega)⟩
theorem Kp.drewN {g : Nat} {a b : World} (h : Kp g a b) (m : Nat) : Kp g a (b.drewN m) := ⟨⟨h.1.os, h.1.tape, h.1.output, h.1.size, h.1.block⟩, h.2⟩
theorem Kp.drew {g : Nat} {a b : World} (h : Kp g a b) : Kp g a b.drew := ⟨h.1.drew, h.2⟩
theorem Kp.setCell {g : Nat} {a b : World} (h : Kp g a b) (o : Nat) (v : Value) : Kp g a (b.setCell ⟨g, o, none⟩ v) := h.trans ((Only.refl g b).setCell o v).kp
theorem Kp.cell {g h q : Nat} {a b : World} (k : Kp g a b) (hl : h < a.heap.size) (hne : h ≠ g) : b.cell? ⟨h, q, none⟩ = a.cell? ⟨h, q, none⟩ := by
  unfold World.cell?
  rw [k.2 h hl hne]
/-- words of sixteen bits behind a slice value. -/
def Q6 (w : World) (v : Value) (n : Nat) (F : Nat → Nat) : Prop := n ≤ big ∧ (∀ i, i < n → F i < 65536) ∧
  ∃ a cap, v = .slice a n cap ∧ n ≤ cap ∧ cap ≤ big ∧ (0 < n → ∃ b o, a = some ⟨b, o, none⟩ ∧ b < w.heap.size ∧ ∀ i, i < n → w.cell? ⟨b, o + i, none⟩ = some (.int .u16 (F i : Nat)))
/-- words of sixteen bits in a row of its own. -/
def R6 (w : World) (g N : Nat) (F : Nat → Nat) : Prop := N ≤ big ∧ (∀ i, i < N → F i < 65536) ∧ w.rowIs g 26 N (fun i => .int .u16 (F i : Nat))
/-- an answered list of words. -/
def Nh (w w' : World) (v : Value) (m : Nat) (T : Nat → Nat) : Prop := (m = 0 ∧ ∃ a, v = .slice a 0 0) ∨ ∃ b C F, v = .slice (some ⟨b, 0, none⟩) m C ∧ m ≤ C ∧ w.heap.size ≤ b ∧ R6 w' b C F ∧ ∀ i, i < m → F i = T i
theorem R6.congr {w : World} {g N : Nat} {F G : Nat → Nat} (h : R6 w g N F) (e : ∀ i, i < N → F i = G i) : R6 w g N G :=
  ⟨h.1, fun i hi => by rw [← e i hi]; exact h.2.1 i hi, h.2.2.congr (fun i hi => by rw [e i hi])⟩
theorem R6.below {w w' : World} {g N : Nat} {F : Nat → Nat} (h : R6 w g N F) (hb : Below w.heap.size w w') : R6 w' g N F := ⟨h.1, h.2.1, h.2.2.of_block (hb.block g h.2.2.lt)⟩
theorem R6.kp {w w' : World} {g k N : Nat} {F : Nat → Nat} (h : R6 w g N F) (hk : Kp k w w') (hne : g ≠ k) : R6 w' g N F := ⟨h.1, h.2.1, h.2.2.of_block (hk.2 g h.2.2.lt hne)⟩
theorem R6.drewN {w : World} {g N : Nat} {F : Nat → Nat} (h : R6 w g N F) (m : Nat) : R6 (w.drewN m) g N F := ⟨h.1, h.2.1, h.2.2.of_block rfl⟩
theorem R6.q6 {w : World} {g N n cap : Nat} {F T : Nat → Nat} (h : R6 w g N F) (hn : n ≤ N) (hc : n ≤ cap) (hc2 : cap ≤ big) (e : ∀ i, i < n → F i = T i) : Q6 w (.slice (some ⟨g, 0, none⟩) n cap) n T :=
  ⟨by have := h.1; omega, fun i hi => by rw [← e i hi]; exact h.2.1 i (by omega), _, _, rfl, hc, hc2, fun _ => ⟨g, 0, rfl, h.2.2.lt, fun i hi => by rw [Nat.zero_add, ← e i hi]; exact h.2.2.cell (by omega)⟩⟩
theorem Q6.below {w w' : World} {v : Value} {n : Nat} {F : Nat → Nat} (h : Q6 w v n F) (hb : Below w.heap.size w w') : Q6 w' v n F := by
  obtain ⟨h1, h2, a, cap, h3, h5, h6, h4⟩ := h
  refine ⟨h1, h2, a, cap, h3, h5, h6, fun h0 => ?_⟩
  obtain ⟨b, o, e, hl, hc⟩ := h4 h0
  exact ⟨b, o, e, Nat.lt_of_lt_of_le hl hb.size, fun i hi => (hb.cell (p := ⟨b, o + i, none⟩) hl).trans (hc i hi)⟩
theorem Q6.congr {w : World} {v : Value} {n : Nat} {F G : Nat → Nat} (h : Q6 w v n F) (e : ∀ i, i < n → F i = G i) : Q6 w v n G := by
  obtain ⟨h1, h2, a, cap, h3, h5, h6, h4⟩ := h
  refine ⟨h1, fun i hi => by rw [← e i hi]; exact h2 i hi, a, cap, h3, h5, h6, fun h0 => ?_⟩
  obtain ⟨b, o, e1, hl, hc⟩ := h4 h0
  exact ⟨b, o, e1, hl, fun i hi => by rw [← e i hi]; exact hc i hi⟩
theorem Nh.q6 {w w' : World} {v : Value} {m : Nat} {T : Nat → Nat} (h : Nh w w' v m T) : Q6 w' v m T := by
  rcases h with ⟨rfl, a, rfl⟩ | ⟨b, C, F, rfl, h1, h2, h3, h4⟩
  · exact ⟨by decide, fun i hi => absurd hi (Nat.not_lt_zero _), a, 0, rfl, Nat.le_refl _, by decide, fun h => absurd h (Nat.lt_irrefl _)⟩
  · exact h3.q6 h1 h1 h3.1 h4
theorem info_w6 : (Tryd.prog.info? 26).map (fun i => (i.zero, i.size, i.bytes)) = some (some (Value.int .u16 0), 1, 2) := by kernel_rfl
theorem R6.set {w : World} {g N : Nat} {F : Nat → Nat} (h : R6 w g N F) (k v : Nat) (hv : v < 65536) : R6 (w.setCell ⟨g, k, none⟩ (.int .u16 (v : Nat))) g N (fun i => if i = k then v else F i) := by
  refine ⟨h.1, fun i hi => ?_, (h.2.2.set k _).congr (fun i hi => ?_)⟩
  · dsimp only
    split
    · exact hv
    · exact h.2.1 i hi
  · dsimp only
    by_cases e : i = k
    · rw [if_pos e, if_pos e]
    · rw [if_neg e, if_neg e]
theorem Only.r6_ {g k N : Nat} {F : Nat → Nat} {a b : World} (h : Only g a b) (hk : R6 a k N F) (hne : k ≠ g) : R6 b k N F := hk.kp h.kp hne
theorem R6.lt {w : World} {g N : Nat} {F : Nat → Nat} (h : R6 w g N F) : g < w.heap.size := h.2.2.lt
theorem r6_below {w w' : World} {g N : Nat} {F : Nat → Nat} (h : R6 w g N F) (hb : Below w.heap.size w w') : R6 w' g N F := h.below hb
/-- S 0, .., S (n - 1) as cells. -/
def bh : Nat → (Nat → Nat) → List Value
  | 0, _ => []
  | n + 1, S => Value.int .u16 ((S 0 : Nat) : Int) :: bh n (fun i => S (i + 1))
theorem bh_len : ∀ (n : Nat) (S : Nat → Nat), (bh n S).length = n
  | 0, _ => rfl
  | n + 1, S => by rw [bh, List.length_cons, bh_len n]
theorem bh_get : ∀ (n : Nat) (S : Nat → Nat) (i : Nat), i < n → (bh n S)[i]? = some (Value.int .u16 ((S i : Nat) : Int))
  | 0, _, i, h => absurd h (Nat.not_lt_zero _)
  | n + 1, S, 0, _ => rfl
  | n + 1, S, i + 1, h => by rw [bh, List.getElem?_cons_succ]; exact bh_get n _ i (by omega)
theorem bh_one {n : Nat} {S : Nat → Nat} : ∀ u ∈ bh n S, u.oneCell' = true := by
  intro u hu
  obtain ⟨i, hi⟩ := List.getElem?_of_mem hu
  have hl : i < n := by
    rcases Nat.lt_or_ge i n with h | h
    · exact h
    · rw [List.getElem?_eq_none (by rw [bh_len]; exact h)] at hi; cases hi
  rw [bh_get n S i hl] at hi
  cases hi
  rfl
theorem setCells_r6 {g N : Nat} : ∀ (n : Nat) (S : Nat → Nat) (o : Nat) (w : World) (F : Nat → Nat), R6 w g N F → o + n ≤ N → (∀ i, i < n → S i < 65536) → R6 (w.setCells g o (bh n S)) g N (pl F o n S) ∧ Only g w (w.setCells g o (bh n S))
  | 0, S, o, w, F, h, _, _ => ⟨h.congr (fun i hi => (pl_out (by omega)).symm), Only.refl _ _⟩
  | n + 1, S, o, w, F, h, ho, hS => by
    have h1 : R6 (w.setCell ⟨g, o, none⟩ (.int .u16 ((S 0 : Nat) : Int))) g N (fun i => if i = o then S 0 else F i) := by
      refine ⟨h.1, fun i hi => ?_, (h.2.2.set o _).congr (fun i hi => ?_)⟩
      · dsimp only
        split
        · exact hS 0 (by omega)
        · exact h.2.1 i hi
      · dsimp only
        by_cases e : i = o
        · rw [if_pos e, if_pos e]
        · rw [if_neg e, if_neg e]
    have o1 : Only g w (w.setCell ⟨g, o, none⟩ (.int .u16 ((S 0 : Nat) : Int))) := (Only.refl g w).setCell o _
    obtain ⟨h2, o2⟩ := setCells_r6 n (fun i => S (i + 1)) (o + 1) _ _ h1 (by omega) (fun i hi => hS (i + 1) (by omega))
    refine ⟨h2.congr (fun i hi => ?_), o1.trans o2⟩
    unfold pl
    dsimp only
    by_cases e : i = o
    · rw [if_neg (by omega), if_pos e, if_pos (by omega), e, Nat.sub_self]
    · by_cases e2 : o + 1 ≤ i ∧ i < o + 1 + n
      · rw [if_pos e2, if_pos (by omega)]
        show S (i - (o + 1) + 1) = S (i - o)
        rw [show i - (o + 1) + 1 = i - o by omega]
      · rw [if_neg e2, if_neg e, if_neg (by omega)]

theorem info_w6a : ∃ i, Tryd.prog.info? 26 = some i ∧ i.zero = some (Value.int .u16 0) ∧ i.size = 1 ∧ i.bytes = 2 := by
  have h := info_w6
  cases hi : Tryd.prog.info? 26 with
  | none => rw [hi] at h; cases h
  | some i =>
    rw [hi] at h
    simp at h
    exact ⟨i, rfl, h.1, h.2.1, h.2.2⟩

/-- n bytes more behind the first L of a row. -/
theorem app16 (w : World) {g C L : Nat} {F : Nat → Nat} (hr : R6 w g C F) (hL : L ≤ C) {x : Option Addr} {n cx : Nat} {S : Nat → Nat} (hS : ∀ i, i < n → S i < 65536)
    (h4 : 0 < n → ∃ b p, x = some ⟨b, p, none⟩ ∧ ∀ i, i < n → w.cell? ⟨b, p + i, none⟩ = some (.int .u16 (S i : Nat))) (hn : (L + n) * 2 ≤ 140737488355328) :
    ∃ w' g' C' F', (Builtin.append_ #[27, 27] 27 #[.slice (some ⟨g, 0, none⟩) L C, .slice x n cx]).run Tryd.prog w = .ok (.slice (some ⟨g', 0, none⟩) (L + n) C') w' ∧
      L + n ≤ C' ∧ R6 w' g' C' F' ∧ (∀ i, i < L → F' i = F i) ∧ (∀ i, i < n → F' (L + i) = S i) ∧ ((g' = g ∧ Only g w w') ∨ (g' = w.heap.size ∧ w'.heap.size = w.heap.size + 1 ∧ Below w.heap.size w w')) := by
  obtain ⟨ti, hi, hz, hs1, hb1⟩ := info_w6a
  by_cases h0 : n = 0
  · subst h0
    refine ⟨w, g, C, F, ?_, hL, hr, fun _ _ => rfl, fun i hi => absurd hi (Nat.not_lt_zero _), .inl ⟨rfl, Only.refl _ _⟩⟩
    cases x with
    | none =>
      have hs : Src Tryd.prog ti.size 27 (.slice none 0 cx) 0 [] w := Src.ofNil w Tryd.underlying27 cx
      exact run_append_nothing w 27 27 27 26 ti Tryd.underlying27 hi _ L C hL _ hs
    | some a =>
      have hs : Src Tryd.prog ti.size 27 (.slice (some a) 0 cx) 0 [] w := Src.ofSlice w Tryd.underlying27 a 0 cx [] (by simp) (fun j u h => by simp at h) (fun u h => by cases h)
      exact run_append_nothing w 27 27 27 26 ti Tryd.underlying27 hi _ L C hL _ hs
  · obtain ⟨b, p, rfl, hc⟩ := h4 (by omega)
    have ea : ∀ j, (⟨b, p, none⟩ : Addr).add j = ⟨b, p + j, none⟩ := fun j => by unfold Addr.add; split <;> simp_all
    have hs : Src Tryd.prog ti.size 27 (.slice (some ⟨b, p, none⟩) n cx) n (bh n S) w := Src.ofSlice w Tryd.underlying27 ⟨b, p, none⟩ n cx (bh n S) (by rw [bh_len, hs1, Nat.mul_one]) (fun j u h => by
      have hj : j < n := by
        rcases Nat.lt_or_ge j n with h9 | h9
        · exact h9
        · rw [List.getElem?_eq_none (by rw [bh_len]; exact h9)] at h; cases h
      rw [bh_get n S j hj] at h
      cases h
      rw [ea]
      exact hc j hj) bh_one
    by_cases hroom : L + n ≤ C
    · obtain ⟨k1, k2⟩ := setCells_r6 n S L w F hr hroom hS
      have hrun := run_append_room_src w 27 27 27 26 ti Tryd.underlying27 hi g 0 L C _ n (bh n S) hs hroom
        (fun j hj => by rw [bh_len] at hj; rw [hs1, Nat.mul_one, Nat.zero_add, hr.2.2.cell (i := L + j) (by omega)]; rfl)
        (fun j hj => by rw [hs1, Nat.mul_one, Nat.zero_add]; exact hr.2.2.frozen _)
      rw [hs1, Nat.mul_one, Nat.zero_add] at hrun
      exact ⟨_, g, C, _, hrun, hroom, k1, fun i hi => pl_out (by omega), fun i hi => pl_in hi, .inl ⟨rfl, k2⟩⟩
    · have hold : (Builtin.firstCells ti.size L (.slice (some ⟨g, 0, none⟩) L C)).run Tryd.prog w.drew = .ok (bh L F).toArray w.drew := by
        refine run_firstCells_some w.drew ti.size L ⟨g, 0, none⟩ L C (bh L F) (by rw [bh_len, hs1, Nat.mul_one]) (fun j u hu => ?_)
        have hj : j < L := by
          rcases Nat.lt_or_ge j L with h9 | h9
          · exact h9
          · rw [List.getElem?_eq_none (by rw [bh_len]; exact h9)] at hu; cases hu
        rw [bh_get L F j hj] at hu
        cases hu
        rw [Addr.add_lit, Nat.zero_add]
        exact hr.2.2.cell (i := j) (by omega)
      have hrun := run_append_grow_src w 27 27 27 26 ti (Value.int .u16 0) Tryd.underlying27 hi hz (some ⟨g, 0, none⟩) L C (bh L F) hold _ n (bh n S) hs (by omega) (by omega) (growslice_fits (by omega) (by rw [hb1]; exact hn))
      have hge := grownCap_ge w (L + n) C 26
      have hcm := grownCap_le_maxLen w (L + n) C 26 (by unfold maxLen; omega)
      obtain ⟨C', hC'⟩ : ∃ C', C' = grownCap w (L + n) C 26 := ⟨_, rfl⟩
      rw [← hC'] at hrun hge hcm
      have hF0 : ∀ i, i < L → F i < 65536 := fun i hi => hr.2.1 i (by omega)
      refine ⟨_, w.heap.size, C', fun i => if i < L then F i else if i < L + n then S (i - L) else 0, hrun, hge, ⟨by unfold big; unfold maxLen at hcm; exact hcm, fun i hi => ?_, _, heap_alloc_new _ _, ?_, fun i hi => ?_⟩, fun i hi => if_pos hi, fun i hi => ?_, .inr ⟨rfl, by simp, ?_⟩⟩
      · dsimp only
        split
        · exact hF0 i (by assumption)
        · split
          · exact hS _ (by omega)
          · decide
      · rw [Array.size_append, List.size_toArray, List.length_append, bh_len, bh_len, size_zeroCells]
        show L + n + (C' - (L + n)) * 1 = C'
        omega
      · show _ = some (Value.int .u16 (((if i < L then F i else if i < L + n then S (i - L) else 0) : Nat) : Int))
        by_cases e1 : i < L
        · rw [if_pos e1, Array.getElem?_append_left (by simp [bh_len]; omega), List.getElem?_toArray, List.getElem?_append_left (by rw [bh_len]; exact e1), bh_get _ _ _ e1]
        · by_cases e2 : i < L + n
          · rw [if_neg e1, if_pos e2, Array.getElem?_append_left (by simp [bh_len]; omega), List.getElem?_toArray, List.getElem?_append_right (by rw [bh_len]; omega), bh_len, bh_get _ _ _ (by omega)]
          · rw [if_neg e1, if_neg e2, Array.getElem?_append_right (by simp [bh_len]; omega)]
            have hk : i - ((bh L F ++ bh n S).toArray).size < C' - (L + n) := by simp [bh_len]; omega
            generalize i - ((bh L F ++ bh n S).toArray).size = k at hk
            simp [Builtin.zeroCells, Value.cells, hk, Nat.mod_one]
      · show (if L + i < L then F (L + i) else if L + i < L + n then S (L + i - L) else 0) = S i
        rw [if_neg (by omega), if_pos (by omega), Nat.add_sub_cancel_left]
      · exact ((Below.refl w.heap.size w).drew).alloc (by simp) _
def Dif (v u : Value) : Prop := ∀ b o o' L L' C C', v = .slice (some ⟨b, o, none⟩) L C → u = .slice (some ⟨b, o', none⟩) L' C' → False
theorem Dif.nil (u : Value) : Dif (.slice none 0 0) u := fun b o o' L L' C C' h => by cases h
theorem Dif.symm {v u : Value} (h : Dif v u) : Dif u v := fun b o o' L L' C C' h1 h2 => h b o' o L' L C' C h2 h1
/-- a list that grows by append: L bytes S, nil while there is none, else in a row of its own. -/
def Gv (w0 W : World) (v : Value) (L : Nat) (S : Nat → Nat) : Prop := Below w0.heap.size w0 W ∧ ((L = 0 ∧ v = .slice none 0 0) ∨ ∃ g C F, v = .slice (some ⟨g, 0, none⟩) L C ∧ L ≤ C ∧ w0.heap.size ≤ g ∧ R6 W g C F ∧ ∀ i, i < L → F i = S i)
theorem Gv.start (w0 : World) (S : Nat → Nat) : Gv w0 w0 (.slice none 0 0) 0 S := ⟨Below.refl _ _, .inl ⟨rfl, rfl⟩⟩
theorem Gv.congr {w0 W : World} {v : Value} {L : Nat} {S T : Nat → Nat} (h : Gv w0 W v L S) (e : ∀ i, i < L → S i = T i) : Gv w0 W v L T := by
  refine ⟨h.1, ?_⟩
  rcases h.2 with h2 | ⟨g, C, F, a1, a2, a3, a4, a5⟩
  · exact .inl h2
  · exact .inr ⟨g, C, F, a1, a2, a3, a4, fun i hi => (a5 i hi).trans (e i hi)⟩
theorem Gv.below {w0 W W' : World} {v : Value} {L : Nat} {S : Nat → Nat} (h : Gv w0 W v L S) (hb : Below W.heap.size W W') : Gv w0 W' v L S := by
  refine ⟨h.1.trans (hb.mono h.1.size), ?_⟩
  rcases h.2 with h2 | ⟨g, C, F, a1, a2, a3, a4, a5⟩
  · exact .inl h2
  · exact .inr ⟨g, C, F, a1, a2, a3, r6_below a4 hb, a5⟩
theorem Gv.drewN {w0 W : World} {v : Value} {L : Nat} {S : Nat → Nat} (h : Gv w0 W v L S) (m : Nat) : Gv w0 (W.drewN m) v L S := by
  refine ⟨below_drewN h.1 m, ?_⟩
  rcases h.2 with h2 | ⟨g, C, F, a1, a2, a3, a4, a5⟩
  · exact .inl h2
  · exact .inr ⟨g, C, F, a1, a2, a3, a4.drewN m, a5⟩
theorem Gv.drew {w0 W : World} {v : Value} {L : Nat} {S : Nat → Nat} (h : Gv w0 W v L S) : Gv w0 W.drew v L S := by
  refine ⟨h.1.drew, ?_⟩
  rcases h.2 with h2 | ⟨g, C, F, a1, a2, a3, a4, a5⟩
  · exact .inl h2
  · exact .inr ⟨g, C, F, a1, a2, a3, ⟨a4.1, a4.2.1, a4.2.2.drew⟩, a5⟩
theorem Gv.form {w0 W : World} {v : Value} {L : Nat} {S : Nat → Nat} (h : Gv w0 W v L S) : ∃ a C, v = .slice a L C := by
  rcases h.2 with ⟨rfl, rfl⟩ | ⟨g, C, F, a1, -⟩
  · exact ⟨_, _, rfl⟩
  · exact ⟨_, _, a1⟩
/-- it reads so. -/
theorem Gv.rb {w0 W : World} {v : Value} {L : Nat} {S : Nat → Nat} (h : Gv w0 W v L S) : Q6 W v L S := by
  rcases h.2 with ⟨rfl, rfl⟩ | ⟨g, C, F, rfl, a2, a3, a4, a5⟩
  · exact ⟨by decide, fun i hi => absurd hi (Nat.not_lt_zero _), none, 0, rfl, Nat.le_refl _, by decide, fun h => absurd h (Nat.lt_irrefl _)⟩
  · exact a4.q6 a2 a2 a4.1 a5
/-- n bytes more behind nothing. -/
theorem app16_nil (w : World) {x : Option Addr} {n cx : Nat} {S : Nat → Nat} (hS : ∀ i, i < n → S i < 65536) (h0 : 0 < n)
    (h4 : ∃ b p, x = some ⟨b, p, none⟩ ∧ ∀ i, i < n → w.cell? ⟨b, p + i, none⟩ = some (.int .u16 (S i : Nat))) (hn : n * 2 ≤ 140737488355328) :
    ∃ w' C' F', (Builtin.append_ #[27, 27] 27 #[.slice none 0 0, .slice x n cx]).run Tryd.prog w = .ok (.slice (some ⟨w.heap.size, 0, none⟩) n C') w' ∧
      n ≤ C' ∧ R6 w' w.heap.size C' F' ∧ (∀ i, i < n → F' i = S i) ∧ w'.heap.size = w.heap.size + 1 ∧ Below w.heap.size w w' := by
  obtain ⟨ti, hi, hz, hs1, hb1⟩ := info_w6a
  obtain ⟨b, p, rfl, hc⟩ := h4
  have ea : ∀ j, (⟨b, p, none⟩ : Addr).add j = ⟨b, p + j, none⟩ := fun j => by unfold Addr.add; split <;> simp_all
  have hs : Src Tryd.prog ti.size 27 (.slice (some ⟨b, p, none⟩) n cx) n (bh n S) w := Src.ofSlice w Tryd.underlying27 ⟨b, p, none⟩ n cx (bh n S) (by rw [bh_len, hs1, Nat.mul_one]) (fun j u h => by
    have hj : j < n := by
      rcases Nat.lt_or_ge j n with h9 | h9
      · exact h9
      · rw [List.getElem?_eq_none (by rw [bh_len]; exact h9)] at h; cases h
    rw [bh_get n S j hj] at h
    cases h
    rw [ea]
    exact hc j hj) bh_one
  have hold : (Builtin.firstCells ti.size 0 (.slice none 0 0)).run Tryd.prog w.drew = .ok (([] : List Value)).toArray w.drew := by
    simp [Builtin.firstCells]
  have hrun := run_append_grow_src w 27 27 27 26 ti (Value.int .u16 0) Tryd.underlying27 hi hz none 0 0 [] hold _ n (bh n S) hs (by omega) (by omega) (growslice_fits (by omega) (by rw [hb1]; omega))
  have hge := grownCap_ge w (0 + n) 0 26
  have hcm := grownCap_le_maxLen w (0 + n) 0 26 (by unfold maxLen; omega)
  obtain ⟨C', hC'⟩ : ∃ C', C' = grownCap w (0 + n) 0 26 := ⟨_, rfl⟩
  rw [← hC'] at hrun hge hcm
  rw [Nat.zero_add] at hrun hge
  refine ⟨_, C', fun i => if i < n then S i else 0, hrun, hge, ⟨by unfold big; unfold maxLen at hcm; exact hcm, fun i hi => ?_, _, heap_alloc_new _ _, ?_, fun i hi => ?_⟩, fun i hi => if_pos hi, by simp, ?_⟩
  · dsimp only
    split
    · exact hS _ (by omega)
    · decide
  · rw [Array.size_append, List.size_toArray, List.length_append, bh_len, size_zeroCells]
    show 0 + n + (C' - n) * 1 = C'
    omega
  · show _ = some (Value.int .u16 (((if i < n then S i else 0) : Nat) : Int))
    rw [List.nil_append]
    by_cases e2 : i < n
    · rw [if_pos e2, Array.getElem?_append_left (by simp [bh_len]; omega), List.getElem?_toArray, bh_get _ _ _ e2]
    · rw [if_neg e2, Array.getElem?_append_right (by simp [bh_len]; omega)]
      have hk : i - ((bh n S).toArray).size < C' - n := by simp [bh_len]; omega
      generalize i - ((bh n S).toArray).size = k at hk
      simp [Builtin.zeroCells, Value.cells, hk, Nat.mod_one]
  · exact ((Below.refl w.heap.size w).drew).alloc (by simp) _

theorem Gv.apart {w0 W W' : World} {v u : Value} {L M g : Nat} {S T : Nat → Nat} (h : Gv w0 W u M T) (ho : Only g W W') (hg : w0.heap.size ≤ g) (hd : ∀ o L' C', u = .slice (some ⟨g, o, none⟩) L' C' → False) : Gv w0 W' u M T := by
  refine ⟨h.1.trans (ho.below hg), ?_⟩
  rcases h.2 with h2 | ⟨b, C, F, a1, a2, a3, a4, a5⟩
  · exact .inl h2
  · exact .inr ⟨b, C, F, a1, a2, a3, ho.r6_ a4 (fun e => hd 0 M C (by rw [a1, e])), a5⟩
theorem Gv.blk {w0 W : World} {u : Value} {M : Nat} {T : Nat → Nat} (h : Gv w0 W u M T) {b o L' C' : Nat} (e : u = .slice (some ⟨b, o, none⟩) L' C') : b < W.heap.size := by
  rcases h.2 with ⟨-, h2⟩ | ⟨g, C, F, a1, a2, a3, a4, a5⟩
  · rw [h2] at e; cases e
  · rw [a1] at e
    cases e
    exact a4.lt

/-- one byte more; its own block is the newest. -/
theorem app_gh2 {w0 W : World} {v : Value} {L : Nat} {S : Nat → Nat} (h : Gv w0 W v L S) (t : Nat) (ht : t < 65536) (hL : (L + 1) * 2 ≤ 140737488355328) :
    ∃ w' v', (Builtin.append_ #[27, 27] 27 #[v, .slice (some ⟨W.heap.size, 0, none⟩) 1 1]).run Tryd.prog (W.alloc (.cells #[.int .u16 (t : Nat)] 26)) = .ok v' w' ∧ Gv w0 w' v' (L + 1) (fun i => if i < L then S i else t) ∧
      ∀ u M T, Gv w0 W u M T → Dif v u → Gv w0 w' u M T ∧ Dif v' u := by
  have hb0 : Below W.heap.size W (W.alloc (.cells #[.int .u16 (t : Nat)] 26)) := (Below.refl _ _).alloc (Nat.le_refl _) _
  have hsz : (W.alloc (.cells #[.int .u16 (t : Nat)] 26)).heap.size = W.heap.size + 1 := by simp
  have hcell : ∀ i, i < 1 → (W.alloc (.cells #[.int .u16 (t : Nat)] 26)).cell? ⟨W.heap.size, 0 + i, none⟩ = some (.int .u16 ((fun _ => t) i : Nat)) := by
    intro i hi
    obtain rfl : i = 0 := by omega
    rw [cell_of_row _ W.heap.size (0 + 0) _ _ _ (heap_alloc_new _ _)]
    rfl
  have h1 := h.below hb0
  rcases h1.2 with ⟨rfl, rfl⟩ | ⟨g, C, F, rfl, a2, a3, a4, a5⟩
  · obtain ⟨w', C', F', hrun, hC, hR, hF, hs, hb⟩ := app16_nil (W.alloc (.cells #[.int .u16 (t : Nat)] 26)) (x := some ⟨W.heap.size, 0, none⟩) (n := 1) (cx := 1) (S := fun _ => t) (fun _ _ => ht) (by decide) ⟨_, _, rfl, hcell⟩ (by omega)
    refine ⟨w', _, hrun, ⟨h1.1.trans (hb.mono h1.1.size), .inr ⟨_, C', F', rfl, hC, h1.1.size, hR, fun i hi => ?_⟩⟩, fun u M T hu hd => ⟨(hu.below hb0).below hb, fun b o o' L1 L2 C1 C2 e1 e2 => ?_⟩⟩
    · rw [hF i (by omega)]
      show t = if i < 0 then S i else t
      rw [if_neg (Nat.not_lt_zero _)]
    · have := hu.blk e2
      cases e1
      omega
  · obtain ⟨w', g', C', F', hrun, hC, hR, hF1, hF2, hcase⟩ := app16 (W.alloc (.cells #[.int .u16 (t : Nat)] 26)) (g := g) (C := C) (L := L) a4 a2 (x := some ⟨W.heap.size, 0, none⟩) (n := 1) (cx := 1) (S := fun _ => t) (fun _ _ => ht) (fun _ => ⟨_, _, rfl, hcell⟩) hL
    refine ⟨w', _, hrun, ⟨?_, .inr ⟨g', C', F', rfl, hC, ?_, hR, fun i hi => ?_⟩⟩, fun u M T hu hd => ?_⟩
    · rcases hcase with ⟨rfl, ho⟩ | ⟨rfl, -, hb⟩
      · exact h1.1.trans (ho.below a3)
      · exact h1.1.trans (hb.mono h1.1.size)
    · rcases hcase with ⟨rfl, ho⟩ | ⟨rfl, -, hb⟩
      · exact a3
      · exact h1.1.size
    · dsimp only
      by_cases e : i < L
      · rw [if_pos e, hF1 i e]; exact a5 i e
      · rw [if_neg e, show i = L + 0 by omega]
        exact hF2 0 (by decide)
    · rcases hcase with ⟨rfl, ho⟩ | ⟨rfl, -, hb⟩
      · refine ⟨(hu.below hb0).apart (v := u) (L := M) (S := T) ho a3 (fun o L' C2 e => hd g' 0 o L L' C C2 rfl e), fun b o o' L1 L2 C1 C2 e1 e2 => ?_⟩
        cases e1
        exact hd g' 0 o' L L2 C C2 rfl e2
      · refine ⟨(hu.below hb0).below hb, fun b o o' L1 L2 C1 C2 e1 e2 => ?_⟩
        have := hu.blk e2
        cases e1
        omega
theorem app_gh {w0 W : World} {v : Value} {L : Nat} {S : Nat → Nat} (h : Gv w0 W v L S) (t : Nat) (ht : t < 65536) (hL : (L + 1) * 2 ≤ 140737488355328) :
    ∃ w' v', (Builtin.append_ #[27, 27] 27 #[v, .slice (some ⟨W.heap.size, 0, none⟩) 1 1]).run Tryd.prog (W.alloc (.cells #[.int .u16 (t : Nat)] 26)) = .ok v' w' ∧ Gv w0 w' v' (L + 1) (fun i => if i < L then S i else t) := by
  obtain ⟨w', v', h1, h2, -⟩ := app_gh2 h t ht hL
  exact ⟨w', v', h1, h2⟩

theorem make_w6 (n : Nat) (hn : 2 * n ≤ 140737488355328) (w : World) : (Instr.makeSlice 27 (.int .i64 (n : Int)) (.int .i64 (n : Int))).run Tryd.prog w = .ok (.slice (some ⟨w.heap.size, 0, none⟩) n n) (w.alloc (.cells (madeCells #[.int .u16 0] n) 26)) :=
  run_make_row' (P := Tryd.prog) 27 26 (.int .u16 0) 2 Tryd.underlying27 info_w6 rfl .i64 .i64 n (by omega) (by omega) w
theorem made_r6 (n : Nat) (hn : n ≤ 140737488355328) (w : World) : R6 (w.alloc (.cells (madeCells #[.int .u16 0] n) 26)) w.heap.size n (fun _ => 0) :=
  ⟨by unfold big; omega, fun _ _ => Nat.zero_lt_succ _, World.rowIs_made w (.int .u16 0) n 26⟩
theorem made_b6 (n : Nat) (w : World) : Below w.heap.size w (w.alloc (.cells (madeCells #[.int .u16 0] n) 26)) := (Below.refl _ _).alloc (Nat.le_refl _) _
theorem info_w6s : (Tryd.prog.info? 26).map (·.size) = some 1 := by kernel_rfl
/-- copy over a whole row of words. -/
theorem copy6w (w : World) {g n : Nat} {F : Nat → Nat} (hr : R6 w g n F) {a : Option Addr} {cap' : Nat} {S : Nat → Nat} (hS : ∀ i, i < n → S i < 65536)
    (h4 : 0 < n → ∃ b p, a = some ⟨b, p, none⟩ ∧ ∀ i, i < n → w.cell? ⟨b, p + i, none⟩ = some (.int .u16 (S i : Nat))) :
    ∃ w', (Builtin.copy_ #[27, 27] 3 #[.slice (some ⟨g, 0, none⟩) n n, .slice a n cap']).run Tryd.prog w = .ok (goInt n) w' ∧ R6 w' g n S ∧ Only g w w' := by
  obtain ⟨h1, -, c, hc, hs, hv⟩ := hr
  by_cases h0 : n = 0
  · subst h0
    exact ⟨w, run_copy_none (P := Tryd.prog) _ 27 27 3 26 _ a 0 0 0 cap' Tryd.underlying27 info_w6s rfl, ⟨h1, hS, c, hc, hs, fun i hi => absurd hi (Nat.not_lt_zero _)⟩, Only.refl _ _⟩
  · obtain ⟨b, p, rfl, hcell⟩ := h4 (by omega)
    obtain ⟨cs, hcs⟩ : ∃ cs : List Value, cs = (List.range n).map (fun i => Value.int .u16 ((S i : Nat) : Int)) := ⟨_, rfl⟩
    have hlen : cs.length = n := by rw [hcs]; simp
    have hget : ∀ j, j < n → cs[j]? = some (Value.int .u16 ((S j : Nat) : Int)) := fun j hj => by rw [hcs]; simp [hj]
    have hr := run_copy_row (P := Tryd.prog) w 27 27 3 26 g 0 n n ⟨b, p, none⟩ n cap' c 26 cs Tryd.underlying27 info_w6s hc (by rw [hlen]; exact (Nat.min_self n).symm)
      (fun j u hu => by
        have hj : j < n := by
          rcases Nat.lt_or_ge j n with h9 | h9
          · exact h9
          · rw [List.getElem?_eq_none (by omega)] at hu; cases hu
        rw [hget j hj] at hu
        cases hu
        have ea : (⟨b, p, none⟩ : Addr).add j = ⟨b, p + j, none⟩ := by unfold Addr.add; split <;> simp_all
        rw [ea]
        exact hcell j hj) (by rw [hlen, hs]; omega) (fun u hu => by
        rw [hcs] at hu
        obtain ⟨x, _, rfl⟩ := List.mem_map.1 hu
        rfl)
    rw [hlen] at hr
    refine ⟨_, hr, ⟨h1, hS, _, setRow_heap _ _ _ _ _ _ hc, ?_, fun i hi => ?_⟩, (Only.refl _ _).setRow _⟩
    · simp [hlen, hs]
    · rw [List.getElem?_toArray]
      simp only [List.take_zero, List.nil_append]
      rw [List.getElem?_append_left (by rw [hlen]; exact hi)]
      exact hget i hi
end Go.Proofs.YtidcdbjhkgpjcaaDoor
