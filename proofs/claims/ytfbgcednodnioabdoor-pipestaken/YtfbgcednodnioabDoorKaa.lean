import Derived.Test.YtfbgcednodnioabDoorNba
namespace Go.Proofs.YtfbgcednodnioabDoor
open Go.RowKit Gf2
set_option linter.unusedVariables false

/-- of what was there nothing but the blocks of E has turned; new memory may have come. -/
def Ke (E : Nat → Prop) (w w' : World) : Prop := Below 0 w w' ∧ ∀ b, b < w.heap.size → ¬ E b → w'.heap[b]? = w.heap[b]?
theorem Ke.refl (E : Nat → Prop) (w : World) : Ke E w w := ⟨Below.refl _ _, fun _ _ _ => rfl⟩
theorem Ke.size {E : Nat → Prop} {w w' : World} (h : Ke E w w') : w.heap.size ≤ w'.heap.size := h.1.size
theorem Ke.trans {E : Nat → Prop} {a b c : World} (h : Ke E a b) (k : Ke E b c) : Ke E a c := ⟨h.1.trans k.1, fun x hx hn => (k.2 x (Nat.lt_of_lt_of_le hx h.size) hn).trans (h.2 x hx hn)⟩
theorem Ke.mono {E E' : Nat → Prop} {a b : World} (h : Ke E a b) (hE : ∀ x, x < a.heap.size → E x → E' x) : Ke E' a b := ⟨h.1, fun x hx hn => h.2 x hx (fun e => hn (hE x hx e))⟩
theorem Kp.ke {g : Nat} {a b : World} (h : Kp g a b) : Ke (fun x => x = g) a b := ⟨h.1, fun x hx hn => h.2 x hx hn⟩
theorem Ke.kp {g : Nat} {a b : World} (h : Ke (fun x => x = g) a b) : Kp g a b := ⟨h.1, fun x hx hn => h.2 x hx hn⟩
theorem ke_below {a b : World} (h : Below a.heap.size a b) (E : Nat → Prop) : Ke E a b := ⟨h.mono (Nat.zero_le _), fun x hx _ => h.block x hx⟩
theorem Ke.below {E : Nat → Prop} {B : Nat} {a b : World} (h : Ke E a b) (hE : ∀ x, E x → B ≤ x) (hB : B ≤ a.heap.size) : Below B a b := ⟨h.1.os, h.1.tape, h.1.output, h.1.size, fun k hk => h.2 k (by omega) (fun e => by have := hE k e; omega)⟩
theorem Ke.drewN {E : Nat → Prop} {a b : World} (h : Ke E a b) (m : Nat) : Ke E a (b.drewN m) := ⟨⟨h.1.os, h.1.tape, h.1.output, h.1.size, h.1.block⟩, h.2⟩
theorem Ke.cell {E : Nat → Prop} {h q : Nat} {a b : World} (k : Ke E a b) (hl : h < a.heap.size) (hne : ¬ E h) : b.cell? ⟨h, q, none⟩ = a.cell? ⟨h, q, none⟩ := by
  unfold World.cell?
  rw [k.2 h hl hne]
theorem Ke.rw_ {E : Nat → Prop} {k N : Nat} {F : Nat → Nat} {a b : World} (h : Ke E a b) (hk : Rw a k N F) (hne : ¬ E k) : Rw b k N F := hk.of_block (h.2 k hk.lt hne)

/-- bytes behind a slice value, in no block of E. -/
def Re (E : Nat → Prop) (w : World) (v : Value) (n : Nat) (F : Nat → Nat) : Prop := n ≤ big ∧ (∀ i, i < n → F i < 256) ∧
  ∃ a cap, v = .slice a n cap ∧ n ≤ cap ∧ cap ≤ big ∧ (0 < n → ∃ b o, a = some ⟨b, o, none⟩ ∧ (b < w.heap.size ∧ ¬ E b) ∧ ∀ i, i < n → w.cell? ⟨b, o + i, none⟩ = some (.int .u8 (F i : Nat)))
theorem Re.rb {E : Nat → Prop} {w : World} {v : Value} {n : Nat} {F : Nat → Nat} (h : Re E w v n F) : Rb w v n F := by
  obtain ⟨h1, h2, a, cap, h3, h5, h6, h4⟩ := h
  refine ⟨h1, h2, a, cap, h3, h5, h6, fun h0 => ?_⟩
  obtain ⟨b, o, e, hl, hc⟩ := h4 h0
  exact ⟨b, o, e, hl.1, hc⟩
theorem Rb.re {E : Nat → Prop} {w : World} {v : Value} {n : Nat} {F : Nat → Nat} (h : Rb w v n F) (hE : ∀ x, x < w.heap.size → ¬ E x) : Re E w v n F := by
  obtain ⟨h1, h2, a, cap, h3, h5, h6, h4⟩ := h
  refine ⟨h1, h2, a, cap, h3, h5, h6, fun h0 => ?_⟩
  obtain ⟨b, o, e, hl, hc⟩ := h4 h0
  exact ⟨b, o, e, ⟨hl, hE b hl⟩, hc⟩
theorem Re.mono {E E' : Nat → Prop} {w : World} {v : Value} {n : Nat} {F : Nat → Nat} (h : Re E w v n F) (hE : ∀ x, x < w.heap.size → E' x → E x) : Re E' w v n F := by
  obtain ⟨h1, h2, a, cap, h3, h5, h6, h4⟩ := h
  refine ⟨h1, h2, a, cap, h3, h5, h6, fun h0 => ?_⟩
  obtain ⟨b, o, e, hl, hc⟩ := h4 h0
  exact ⟨b, o, e, ⟨hl.1, fun x => hl.2 (hE b hl.1 x)⟩, hc⟩
theorem Re.ke {E : Nat → Prop} {w w' : World} {v : Value} {n : Nat} {F : Nat → Nat} (h : Re E w v n F) (hk : Ke E w w') : Re E w' v n F := by
  obtain ⟨h1, h2, a, cap, h3, h5, h6, h4⟩ := h
  refine ⟨h1, h2, a, cap, h3, h5, h6, fun h0 => ?_⟩
  obtain ⟨b, o, e, hl, hc⟩ := h4 h0
  exact ⟨b, o, e, ⟨Nat.lt_of_lt_of_le hl.1 hk.size, hl.2⟩, fun i hi => (hk.cell hl.1 hl.2).trans (hc i hi)⟩
theorem Re.congr {E : Nat → Prop} {w : World} {v : Value} {n : Nat} {F G : Nat → Nat} (h : Re E w v n F) (e : ∀ i, i < n → F i = G i) : Re E w v n G := by
  obtain ⟨h1, h2, a, cap, h3, h5, h6, h4⟩ := h
  refine ⟨h1, fun i hi => by rw [← e i hi]; exact h2 i hi, a, cap, h3, h5, h6, fun h0 => ?_⟩
  obtain ⟨b, o, e', hl, hc⟩ := h4 h0
  exact ⟨b, o, e', hl, fun i hi => by rw [← e i hi]; exact hc i hi⟩
theorem Re.fk {g : Nat} {w : World} {x : Option Addr} {n cx : Nat} {F : Nat → Nat} (h : Re (fun b => b = g) w (.slice x n cx) n F) : Fk w g n x F := by
  obtain ⟨h1, h2, a, cap, h3, h5, h6, h4⟩ := h
  cases h3
  refine ⟨h2, fun h0 => ?_⟩
  obtain ⟨b, o, e, hl, hc⟩ := h4 h0
  exact ⟨b, o, e, hl.2, hl.1, hc⟩
theorem Rw.re {E : Nat → Prop} {w : World} {g N n cap : Nat} {F : Nat → Nat} (h : Rw w g N F) (hn : n ≤ N) (hc : n ≤ cap) (hc2 : cap ≤ big) (hE : ¬ E g) : Re E w (.slice (some ⟨g, 0, none⟩) n cap) n F := by
  obtain ⟨h1, h2, h3⟩ := h
  exact ⟨by omega, fun i hi => h2 _ (by omega), _, _, rfl, hc, hc2, fun _ => ⟨g, 0, rfl, ⟨h3.lt, hE⟩, fun i hi => by rw [Nat.zero_add]; exact h3.cell (by omega)⟩⟩

/-- values behind a slice value, in no block of E. -/
def Lv (E : Nat → Prop) (w : World) (v : Value) (m : Nat) (V : Nat → Value) : Prop := m ≤ big ∧
  ∃ a cap, v = .slice a m cap ∧ m ≤ cap ∧ cap ≤ big ∧ (0 < m → ∃ b o, a = some ⟨b, o, none⟩ ∧ (b < w.heap.size ∧ ¬ E b) ∧ ∀ i, i < m → w.cell? ⟨b, o + i, none⟩ = some (V i))
theorem Lv.mono {E E' : Nat → Prop} {w : World} {v : Value} {n : Nat} {V : Nat → Value} (h : Lv E w v n V) (hE : ∀ x, x < w.heap.size → E' x → E x) : Lv E' w v n V := by
  obtain ⟨h1, a, cap, h3, h5, h6, h4⟩ := h
  refine ⟨h1, a, cap, h3, h5, h6, fun h0 => ?_⟩
  obtain ⟨b, o, e, hl, hc⟩ := h4 h0
  exact ⟨b, o, e, ⟨hl.1, fun x => hl.2 (hE b hl.1 x)⟩, hc⟩
theorem Lv.ke {E : Nat → Prop} {w w' : World} {v : Value} {n : Nat} {V : Nat → Value} (h : Lv E w v n V) (hk : Ke E w w') : Lv E w' v n V := by
  obtain ⟨h1, a, cap, h3, h5, h6, h4⟩ := h
  refine ⟨h1, a, cap, h3, h5, h6, fun h0 => ?_⟩
  obtain ⟨b, o, e, hl, hc⟩ := h4 h0
  exact ⟨b, o, e, ⟨Nat.lt_of_lt_of_le hl.1 hk.size, hl.2⟩, fun i hi => (hk.cell hl.1 hl.2).trans (hc i hi)⟩
/-- a list of m lists of bytes, the i-th of n i bytes S i, all in no block of E. -/
def Ll (E : Nat → Prop) (w : World) (v : Value) (m : Nat) (n : Nat → Nat) (S : Nat → Nat → Nat) : Prop := ∃ V, Lv E w v m V ∧ ∀ i, i < m → Re E w (V i) (n i) (S i)
theorem Ll.mono {E E' : Nat → Prop} {w : World} {v : Value} {m : Nat} {n : Nat → Nat} {S : Nat → Nat → Nat} (h : Ll E w v m n S) (hE : ∀ x, x < w.heap.size → E' x → E x) : Ll E' w v m n S := by
  obtain ⟨V, h1, h2⟩ := h
  exact ⟨V, h1.mono hE, fun i hi => (h2 i hi).mono hE⟩
theorem Ll.ke {E : Nat → Prop} {w w' : World} {v : Value} {m : Nat} {n : Nat → Nat} {S : Nat → Nat → Nat} (h : Ll E w v m n S) (hk : Ke E w w') : Ll E w' v m n S := by
  obtain ⟨V, h1, h2⟩ := h
  exact ⟨V, h1.ke hk, fun i hi => (h2 i hi).ke hk⟩
theorem Ll.congr {E : Nat → Prop} {w : World} {v : Value} {m : Nat} {n : Nat → Nat} {S T : Nat → Nat → Nat} (h : Ll E w v m n S) (e : ∀ i, i < m → ∀ j, j < n i → S i j = T i j) : Ll E w v m n T := by
  obtain ⟨V, h1, h2⟩ := h
  exact ⟨V, h1, fun i hi => (h2 i hi).congr (e i hi)⟩
theorem Ll.lens {E : Nat → Prop} {w : World} {v : Value} {m : Nat} {n n' : Nat → Nat} {S : Nat → Nat → Nat} (h : Ll E w v m n S) (e : ∀ i, i < m → n i = n' i) : Ll E w v m n' S := by
  obtain ⟨V, h1, h2⟩ := h
  exact ⟨V, h1, fun i hi => by rw [← e i hi]; exact h2 i hi⟩
/-- a list of lists that can be read. -/
abbrev Lb (w : World) (v : Value) (m : Nat) (n : Nat → Nat) (S : Nat → Nat → Nat) : Prop := Ll (fun _ => False) w v m n S
theorem Ll.lb {E : Nat → Prop} {w : World} {v : Value} {m : Nat} {n : Nat → Nat} {S : Nat → Nat → Nat} (h : Ll E w v m n S) : Lb w v m n S := h.mono (fun x _ hx => hx.elim)
theorem Lb.below {w w' : World} {v : Value} {m : Nat} {n : Nat → Nat} {S : Nat → Nat → Nat} (h : Lb w v m n S) (hb : Below w.heap.size w w') : Lb w' v m n S := h.ke (ke_below hb _)
theorem Lb.ll {E : Nat → Prop} {w : World} {v : Value} {m : Nat} {n : Nat → Nat} {S : Nat → Nat → Nat} (h : Lb w v m n S) (hE : ∀ x, x < w.heap.size → ¬ E x) : Ll E w v m n S := h.mono (fun x hx e => hE x hx e)
/-- what lies below B can be read on, whatever turns above. -/
theorem Ll.later {w w1 w' : World} {E : Nat → Prop} {v : Value} {m : Nat} {n : Nat → Nat} {S : Nat → Nat → Nat} (h : Lb w v m n S) (hb : Below w.heap.size w w1) (hk : Ke E w1 w') (hE : ∀ x, E x → w.heap.size ≤ x) : Lb w' v m n S :=
  h.below (hb.trans (hk.below hE hb.size))

/-- the sum of the products of R i and S i t, i below k. -/
def ks (R : Nat → Nat) (S : Nat → Nat → Nat) : Nat → Nat → Nat
  | 0, _ => 0
  | k + 1, t => ks R S k t ^^^ fm 285 (R k) (S k t)
theorem ks_lt (R : Nat → Nat) (S : Nat → Nat → Nat) : ∀ k t, ks R S k t < 256
  | 0, _ => by unfold ks; decide
  | k + 1, t => by unfold ks; exact Nat.xor_lt_two_pow (n := 8) (ks_lt R S k t) (fm8_lt _ _)
theorem ks_congr {R R' : Nat → Nat} {S S' : Nat → Nat → Nat} {t : Nat} : ∀ k, (∀ i, i < k → R i = R' i ∧ S i t = S' i t) → ks R S k t = ks R' S' k t
  | 0, _ => rfl
  | k + 1, h => by
    unfold ks
    rw [ks_congr k (fun i hi => h i (by omega)), (h k (by omega)).1, (h k (by omega)).2]

/-- lists of bytes in the blocks from lo up to hi, each at the head of a block of its own, the i-th of n i bytes S i, with room for C i; and the list of them. -/
structure Cs (lo hi : Nat) (w : World) (v : Value) (m : Nat) (n C B : Nat → Nat) (S : Nat → Nat → Nat) : Prop where
  mb : m ≤ big
  hw : hi ≤ w.heap.size
  form : ∃ a c, v = .slice a m c ∧ m ≤ c ∧ c ≤ big ∧ (0 < m → ∃ g, a = some ⟨g, 0, none⟩ ∧ lo ≤ g ∧ g < hi ∧ (∀ i, i < m → B i ≠ g) ∧ ∀ i, i < m → w.cell? ⟨g, i, none⟩ = some (.slice (some ⟨B i, 0, none⟩) (n i) (C i)))
  row : ∀ i, i < m → lo ≤ B i ∧ B i < hi ∧ n i ≤ C i ∧ Rw w (B i) (C i) (S i)
  inj : ∀ i j, i < m → j < m → B i = B j → i = j
/-- the blocks outside of lo up to hi. -/
def Out (lo hi x : Nat) : Prop := x < lo ∨ hi ≤ x
section
variable {lo hi m : Nat} {w w' : World} {v : Value} {n C B : Nat → Nat} {S : Nat → Nat → Nat}
theorem Cs.keep {E : Nat → Prop} (h : Cs lo hi w v m n C B S) (hk : Ke E w w') (hE : ∀ x, lo ≤ x → x < hi → ¬ E x) : Cs lo hi w' v m n C B S := by
  obtain ⟨mb, hw, ⟨a, c, e, hc1, hc2, hf⟩, row, inj⟩ := h
  refine ⟨mb, Nat.le_trans hw hk.size, ⟨a, c, e, hc1, hc2, fun h0 => ?_⟩, fun i hi' => ?_, inj⟩
  · obtain ⟨g, e1, g1, g2, g3, g4⟩ := hf h0
    exact ⟨g, e1, g1, g2, g3, fun i hi' => (hk.cell (by omega) (hE g g1 g2)).trans (g4 i hi')⟩
  · obtain ⟨r1, r2, r3, r4⟩ := row i hi'
    exact ⟨r1, r2, r3, hk.rw_ r4 (hE _ r1 r2)⟩
theorem Cs.below (h : Cs lo hi w v m n C B S) (hb : Below w.heap.size w w') : Cs lo hi w' v m n C B S := h.keep (ke_below hb (fun _ => False)) (fun _ _ _ e => e)
theorem Cs.drewN (h : Cs lo hi w v m n C B S) (k : Nat) : Cs lo hi (w.drewN k) v m n C B S := h.keep ((Ke.refl (fun _ => False) w).drewN k) (fun _ _ _ e => e)
theorem Cs.wide {lo' hi' : Nat} (h : Cs lo hi w v m n C B S) (h1 : lo' ≤ lo) (h2 : hi ≤ hi') (h3 : hi' ≤ w.heap.size) : Cs lo' hi' w v m n C B S := by
  obtain ⟨mb, hw, ⟨a, c, e, hc1, hc2, hf⟩, row, inj⟩ := h
  refine ⟨mb, h3, ⟨a, c, e, hc1, hc2, fun h0 => ?_⟩, fun i hi' => ?_, inj⟩
  · obtain ⟨g, e1, g1, g2, g3, g4⟩ := hf h0
    exact ⟨g, e1, by omega, by omega, g3, g4⟩
  · obtain ⟨r1, r2, r3, r4⟩ := row i hi'
    exact ⟨by omega, by omega, r3, r4⟩
theorem Cs.ll {E : Nat → Prop} (h : Cs lo hi w v m n C B S) (hE : ∀ x, lo ≤ x → x < hi → ¬ E x) : Ll E w v m n S := by
  obtain ⟨mb, hw, ⟨a, c, e, hc1, hc2, hf⟩, row, inj⟩ := h
  refine ⟨fun i => .slice (some ⟨B i, 0, none⟩) (n i) (C i), ⟨mb, a, c, e, hc1, hc2, fun h0 => ?_⟩, fun i hi' => ?_⟩
  · obtain ⟨g, e1, g1, g2, g3, g4⟩ := hf h0
    exact ⟨g, 0, e1, ⟨by omega, hE g g1 g2⟩, fun i hi' => by rw [Nat.zero_add]; exact g4 i hi'⟩
  · obtain ⟨r1, r2, r3, r4⟩ := row i hi'
    exact r4.re r3 r3 r4.1 (hE _ r1 r2)
theorem Cs.lb (h : Cs lo hi w v m n C B S) : Lb w v m n S := h.ll (fun _ _ _ e => e)
/-- the rows turned. -/
theorem Cs.turn {T : Nat → Nat → Nat} (h : Cs lo hi w v m n C B S) (hk : Ke (fun x => ∃ r, r < m ∧ x = B r) w w') (hr : ∀ i, i < m → Rw w' (B i) (C i) (T i)) : Cs lo hi w' v m n C B T := by
  obtain ⟨mb, hw, ⟨a, c, e, hc1, hc2, hf⟩, row, inj⟩ := h
  refine ⟨mb, Nat.le_trans hw hk.size, ⟨a, c, e, hc1, hc2, fun h0 => ?_⟩, fun i hi' => ?_, inj⟩
  · obtain ⟨g, e1, g1, g2, g3, g4⟩ := hf h0
    exact ⟨g, e1, g1, g2, g3, fun i hi' => (hk.cell (by omega) (fun ⟨r, hr1, hr2⟩ => g3 r hr1 hr2.symm)).trans (g4 i hi')⟩
  · obtain ⟨r1, r2, r3, r4⟩ := row i hi'
    exact ⟨r1, r2, r3, hr i hi'⟩
theorem Cs.congr {T : Nat → Nat → Nat} (h : Cs lo hi w v m n C B S) (e : ∀ i, i < m → ∀ j, j < C i → S i j = T i j) : Cs lo hi w v m n C B T := by
  obtain ⟨mb, hw, hf, row, inj⟩ := h
  exact ⟨mb, hw, hf, fun i hi' => ⟨(row i hi').1, (row i hi').2.1, (row i hi').2.2.1, (row i hi').2.2.2.congr (e i hi')⟩, inj⟩
end
end Go.Proofs.YtfbgcednodnioabDoor
