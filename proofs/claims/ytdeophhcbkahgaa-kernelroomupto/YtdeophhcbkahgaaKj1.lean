import Derived.Test.YtdeophhcbkahgaaNba
import Derived.Deep.AppendLies
import Derived.Deep.OwnRows
import Derived.ArgAppend
import Derived.OwnWalk
import Derived.Deep.Onto
import Derived.Test.YtdeophhcbkahgaaEsj
namespace Go.Proofs.Ytdeophhcbkahgaa
open Go.RowKit Gf2
set_option linter.unusedVariables false

/-- of what was there nothing but the blocks of E has turned; new memory may have come. -/
def Ke (E : Nat → Prop) (w w' : World) : Prop := Below 0 w w' ∧ ∀ b, b < w.heap.size → ¬ E b → w'.heap[b]? = w.heap[b]?
theorem Ke.refl (E : Nat → Prop) (w : World) : Ke E w w := ⟨Below.refl _ _, fun _ _ _ => rfl⟩
theorem Ke.size {E : Nat → Prop} {w w' : World} (h : Ke E w w') : w.heap.size ≤ w'.heap.size := h.1.size
theorem Ke.trans {E : Nat → Prop} {a b c : World} (h : Ke E a b) (k : Ke E b c) : Ke E a c := ⟨h.1.trans k.1, fun x hx hn => (k.2 x (Nat.lt_of_lt_of_le hx h.size) hn).trans (h.2 x hx hn)⟩
theorem Ke.mono {E E' : Nat → Prop} {a b : World} (h : Ke E a b) (hE : ∀ x, x < a.heap.size → E x → E' x) : Ke E' a b := ⟨h.1, fun x hx hn => h.2 x hx (fun e => hn (hE x hx e))⟩
theorem Kp.ke {g : Nat} {a b : World} (h : Kp g a b) : Ke (fun x => x = g) a b := ⟨h.1, fun x hx hn => h.2 x hx hn⟩
theorem Ke.kp {g : Nat} {a b : World} (h : Ke (fun x => x = g) a b) : Kp g a b := ⟨h.1, fun x hx hn => h.2 x hx hn⟩
theorem ke_below {a b : World} (h : Below a.heap.size a b) (E : Nat → Prop) : Ke E a b := ⟨h.mono (Nat.zero_le _), fun x hx _ => h.block x hx⟩
theorem Ke.below {E : Nat → Prop} {B : Nat} {a b : World} (h : Ke E a b) (hE : ∀ x, E x → B ≤ x) (hB : B ≤ a.heap.size) : Below B a b := ⟨h.1.os, h.1.tape, h.1.output, h.1.size, fun k hk => h.2 k (by omega) (fun e => by have := hE k e; omega)⟩
theorem Ke.drewN {E : Nat → Prop} {a b : World} (h : Ke E a b) (m : Nat) : Ke E a (b.drewN m) := ⟨⟨h.1.os, h.1.tape, h.1.output, h.1.size, h.1.block⟩, h.2⟩
theorem Ke.cell {E : Nat → Prop} {h q : Nat} {a b : World} (k : Ke E a b) (hl : h < a.heap.size) (hne : ¬ E h) : b.cell? ⟨h, q, none⟩ = a.cell? ⟨h, q, none⟩ := by
  unfold World.cell?
  rw [k.2 h hl hne]
theorem Ke.rw_ {E : Nat → Prop} {k N : Nat} {F : Nat → Nat} {a b : World} (h : Ke E a b) (hk : Rw a k N F) (hne : ¬ E k) : Rw b k N F := hk.of_block (h.2 k hk.lt hne)

/-- bytes behind a slice value, in no block of E. -/
def Re (E : Nat → Prop) (w : World) (v : Value) (n : Nat) (F : Nat → Nat) : Prop := n ≤ big ∧ (∀ i, i < n → F i < 256) ∧
  ∃ a cap, v = .slice a n cap ∧ n ≤ cap ∧ cap ≤ big ∧ (0 < n → ∃ b o, a = some ⟨b, o, none⟩ ∧ (b < w.heap.size ∧ ¬ E b) ∧ ∀ i, i < n → w.cell? ⟨b, o + i, none⟩ = some (.int .u8 (F i : Nat)))
theorem Re.rb {E : Nat → Prop} {w : World} {v : Value} {n : Nat} {F : Nat → Nat} (h : Re E w v n F) : Rb w v n F := by
  obtain ⟨h1, h2, a, cap, h3, h5, h6, h4⟩ := h
  refine ⟨h1, h2, a, cap, h3, h5, h6, fun h0 => ?_⟩
  obtain ⟨b, o, e, hl, hc⟩ := h4 h0
  exact ⟨b, o, e, hl.1, hc⟩
theorem Rb.re {E : Nat → Prop} {w : World} {v : Value} {n : Nat} {F : Nat → Nat} (h : Rb w v n F) (hE : ∀ x, x < w.heap.size → ¬ E x) : Re E w v n F := by
  obtain ⟨h1, h2, a, cap, h3, h5, h6, h4⟩ := h
  refine ⟨h1, h2, a, cap, h3, h5, h6, fun h0 => ?_⟩
  obtain ⟨b, o, e, hl, hc⟩ := h4 h0
  exact ⟨b, o, e, ⟨hl, hE b hl⟩, hc⟩
theorem Re.mono {E E' : Nat → Prop} {w : World} {v : Value} {n : Nat} {F : Nat → Nat} (h : Re E w v n F) (hE : ∀ x, x < w.heap.size → E' x → E x) : Re E' w v n F := by
  obtain ⟨h1, h2, a, cap, h3, h5, h6, h4⟩ := h
  refine ⟨h1, h2, a, cap, h3, h5, h6, fun h0 => ?_⟩
  obtain ⟨b, o, e, hl, hc⟩ := h4 h0
  exact ⟨b, o, e, ⟨hl.1, fun x => hl.2 (hE b hl.1 x)⟩, hc⟩
theorem Re.ke {E : Nat → Prop} {w w' : World} {v : Value} {n : Nat} {F : Nat → Nat} (h : Re E w v n F) (hk : Ke E w w') : Re E w' v n F := by
  obtain ⟨h1, h2, a, cap, h3, h5, h6, h4⟩ := h
  refine ⟨h1, h2, a, cap, h3, h5, h6, fun h0 => ?_⟩
  obtain ⟨b, o, e, hl, hc⟩ := h4 h0
  exact ⟨b, o, e, ⟨Nat.lt_of_lt_of_le hl.1 hk.size, hl.2⟩, fun i hi => (hk.cell hl.1 hl.2).trans (hc i hi)⟩
theorem Re.congr {E : Nat → Prop} {w : World} {v : Value} {n : Nat} {F G : Nat → Nat} (h : Re E w v n F) (e : ∀ i, i < n → F i = G i) : Re E w v n G := by
  obtain ⟨h1, h2, a, cap, h3, h5, h6, h4⟩ := h
  refine ⟨h1, fun i hi => by rw [← e i hi]; exact h2 i hi, a, cap, h3, h5, h6, fun h0 => ?_⟩
  obtain ⟨b, o, e', hl, hc⟩ := h4 h0
  exact ⟨b, o, e', hl, fun i hi => by rw [← e i hi]; exact hc i hi⟩
theorem Re.fk {g : Nat} {w : World} {x : Option Addr} {n cx : Nat} {F : Nat → Nat} (h : Re (fun b => b = g) w (.slice x n cx) n F) : Fk w g n x F := by
  obtain ⟨h1, h2, a, cap, h3, h5, h6, h4⟩ := h
  cases h3
  refine ⟨h2, fun h0 => ?_⟩
  obtain ⟨b, o, e, hl, hc⟩ := h4 h0
  exact ⟨b, o, e, hl.2, hl.1, hc⟩
theorem Rw.re {E : Nat → Prop} {w : World} {g N n cap : Nat} {F : Nat → Nat} (h : Rw w g N F) (hn : n ≤ N) (hc : n ≤ cap) (hc2 : cap ≤ big) (hE : ¬ E g) : Re E w (.slice (some ⟨g, 0, none⟩) n cap) n F := by
  obtain ⟨h1, h2, h3⟩ := h
  exact ⟨by omega, fun i hi => h2 _ (by omega), _, _, rfl, hc, hc2, fun _ => ⟨g, 0, rfl, ⟨h3.lt, hE⟩, fun i hi => by rw [Nat.zero_add]; exact h3.cell (by omega)⟩⟩

/-- values behind a slice value, in no block of E. -/
def Lv (E : Nat → Prop) (w : World) (v : Value) (m : Nat) (V : Nat → Value) : Prop := m ≤ big ∧
  ∃ a cap, v = .slice a m cap ∧ m ≤ cap ∧ cap ≤ big ∧ (0 < m → ∃ b o, a = some ⟨b, o, none⟩ ∧ (b < w.heap.size ∧ ¬ E b) ∧ ∀ i, i < m → w.cell? ⟨b, o + i, none⟩ = some (V i))
theorem Lv.mono {E E' : Nat → Prop} {w : World} {v : Value} {n : Nat} {V : Nat → Value} (h : Lv E w v n V) (hE : ∀ x, x < w.heap.size → E' x → E x) : Lv E' w v n V := by
  obtain ⟨h1, a, cap, h3, h5, h6, h4⟩ := h
  refine ⟨h1, a, cap, h3, h5, h6, fun h0 => ?_⟩
  obtain ⟨b, o, e, hl, hc⟩ := h4 h0
  exact ⟨b, o, e, ⟨hl.1, fun x => hl.2 (hE b hl.1 x)⟩, hc⟩
theorem Lv.ke {E : Nat → Prop} {w w' : World} {v : Value} {n : Nat} {V : Nat → Value} (h : Lv E w v n V) (hk : Ke E w w') : Lv E w' v n V := by
  obtain ⟨h1, a, cap, h3, h5, h6, h4⟩ := h
  refine ⟨h1, a, cap, h3, h5, h6, fun h0 => ?_⟩
  obtain ⟨b, o, e, hl, hc⟩ := h4 h0
  exact ⟨b, o, e, ⟨Nat.lt_of_lt_of_le hl.1 hk.size, hl.2⟩, fun i hi => (hk.cell hl.1 hl.2).trans (hc i hi)⟩
/-- a list of m lists of bytes, the i-th of n i bytes S i, all in no block of E. -/
def Ll (E : Nat → Prop) (w : World) (v : Value) (m : Nat) (n : Nat → Nat) (S : Nat → Nat → Nat) : Prop := ∃ V, Lv E w v m V ∧ ∀ i, i < m → Re E w (V i) (n i) (S i)
theorem Ll.mono {E E' : Nat → Prop} {w : World} {v : Value} {m : Nat} {n : Nat → Nat} {S : Nat → Nat → Nat} (h : Ll E w v m n S) (hE : ∀ x, x < w.heap.size → E' x → E x) : Ll E' w v m n S := by
  obtain ⟨V, h1, h2⟩ := h
  exact ⟨V, h1.mono hE, fun i hi => (h2 i hi).mono hE⟩
theorem Ll.ke {E : Nat → Prop} {w w' : World} {v : Value} {m : Nat} {n : Nat → Nat} {S : Nat → Nat → Nat} (h : Ll E w v m n S) (hk : Ke E w w') : Ll E w' v m n S := by
  obtain ⟨V, h1, h2⟩ := h
  exact ⟨V, h1.ke hk, fun i hi => (h2 i hi).ke hk⟩
theorem Ll.congr {E : Nat → Prop} {w : World} {v : Value} {m : Nat} {n : Nat → Nat} {S T : Nat → Nat → Nat} (h : Ll E w v m n S) (e : ∀ i, i < m → ∀ j, j < n i → S i j = T i j) : Ll E w v m n T := by
  obtain ⟨V, h1, h2⟩ := h
  exact ⟨V, h1, fun i hi => (h2 i hi).congr (e i hi)⟩
theorem Ll.lens {E : Nat → Prop} {w : World} {v : Value} {m : Nat} {n n' : Nat → Nat} {S : Nat → Nat → Nat} (h : Ll E w v m n S) (e : ∀ i, i < m → n i = n' i) : Ll E w v m n' S := by
  obtain ⟨V, h1, h2⟩ := h
  exact ⟨V, h1, fun i hi => by rw [← e i hi]; exact h2 i hi⟩
/-- a list of lists that can be read. -/
abbrev Lb (w : World) (v : Value) (m : Nat) (n : Nat → Nat) (S : Nat → Nat → Nat) : Prop := Ll (fun _ => False) w v m n S
theorem Ll.lb {E : Nat → Prop} {w : World} {v : Value} {m : Nat} {n : Nat → Nat} {S : Nat → Nat → Nat} (h : Ll E w v m n S) : Lb w v m n S := h.mono (fun x _ hx => hx.elim)
theorem Lb.below {w w' : World} {v : Value} {m : Nat} {n : Nat → Nat} {S : Nat → Nat → Nat} (h : Lb w v m n S) (hb : Below w.heap.size w w') : Lb w' v m n S := h.ke (ke_below hb _)
theorem Lb.ll {E : Nat → Prop} {w : World} {v : Value} {m : Nat} {n : Nat → Nat} {S : Nat → Nat → Nat} (h : Lb w v m n S) (hE : ∀ x, x < w.heap.size → ¬ E x) : Ll E w v m n S := h.mono (fun x hx e => hE x hx e)
/-- what lies below B can be read on, whatever turns above. -/
theorem Ll.later {w w1 w' : World} {E : Nat → Prop} {v : Value} {m : Nat} {n : Nat → Nat} {S : Nat → Nat → Nat} (h : Lb w v m n S) (hb : Below w.heap.size w w1) (hk : Ke E w1 w') (hE : ∀ x, E x → w.heap.size ≤ x) : Lb w' v m n S :=
  h.below (hb.trans (hk.below hE hb.size))

/-- the sum of the products of R i and S i t, i below k. -/
def ks (R : Nat → Nat) (S : Nat → Nat → Nat) : Nat → Nat → Nat
  | 0, _ => 0
  | k + 1, t => ks R S k t ^^^ fm 285 (R k) (S k t)
theorem ks_lt (R : Nat → Nat) (S : Nat → Nat → Nat) : ∀ k t, ks R S k t < 256
  | 0, _ => by unfold ks; decide
  | k + 1, t => by unfold ks; exact Nat.xor_lt_two_pow (n := 8) (ks_lt R S k t) (fm8_lt _ _)
theorem ks_congr {R R' : Nat → Nat} {S S' : Nat → Nat → Nat} {t : Nat} : ∀ k, (∀ i, i < k → R i = R' i ∧ S i t = S' i t) → ks R S k t = ks R' S' k t
  | 0, _ => rfl
  | k + 1, h => by
    unfold ks
    rw [ks_congr k (fun i hi => h i (by omega)), (h k (by omega)).1, (h k (by omega)).2]

/-- lists of bytes in the blocks from lo up to hi, each at the head of a block of its own, the i-th of n i bytes S i, with room for C i; and the list of them. -/
structure Cs (lo hi : Nat) (w : World) (v : Value) (m : Nat) (n C B : Nat → Nat) (S : Nat → Nat → Nat) : Prop where
  mb : m ≤ big
  hw : hi ≤ w.heap.size
  form : ∃ a c, v = .slice a m c ∧ m ≤ c ∧ c ≤ big ∧ (0 < m → ∃ g, a = some ⟨g, 0, none⟩ ∧ lo ≤ g ∧ g < hi ∧ (∀ i, i < m → B i ≠ g) ∧ ∀ i, i < m → w.cell? ⟨g, i, none⟩ = some (.slice (some ⟨B i, 0, none⟩) (n i) (C i)))
  row : ∀ i, i < m → lo ≤ B i ∧ B i < hi ∧ n i ≤ C i ∧ Rw w (B i) (C i) (S i)
  inj : ∀ i j, i < m → j < m → B i = B j → i = j
/-- the blocks outside of lo up to hi. -/
def Out (lo hi x : Nat) : Prop := x < lo ∨ hi ≤ x
section
variable {lo hi m : Nat} {w w' : World} {v : Value} {n C B : Nat → Nat} {S : Nat → Nat → Nat}
theorem Cs.keep {E : Nat → Prop} (h : Cs lo hi w v m n C B S) (hk : Ke E w w') (hE : ∀ x, lo ≤ x → x < hi → ¬ E x) : Cs lo hi w' v m n C B S := by
  obtain ⟨mb, hw, ⟨a, c, e, hc1, hc2, hf⟩, row, inj⟩ := h
  refine ⟨mb, Nat.le_trans hw hk.size, ⟨a, c, e, hc1, hc2, fun h0 => ?_⟩, fun i hi' => ?_, inj⟩
  · obtain ⟨g, e1, g1, g2, g3, g4⟩ := hf h0
    exact ⟨g, e1, g1, g2, g3, fun i hi' => (hk.cell (by omega) (hE g g1 g2)).trans (g4 i hi')⟩
  · obtain ⟨r1, r2, r3, r4⟩ := row i hi'
    exact ⟨r1, r2, r3, hk.rw_ r4 (hE _ r1 r2)⟩
theorem Cs.below (h : Cs lo hi w v m n C B S) (hb : Below w.heap.size w w') : Cs lo hi w' v m n C B S := h.keep (ke_below hb (fun _ => False)) (fun _ _ _ e => e)
theorem Cs.drewN (h : Cs lo hi w v m n C B S) (k : Nat) : Cs lo hi (w.drewN k) v m n C B S := h.keep ((Ke.refl (fun _ => False) w).drewN k) (fun _ _ _ e => e)
theorem Cs.wide {lo' hi' : Nat} (h : Cs lo hi w v m n C B S) (h1 : lo' ≤ lo) (h2 : hi ≤ hi') (h3 : hi' ≤ w.heap.size) : Cs lo' hi' w v m n C B S := by
  obtain ⟨mb, hw, ⟨a, c, e, hc1, hc2, hf⟩, row, inj⟩ := h
  refine ⟨mb, h3, ⟨a, c, e, hc1, hc2, fun h0 => ?_⟩, fun i hi' => ?_, inj⟩
  · obtain ⟨g, e1, g1, g2, g3, g4⟩ := hf h0
    exact ⟨g, e1, by omega, by omega, g3, g4⟩
  · obtain ⟨r1, r2, r3, r4⟩ := row i hi'
    exact ⟨by omega, by omega, r3, r4⟩
theorem Cs.ll {E : Nat → Prop} (h : Cs lo hi w v m n C B S) (hE : ∀ x, lo ≤ x → x < hi → ¬ E x) : Ll E w v m n S := by
  obtain ⟨mb, hw, ⟨a, c, e, hc1, hc2, hf⟩, row, inj⟩ := h
  refine ⟨fun i => .slice (some ⟨B i, 0, none⟩) (n i) (C i), ⟨mb, a, c, e, hc1, hc2, fun h0 => ?_⟩, fun i hi' => ?_⟩
  · obtain ⟨g, e1, g1, g2, g3, g4⟩ := hf h0
    exact ⟨g, 0, e1, ⟨by omega, hE g g1 g2⟩, fun i hi' => by rw [Nat.zero_add]; exact g4 i hi'⟩
  · obtain ⟨r1, r2, r3, r4⟩ := row i hi'
    exact r4.re r3 r3 r4.1 (hE _ r1 r2)
theorem Cs.lb (h : Cs lo hi w v m n C B S) : Lb w v m n S := h.ll (fun _ _ _ e => e)
/-- the rows turned. -/
theorem Cs.turn {T : Nat → Nat → Nat} (h : Cs lo hi w v m n C B S) (hk : Ke (fun x => ∃ r, r < m ∧ x = B r) w w') (hr : ∀ i, i < m → Rw w' (B i) (C i) (T i)) : Cs lo hi w' v m n C B T := by
  obtain ⟨mb, hw, ⟨a, c, e, hc1, hc2, hf⟩, row, inj⟩ := h
  refine ⟨mb, Nat.le_trans hw hk.size, ⟨a, c, e, hc1, hc2, fun h0 => ?_⟩, fun i hi' => ?_, inj⟩
  · obtain ⟨g, e1, g1, g2, g3, g4⟩ := hf h0
    exact ⟨g, e1, g1, g2, g3, fun i hi' => (hk.cell (by omega) (fun ⟨r, hr1, hr2⟩ => g3 r hr1 hr2.symm)).trans (g4 i hi')⟩
  · obtain ⟨r1, r2, r3, r4⟩ := row i hi'
    exact ⟨r1, r2, r3, hr i hi'⟩
theorem Cs.congr {T : Nat → Nat → Nat} (h : Cs lo hi w v m n C B S) (e : ∀ i, i < m → ∀ j, j < C i → S i j = T i j) : Cs lo hi w v m n C B T := by
  obtain ⟨mb, hw, hf, row, inj⟩ := h
  exact ⟨mb, hw, hf, fun i hi' => ⟨(row i hi').1, (row i hi').2.1, (row i hi').2.2.1, (row i hi').2.2.2.congr (e i hi')⟩, inj⟩
end
end Go.Proofs.Ytdeophhcbkahgaa
namespace Go.Proofs.Ytdeophhcbkahgaa
open Go.RowKit Gf2
set_option linter.unusedVariables false

set_option maxHeartbeats 2000000 in
set_option maxRecDepth 100000 in
theorem equal9_any (u v : Value) (n n' : Nat) (F G : Nat → Nat) (w : World) (h : Rb w u n F) (k : Rb w v n' G) :
    Calls Try.prog 18 #[u, v] w fun e w' => ∃ b : Bool, e = .returned (.bool b) ∧ (b = true ↔ n = n' ∧ ∀ i, i < n → F i = G i) ∧ ∃ m, w' = w.drewN m := by
  obtain ⟨hn, hF, a, cap, rfl, -, -, h4⟩ := h
  obtain ⟨hn', -, c, cap', rfl, -, -, k4⟩ := k
  by_cases hnn : n = n'
  case neg =>
    have hI : ¬ ((n : Int) = (n' : Int)) := by omega
    clear h4 k4
    go_enter Try.func18, Try.ntmps18
    go_wp2
    go_ret
    exact ⟨false, rfl, ⟨fun h => (by cases h), fun h => absurd h.1 hnn⟩, 0, rfl⟩
  case pos =>
    subst hnn
    go_enter Try.func18, Try.ntmps18
    go_wp2
    go_loopw [13] (fun i wr => ∃ k m : Nat, k ≤ n ∧ i = .int .i64 k ∧ wr = w.drewN m ∧ ∀ i, i < k → F i = G i) (fun i _ => n - (intOf i).toNat)
    case atStart => exact ⟨0, 0, Nat.zero_le _, rfl, rfl, fun i hi => absurd hi (Nat.not_lt_zero _)⟩
    case round =>
      obtain ⟨k, m, hk, rfl, hw, hE⟩ := hrel
      by_cases hlt : k < n
      · obtain ⟨b, o, rfl, -, hc⟩ := h4 (by omega)
        obtain ⟨b', o', rfl, -, hc'⟩ := k4 (by omega)
        have q1 : wr.cell? ⟨b, o + k, none⟩ = some (.int .u8 (F k : Nat)) := by rw [hw]; exact hc k hlt
        have q2 : wr.cell? ⟨b', o' + k, none⟩ = some (.int .u8 (G k : Nat)) := by rw [hw]; exact hc' k hlt
        have HW : Hid (wr = w.drewN m ∧ ∀ i, i < k → F i = G i) := ⟨hw, hE⟩
        have ib : ((k : Nat) : Int) < (n : Int) := by omega
        have W1 := wrap_succ8 (j := k) (by omega)
        have HN : Hid (n ≤ big) := hn
        by_cases hfg : F k = G k
        · rw [← hfg] at q2
          have Hfg : Hid (F k = G k) := hfg
          clear hc hc' hw h4 k4 hF hn hE hfg hn'
          go_wp2
          go_quiet (fail)
          go_wp2
          go_roundw
          case rel =>
            refine ⟨k + 1, m + nq, hlt, by first | rfl | (rw [W1]; rfl), by rw [HW.out.1, World.drewN_drewN], fun i hi => ?_⟩
            by_cases e : i = k
            · rw [e]; exact Hfg.out
            · exact HW.out.2 i (by omega)
          case measure => first | exact meas_lt8 hlt | (rw [W1]; exact meas_lt8 hlt)
        · have hI : ¬ (((F k : Nat) : Int) = ((G k : Nat) : Int)) := by omega
          have Hfg : Hid (¬ F k = G k) := hfg
          clear hc hc' hw h4 k4 hF hn hE hfg hn'
          go_wp2
          go_quiet (fail)
          go_wp2
          go_ret
          exact ⟨false, rfl, ⟨fun h => (by cases h), fun h => absurd (h.2 k hlt) Hfg.out⟩, m + nq, by rw [HW.out.1, World.drewN_drewN]⟩
      · have hk5 : k = n := by omega
        subst hk5
        subst hw
        go_wp2
        go_ret
        exact ⟨true, rfl, ⟨fun _ => ⟨by trivial, hE⟩, fun _ => rfl⟩, _, rfl⟩
theorem equal9_true (u v : Value) (n : Nat) (F : Nat → Nat) (w : World) (h : Rb w u n F) (k : Rb w v n F) :
    Calls Try.prog 18 #[u, v] w fun e w' => e = .returned (.bool true) ∧ ∃ m, w' = w.drewN m :=
  (equal9_any u v n n F F w h k).mono fun e w' ⟨b, h1, h2, h3⟩ => ⟨by rw [h1, h2.2 ⟨rfl, fun _ _ => rfl⟩], h3⟩

set_option maxHeartbeats 2000000 in
set_option maxRecDepth 100000 in
theorem all9_any (u v : Value) (l l' : Nat) (n n' : Nat → Nat) (F G : Nat → Nat → Nat) (w : World) (h : Lb w u l n F) (k : Lb w v l' n' G) :
    Calls Try.prog 15 #[u, v] w fun e w' => ∃ b : Bool, e = .returned (.bool b) ∧ (b = true ↔ l = l' ∧ ∀ r, r < l → n r = n' r ∧ ∀ i, i < n r → F r i = G r i) ∧ ∃ m, w' = w.drewN m := by
  obtain ⟨V, ⟨hn, a, cap, rfl, -, -, h4⟩, hV⟩ := h
  obtain ⟨V', ⟨hn', a', cap', rfl, -, -, k4⟩, hV'⟩ := k
  by_cases hnn : l = l'
  case neg =>
    have hI : ¬ ((l : Int) = (l' : Int)) := by omega
    clear h4 k4
    go_enter Try.func15, Try.ntmps15
    go_wp2
    go_ret
    exact ⟨false, rfl, ⟨fun h => (by cases h), fun h => absurd h.1 hnn⟩, 0, rfl⟩
  case pos =>
    subst hnn
    go_enter Try.func15, Try.ntmps15
    go_wp2
    go_loopw [13] (fun i wr => ∃ k m : Nat, k ≤ l ∧ i = .int .i64 k ∧ wr = w.drewN m ∧ ∀ r, r < k → n r = n' r ∧ ∀ i, i < n r → F r i = G r i) (fun i _ => l - (intOf i).toNat)
    case atStart => exact ⟨0, 0, Nat.zero_le _, rfl, rfl, fun i hi => absurd hi (Nat.not_lt_zero _)⟩
    case round =>
      obtain ⟨k, m, hk, rfl, hw, hE⟩ := hrel
      by_cases hlt : k < l
      · obtain ⟨b, o, rfl, -, hc⟩ := h4 (by omega)
        obtain ⟨b', o', rfl, -, hc'⟩ := k4 (by omega)
        have q1 : wr.cell? ⟨b, o + k, none⟩ = some (V k) := by rw [hw]; exact hc k hlt
        have q2 : wr.cell? ⟨b', o' + k, none⟩ = some (V' k) := by rw [hw]; exact hc' k hlt
        have hr1 := (hV k hlt).rb
        have hr2 := (hV' k hlt).rb
        obtain ⟨x1, y1, e1⟩ : ∃ x y, V k = .slice x (n k) y := by obtain ⟨_, _, x, y, e, _⟩ := hr1; exact ⟨x, y, e⟩
        obtain ⟨x2, y2, e2⟩ : ∃ x y, V' k = .slice x (n' k) y := by obtain ⟨_, _, x, y, e, _⟩ := hr2; exact ⟨x, y, e⟩
        rw [e1] at q1 hr1
        rw [e2] at q2 hr2
        have HW : Hid (wr = w.drewN m ∧ ∀ r, r < k → n r = n' r ∧ ∀ i, i < n r → F r i = G r i) := ⟨hw, hE⟩
        have ib : ((k : Nat) : Int) < (l : Int) := by omega
        have W1 := wrap_succ8 (j := k) (by omega)
        by_cases hfg : n k = n' k ∧ ∀ i, i < n k → F k i = G k i
        · have cA : ∀ m2, Calls Try.prog 18 #[.slice x1 (n k) y1, .slice x2 (n' k) y2] (wr.drewN m2) fun e w' => e = .returned (.bool true) ∧ ∃ m, w' = (wr.drewN m2).drewN m := fun m2 =>
            (equal9_any _ _ (n k) (n' k) (F k) (G k) (wr.drewN m2) (by rw [hw]; exact (hr1.drewN _).drewN _) (by rw [hw]; exact (hr2.drewN _).drewN _)).mono fun e w' ⟨b, h1, h2, h3⟩ => ⟨by rw [h1, h2.2 hfg], h3⟩
          have Hfg : Hid (n k = n' k ∧ ∀ i, i < n k → F k i = G k i) := hfg
          clear hc hc' hw h4 k4 hn hE hfg hn' hr1 hr2 hV hV'
          go_wp2
          go_quiet ((go_at_call 18; with_reducible exact Calls.quiet_of (cA _)))
          go_wp2
          go_roundw
          case rel =>
            refine ⟨k + 1, m + nq, hlt, by first | rfl | (rw [W1]; rfl), by rw [HW.out.1, World.drewN_drewN], fun i hi => ?_⟩
            by_cases e : i = k
            · rw [e]; exact Hfg.out
            · exact HW.out.2 i (by omega)
          case measure => first | exact meas_lt8 hlt | (rw [W1]; exact meas_lt8 hlt)
        · have cA : ∀ m2, Calls Try.prog 18 #[.slice x1 (n k) y1, .slice x2 (n' k) y2] (wr.drewN m2) fun e w' => e = .returned (.bool false) ∧ ∃ m, w' = (wr.drewN m2).drewN m := fun m2 =>
            (equal9_any _ _ (n k) (n' k) (F k) (G k) (wr.drewN m2) (by rw [hw]; exact (hr1.drewN _).drewN _) (by rw [hw]; exact (hr2.drewN _).drewN _)).mono fun e w' ⟨b, h1, h2, h3⟩ => ⟨by rw [h1]; cases b with
              | false => rfl
              | true => exact absurd (h2.1 rfl) hfg, h3⟩
          have Hfg : Hid (¬ (n k = n' k ∧ ∀ i, i < n k → F k i = G k i)) := hfg
          clear hc hc' hw h4 k4 hn hE hfg hn' hr1 hr2 hV hV'
          go_wp2
          go_quiet ((go_at_call 18; with_reducible exact Calls.quiet_of (cA _)))
          go_wp2
          go_ret
          exact ⟨false, rfl, ⟨fun h => (by cases h), fun h => absurd (h.2 k hlt) Hfg.out⟩, m + nq, by rw [HW.out.1, World.drewN_drewN]⟩
      · have hk5 : k = l := by omega
        subst hk5
        subst hw
        go_wp2
        go_ret
        exact ⟨true, rfl, ⟨fun _ => ⟨by trivial, hE⟩, fun _ => rfl⟩, _, rfl⟩
theorem all9_true (u v : Value) (l : Nat) (n : Nat → Nat) (F G : Nat → Nat → Nat) (w : World) (h : Lb w u l n F) (k : Lb w v l n G) (e : ∀ r, r < l → ∀ i, i < n r → F r i = G r i) :
    Calls Try.prog 15 #[u, v] w fun e w' => e = .returned (.bool true) ∧ ∃ m, w' = w.drewN m :=
  (all9_any u v l l n n F G w h k).mono fun _ w' ⟨b, h1, h2, h3⟩ => ⟨by rw [h1, h2.2 ⟨rfl, fun r hr => ⟨rfl, e r hr⟩⟩], h3⟩

set_option maxHeartbeats 2000000 in
set_option maxRecDepth 100000 in
theorem copied9_any (u : Value) (n : Nat) (F : Nat → Nat) (w : World) (h : Rb w u n F) (hnb : n ≤ 140737488355328) :
    Calls Try.prog 8 #[u] w fun e w' => e = .returned (.slice (some ⟨w.heap.size, 0, none⟩) n n) ∧ Rw w' w.heap.size n F ∧ Below w.heap.size w w' ∧ w'.heap.size = w.heap.size + 1 := by
  obtain ⟨h1, h2, a, cap, rfl, -, -, h4⟩ := h
  have hmk := make_u8 n hnb
  go_enter Try.func8, Try.ntmps8
  go_wp2
  clear hmk
  go_loopw [10] (fun i wr => ∃ k : Nat, k ≤ n ∧ i = .int .i64 k ∧ wr.heap.size = w.heap.size + 1 ∧ Rw wr w.heap.size n (fun x => if x < k then F x else 0) ∧ Below w.heap.size w wr) (fun i _ => n - (intOf i).toNat)
  case atStart =>
    refine ⟨0, Nat.zero_le _, rfl, by simp, ?_, (Below.refl _ _).alloc (Nat.le_refl _) _⟩
    exact (made_rw n hnb w).congr (fun i _ => (if_neg (Nat.not_lt_zero _)).symm)
  case round =>
    obtain ⟨k, hk, rfl, hsz, hr, hb⟩ := hrel
    by_cases hlt : k < n
    · have q1 := hr.2.2.cell hlt
      simp only [Nat.lt_irrefl, if_false] at q1
      obtain ⟨b, o, rfl, hbl, hc⟩ := h4 (by omega)
      have q3 := (hb.cell (p := ⟨b, o + k, none⟩) hbl).trans (hc k (by omega))
      have q2 := hr.2.2.frozen k
      have ib : ((k : Nat) : Int) < (n : Int) := by omega
      have W1 := wrap_succ8 (j := k) (by omega)
      have HV : Hid (Rw wr w.heap.size n (fun x => if x < k then F x else 0) ∧ wr.heap.size = w.heap.size + 1 ∧ Below w.heap.size w wr ∧ F k < 256) := ⟨hr, hsz, hb, h2 k (by omega)⟩
      clear hr hsz hb h1 h2 hc h4 hnb
      go_wp2
      go_roundw
      case rel =>
        obtain ⟨g0, g1, g2, g3⟩ := HV.out
        refine ⟨k + 1, hlt, by first | rfl | (rw [W1]; rfl), by simp [g1], ⟨g0.1, fun i hi => ?_, ((g0.2.2.set k _).congr (fun i hi => ?_))⟩, (g2.setCell (by simp) _)⟩
        · show (if i < k + 1 then F i else 0) < 256
          by_cases e : i = k
          · subst e; rw [if_pos (Nat.lt_succ_self _)]; exact g3
          · have := g0.2.1 i hi
            simp only at this
            by_cases e2 : i < k
            · rw [if_pos e2] at this; rw [if_pos (by omega)]; exact this
            · rw [if_neg (by omega)]; decide
        · by_cases e : i = k
          · subst e; simp
          · by_cases e2 : i < k
            · simp [e, e2, show i < k + 1 by omega]
            · simp [e, e2, show ¬ i < k + 1 by omega]
      case measure => first | exact meas_lt8 hlt | (rw [W1]; exact meas_lt8 hlt)
    · have hkN : k = n := by omega
      subst hkN
      clear h4
      go_wp2
      go_ret
      exact ⟨rfl, hr.congr (fun i hi => if_pos hi), hb, hsz⟩
end Go.Proofs.Ytdeophhcbkahgaa
namespace Go.Proofs.Ytdeophhcbkahgaa
open Go.RowKit Gf2
set_option linter.unusedVariables false

theorem info_l9 : ∃ i, Try.prog.info? 22 = some i ∧ i.zero = some (Value.slice none 0 0) ∧ i.size = 1 ∧ i.bytes = 24 := by
  have h : (Try.prog.info? 22).map (fun i => (i.zero, i.size, i.bytes)) = some (some (Value.slice none 0 0), 1, 24) := by kernel_rfl
  obtain ⟨i, hi, hz⟩ := Option.map_eq_some_iff.1 h
  simp only [Prod.mk.injEq] at hz
  exact ⟨i, hi, hz.1, hz.2.1, hz.2.2⟩

/-- the lists V r as cells. -/
def lv9 (V : Nat → Value) (m : Nat) : List Value := (List.range m).map V
theorem lv9_len (V : Nat → Value) (m : Nat) : (lv9 V m).length = m := by simp [lv9]
theorem lv9_get (V : Nat → Value) {m r : Nat} (h : r < m) : (lv9 V m)[r]? = some (V r) := by simp [lv9, h]
theorem lv9_snoc (V X : Nat → Value) (m k : Nat) : lv9 V m ++ lv9 X k = lv9 (fun r => if r < m then V r else X (r - m)) (m + k) := by
  apply List.ext_getElem?
  intro r
  by_cases h : r < m
  · rw [List.getElem?_append_left (by rw [lv9_len]; exact h), lv9_get _ h, lv9_get _ (by omega), if_pos h]
  · rw [List.getElem?_append_right (by rw [lv9_len]; omega), lv9_len]
    by_cases h2 : r < m + k
    · rw [lv9_get _ (by omega), lv9_get _ h2, if_neg h]
    · rw [List.getElem?_eq_none (by rw [lv9_len]; omega), List.getElem?_eq_none (by rw [lv9_len]; omega)]
theorem lv9_congr {V V' : Nat → Value} {m : Nat} (h : ∀ r, r < m → V r = V' r) : lv9 V m = lv9 V' m := by
  unfold lv9
  apply List.map_congr_left
  intro r hr
  exact h r (List.mem_range.1 hr)

/-- a list of lists that grows by append, in a block of its own not below base; its values V. -/
def Gl (w : World) (base : Nat) (av : Value) (m : Nat) (V : Nat → Value) : Prop := w.ownsRow base 22 1 av m (lv9 V m)
theorem Gl.zero (w : World) (base : Nat) (V : Nat → Value) : Gl w base (.slice none 0 0) 0 V := World.ownsRow_nil _ _ _ _
theorem Gl.congr {w : World} {base m : Nat} {av : Value} {V V' : Nat → Value} (h : Gl w base av m V) (e : ∀ r, r < m → V r = V' r) : Gl w base av m V' := by
  unfold Gl at h ⊢
  rw [← lv9_congr e]
  exact h
theorem Gl.below {w w' : World} {base m : Nat} {av : Value} {V : Nat → Value} (h : Gl w base av m V) (hb : Below w.heap.size w w') : Gl w' base av m V := by
  refine World.ownsRow.kept (row := Option.none) h ⟨hb.os, hb.tape, hb.output, hb.size, fun k hk _ => hb.block k hk⟩ ?_
  cases e : av.ownBlock with
  | none => exact .inl rfl
  | some k => exact .inr (by simp)
theorem Gl.form {w : World} {base m : Nat} {av : Value} {V : Nat → Value} (h : Gl w base av m V) : ∃ a c, av = .slice a m c ∧ m ≤ c ∧ c ≤ maxLen ∧ (0 < m → ∃ g, a = some ⟨g, 0, none⟩ ∧ base ≤ g ∧ g < w.heap.size ∧ av.ownBlock = some g ∧ ∀ i, i < m → w.cell? ⟨g, i, none⟩ = some (V i)) := by
  rcases h.2 with ⟨h1, h2⟩ | ⟨g, cap, cur, rfl, hb, hg, r1, r2, r3, r4⟩
  · subst h1 h2
    exact ⟨Option.none, 0, rfl, Nat.le_refl _, Nat.zero_le _, fun h0 => absurd h0 (Nat.lt_irrefl _)⟩
  · refine ⟨_, cap, rfl, r1, r2, fun h0 => ⟨g, rfl, hb, (Array.getElem?_eq_some_iff.1 hg).1, rfl, fun i hi => ?_⟩⟩
    have := World.ownsRow.cellAt (j := i) h (by omega)
    rw [this, lv9_get _ hi]
/-- k lists more. -/
theorem gl_run {w w3 : World} {base m k : Nat} {av : Value} {V : Nat → Value} (h : Gl w base av m V) (hbase : base ≤ w.heap.size) (hb : Below w.heap.size w w3) (X : Nat → Value)
    (hX : ∀ j, j < k → (X j).oneCell' = true) (hk : 0 < k) (hm : (m + k) * 24 ≤ 140737488355328) :
    ∃ g cp w5, (Builtin.append_ #[23, 23] 23 #[av, .slice (some ⟨w3.heap.size, 0, none⟩) k k]).run Try.prog (w3.alloc (.cells (lv9 X k).toArray 22)) = .ok (.slice (some ⟨g, 0, none⟩) (m + k) cp) w5 ∧
      Gl w5 base (.slice (some ⟨g, 0, none⟩) (m + k) cp) (m + k) (fun r => if r < m then V r else X (r - m)) ∧ (av.ownBlock = some g ∨ g = w3.heap.size + 1) ∧
      (∀ x, x < w3.heap.size → av.ownBlock ≠ some x → w5.heap[x]? = w3.heap[x]?) ∧ Below base w w5 ∧ g < w5.heap.size ∧ w3.heap.size ≤ w5.heap.size := by
  obtain ⟨iL, k1, k2, k3, k4⟩ := info_l9
  have h3 := h.below hb
  have hs3 := hb.size
  obtain ⟨g, cp, w5, hrun, own, gr, lies, lt⟩ := run_append_lies (P := Try.prog) (w3.alloc (.cells (lv9 X k).toArray 22)) 23 23 base 22 iL (.slice Option.none 0 0) 1 24 Try.underlying23 k1 k2 k3 k4 rfl (by decide)
    av m (lv9 V m) (World.ownsRow.alloc h3 _) ⟨w3.heap.size, 0, Option.none⟩ k k (lv9 X k) (by rw [lv9_len, Nat.mul_one]) (fun j u hu => World.news_of_block (heap_alloc_new w3 _) j u (by simpa using hu))
    (fun u hu => by
      simp [lv9] at hu
      obtain ⟨r, hr, rfl⟩ := hu
      exact hX r hr) hk (by unfold maxLen; omega) (by omega) (by simp; omega) (w3.heap.size + 1) (by simp)
  have hsz : (w3.alloc (.cells (lv9 X k).toArray 22)).heap.size = w3.heap.size + 1 := by simp
  have hgs := gr.size
  have hblk : ∀ x, x < w3.heap.size → av.ownBlock ≠ some x → w5.heap[x]? = w3.heap[x]? := fun x hx hne => (gr.block x (by omega) (fun e => hne e.symm)).trans (Below.heap_alloc w3 _ x hx)
  refine ⟨g, cp, w5, hrun, by unfold Gl; rw [← lv9_snoc]; exact own, lies, hblk, ⟨gr.os.trans hb.os, gr.tape.trans hb.tape, gr.output.trans hb.output, by omega, fun x hx => (hblk x (by omega) (fun e => ?_)).trans (hb.block x (by omega))⟩, lt, by omega⟩
  have := (World.ownsRow.lt h x e).1
  omega

/-- lists that are made one by one, above w0. -/
structure Cg (w0 w : World) (av : Value) (m : Nat) (n C B : Nat → Nat) (S : Nat → Nat → Nat) : Prop where
  bel : Below w0.heap.size w0 w
  own : Gl w w0.heap.size av m (fun r => .slice (some ⟨B r, 0, none⟩) (n r) (C r))
  row : ∀ r, r < m → w0.heap.size ≤ B r ∧ B r < w.heap.size ∧ av.ownBlock ≠ some (B r) ∧ n r ≤ C r ∧ Rw w (B r) (C r) (S r)
  inj : ∀ i j, i < m → j < m → B i = B j → i = j
theorem Cg.start (w0 : World) (n C B : Nat → Nat) (S : Nat → Nat → Nat) : Cg w0 w0 (.slice none 0 0) 0 n C B S :=
  ⟨Below.refl _ _, Gl.zero _ _ _, fun r hr => absurd hr (Nat.not_lt_zero _), fun i j hi => absurd hi (Nat.not_lt_zero _)⟩
theorem Cg.cs {w0 w : World} {av : Value} {m : Nat} {n C B : Nat → Nat} {S : Nat → Nat → Nat} (h : Cg w0 w av m n C B S) : Cs w0.heap.size w.heap.size w av m n C B S := by
  obtain ⟨a, c, e, c1, c2, hf⟩ := h.own.form
  refine ⟨by unfold big; unfold maxLen at c2; omega, Nat.le_refl _, ⟨a, c, e, c1, by unfold big; unfold maxLen at c2; omega, fun h0 => ?_⟩, fun i hi => ?_, h.inj⟩
  · obtain ⟨g, e1, g1, g2, g3, g4⟩ := hf h0
    refine ⟨g, e1, g1, g2, fun i hi eb => ?_, g4⟩
    have := (h.row i hi).2.2.1
    rw [g3, eb] at this
    exact this rfl
  · obtain ⟨r1, r2, r3, r4, r5⟩ := h.row i hi
    exact ⟨r1, r2, r4, r5⟩
theorem Cg.form {w0 w : World} {av : Value} {m : Nat} {n C B : Nat → Nat} {S : Nat → Nat → Nat} (h : Cg w0 w av m n C B S) : ∃ a c, av = .slice a m c := by
  obtain ⟨a, c, e, _⟩ := h.own.form
  exact ⟨a, c, e⟩
theorem Cg.congr {w0 w : World} {av : Value} {m : Nat} {n C B n' C' B' : Nat → Nat} {S S' : Nat → Nat → Nat} (h : Cg w0 w av m n C B S) (e : ∀ r, r < m → n r = n' r ∧ C r = C' r ∧ B r = B' r ∧ S r = S' r) : Cg w0 w av m n' C' B' S' := by
  refine ⟨h.bel, h.own.congr (fun r hr => ?_), fun r hr => ?_, fun i j hi hj hij => ?_⟩
  · obtain ⟨e1, e2, e3, e4⟩ := e r hr
    rw [e1, e2, e3]
  · obtain ⟨e1, e2, e3, e4⟩ := e r hr
    rw [← e1, ← e2, ← e3, ← e4]
    exact h.row r hr
  · rw [← (e i hi).2.2.1, ← (e j hj).2.2.1] at hij
    exact h.inj i j hi hj hij
/-- one list more. -/
theorem cg_run {w0 w w3 : World} {av : Value} {m : Nat} {n C B : Nat → Nat} {S : Nat → Nat → Nat} (h : Cg w0 w av m n C B S) (hb : Below w.heap.size w w3) {b nb Cb : Nat} {F : Nat → Nat} (hlo : w.heap.size ≤ b) (hn : nb ≤ Cb) (hr : Rw w3 b Cb F) (hm : (m + 1) * 24 ≤ 140737488355328) :
    ∃ v5 w5, (Builtin.append_ #[23, 23] 23 #[av, .slice (some ⟨w3.heap.size, 0, none⟩) 1 1]).run Try.prog (w3.alloc (.cells #[.slice (some ⟨b, 0, none⟩) nb Cb] 22)) = .ok v5 w5 ∧
      Cg w0 w5 v5 (m + 1) (upn n m nb) (upn C m Cb) (upn B m b) (upn S m F) := by
  have hbs := h.bel.size
  have hs3 := hb.size
  obtain ⟨g, cp, w5, hrun, hG, lies, hblk, hb5, hg5, hs5⟩ := gl_run (k := 1) h.own hbs hb (fun _ => .slice (some ⟨b, 0, none⟩) nb Cb) (fun j hj => rfl) (by decide) hm
  have old : ∀ r, r < m → g ≠ B r ∧ Rw w5 (B r) (C r) (S r) := by
    intro r hr'
    obtain ⟨r1, r2, r3, r4, r5⟩ := h.row r hr'
    refine ⟨?_, (rw_below r5 hb).of_block (hblk _ (by omega) r3)⟩
    rcases lies with l | l
    · intro e; rw [l, e] at r3; exact r3 rfl
    · omega
  have hbl := hr.lt
  have new : g ≠ b ∧ Rw w5 b Cb F := by
    have hne : av.ownBlock ≠ some b := fun e => by
      have := (World.ownsRow.lt h.own b e).2
      omega
    refine ⟨?_, hr.of_block (hblk _ hbl hne)⟩
    rcases lies with l | l
    · intro e; rw [l, e] at hne; exact hne rfl
    · omega
  refine ⟨_, w5, hrun, h.bel.trans hb5, hG.congr (fun r hr' => ?_), fun r hr' => ?_, fun i j hi hj hij => ?_⟩
  · by_cases e : r = m
    · subst e; rw [if_neg (Nat.lt_irrefl _), upn_same, upn_same, upn_same]
    · rw [if_pos (by omega), upn_other _ _ e, upn_other _ _ e, upn_other _ _ e]
  · by_cases e : r = m
    · subst e
      rw [upn_same, upn_same, upn_same, upn_same]
      exact ⟨by omega, by omega, by simpa [Value.ownBlock] using new.1, hn, new.2⟩
    · rw [upn_other _ _ e, upn_other _ _ e, upn_other _ _ e, upn_other _ _ e]
      obtain ⟨r1, r2, r3, r4, r5⟩ := h.row r (by omega)
      exact ⟨r1, by omega, by simpa [Value.ownBlock] using (old r (by omega)).1, r4, (old r (by omega)).2⟩
  · by_cases e1 : i = m
    · subst e1
      rw [upn_same] at hij
      by_cases e2 : j = i
      · exact e2.symm
      · rw [upn_other _ _ e2] at hij
        have := (h.row j (by omega)).2.1
        omega
    · rw [upn_other _ _ e1] at hij
      by_cases e2 : j = m
      · subst e2
        rw [upn_same] at hij
        have := (h.row i (by omega)).2.1
        omega
      · rw [upn_other _ _ e2] at hij
        exact h.inj i j (by omega) (by omega) hij

set_option maxHeartbeats 2000000 in
set_option maxRecDepth 100000 in
theorem copies9_any (u : Value) (m : Nat) (n : Nat → Nat) (S : Nat → Nat → Nat) (w : World) (h : Lb w u m n S) (hm : 24 * m ≤ 140737488351232) (hn : ∀ i, i < m → n i ≤ 140737488351232) :
    Calls Try.prog 9 #[u] w fun e w' => ∃ v B, e = .returned v ∧ Cs w.heap.size w'.heap.size w' v m n n B S ∧ Below w.heap.size w w' := by
  obtain ⟨V, ⟨hmb, a, cap, rfl, -, -, h4⟩, hV⟩ := h
  go_enter Try.func9, Try.ntmps9
  go_wp2
  go_loopw [3, 8] (fun o i wr => ∃ k B, k ≤ m ∧ i = .int .i64 (k : Nat) ∧ Cg w wr o k n n B S) (fun _ i _ => m - (intOf i).toNat)
  case atStart => exact ⟨0, fun _ => 0, Nat.zero_le _, rfl, Cg.start _ _ _ _ _⟩
  case round =>
    obtain ⟨k, B, hk, rfl, hG⟩ := hrel
    obtain ⟨oa, oC, rfl⟩ := hG.form
    by_cases hlt : k < m
    · obtain ⟨b, o', rfl, hbl, hc⟩ := h4 (by omega)
      have q1 : wr.cell? ⟨b, o' + k, none⟩ = some (V k) := (hG.bel.cell (p := ⟨b, o' + k, none⟩) hbl.1).trans (hc k hlt)
      have hr1 := (hV k hlt).rb.below hG.bel
      obtain ⟨x1, y1, e1⟩ : ∃ x y, V k = .slice x (n k) y := by obtain ⟨_, _, x, y, e, _⟩ := hr1; exact ⟨x, y, e⟩
      rw [e1] at q1 hr1
      have c1 := copied9_any _ _ _ wr hr1 (by have := hn k hlt; omega)
      have HA : Hid (∀ w3, Rw w3 wr.heap.size (n k) (S k) → Below wr.heap.size wr w3 → ∃ v5 w5, (Builtin.append_ #[23, 23] 23 #[.slice oa k oC, .slice (some ⟨w3.heap.size, 0, none⟩) 1 1]).run Try.prog (w3.alloc (.cells #[.slice (some ⟨wr.heap.size, 0, none⟩) (n k) (n k)] 22)) = .ok v5 w5 ∧ Cg w w5 v5 (k + 1) (upn n k (n k)) (upn n k (n k)) (upn B k wr.heap.size) (upn S k (S k))) :=
        fun w3 r3 b3 => cg_run hG b3 (Nat.le_refl _) (Nat.le_refl _) r3 (by omega)
      have ib : ((k : Nat) : Int) < (m : Int) := by omega
      have W1 := wrap_succ8 (j := k) (by unfold big; omega)
      clear hr1 hG hc h4 hV hn hm hmb e1
      go_wp2_with (first | (go_at_call 8; (with_reducible refine c1.mono ?_); rintro e w3 ⟨rfl, r3, b3, -⟩; obtain ⟨v5, w5, hrun, hG5⟩ := HA.out w3 r3 b3; clear c1) | (at_builtin; refine Lib.wpList_append_run _ rfl _ _ _ _ rfl _ _ rfl rfl _ _ hrun ?_))
      go_roundw
      case rel =>
        refine ⟨k + 1, upn B k wr.heap.size, hlt, by first | rfl | (rw [W1]; rfl), hG5.congr (fun r hr => ?_)⟩
        by_cases e : r = k
        · subst e; exact ⟨upn_same _ _ _, upn_same _ _ _, rfl, upn_same _ _ _⟩
        · exact ⟨upn_other _ _ e, upn_other _ _ e, rfl, upn_other _ _ e⟩
      case measure => first | exact meas_lt8 hlt | (rw [W1]; exact meas_lt8 hlt)
    · have hkN : k = m := by omega
      subst hkN
      clear h4
      go_wp2
      go_ret
      exact ⟨_, B, rfl, hG.cs, hG.bel⟩
end Go.Proofs.Ytdeophhcbkahgaa
namespace Go.Proofs.Ytdeophhcbkahgaa
open Go.RowKit Gf2
set_option linter.unusedVariables false

/-- a list that grows by append: L bytes S, nil while there is none, else in a row of its own. -/
def Gw (w0 W : World) (v : Value) (L : Nat) (S : Nat → Nat) : Prop := Below w0.heap.size w0 W ∧ ((L = 0 ∧ v = .slice none 0 0) ∨ ∃ g C F, v = .slice (some ⟨g, 0, none⟩) L C ∧ L ≤ C ∧ w0.heap.size ≤ g ∧ Rw W g C F ∧ ∀ i, i < L → F i = S i)
theorem Gw.start (w0 : World) (S : Nat → Nat) : Gw w0 w0 (.slice none 0 0) 0 S := ⟨Below.refl _ _, .inl ⟨rfl, rfl⟩⟩
theorem Gw.congr {w0 W : World} {v : Value} {L : Nat} {S T : Nat → Nat} (h : Gw w0 W v L S) (e : ∀ i, i < L → S i = T i) : Gw w0 W v L T := by
  refine ⟨h.1, ?_⟩
  rcases h.2 with h2 | ⟨g, C, F, a1, a2, a3, a4, a5⟩
  · exact .inl h2
  · exact .inr ⟨g, C, F, a1, a2, a3, a4, fun i hi => (a5 i hi).trans (e i hi)⟩
theorem Gw.below {w0 W W' : World} {v : Value} {L : Nat} {S : Nat → Nat} (h : Gw w0 W v L S) (hb : Below W.heap.size W W') : Gw w0 W' v L S := by
  refine ⟨h.1.trans (hb.mono h.1.size), ?_⟩
  rcases h.2 with h2 | ⟨g, C, F, a1, a2, a3, a4, a5⟩
  · exact .inl h2
  · exact .inr ⟨g, C, F, a1, a2, a3, rw_below a4 hb, a5⟩
theorem Gw.drewN {w0 W : World} {v : Value} {L : Nat} {S : Nat → Nat} (h : Gw w0 W v L S) (m : Nat) : Gw w0 (W.drewN m) v L S := by
  refine ⟨below_drewN h.1 m, ?_⟩
  rcases h.2 with h2 | ⟨g, C, F, a1, a2, a3, a4, a5⟩
  · exact .inl h2
  · exact .inr ⟨g, C, F, a1, a2, a3, a4.drewN m, a5⟩
theorem Gw.drew {w0 W : World} {v : Value} {L : Nat} {S : Nat → Nat} (h : Gw w0 W v L S) : Gw w0 W.drew v L S := by
  refine ⟨h.1.drew, ?_⟩
  rcases h.2 with h2 | ⟨g, C, F, a1, a2, a3, a4, a5⟩
  · exact .inl h2
  · exact .inr ⟨g, C, F, a1, a2, a3, ⟨a4.1, a4.2.1, a4.2.2.drew⟩, a5⟩
theorem Gw.form {w0 W : World} {v : Value} {L : Nat} {S : Nat → Nat} (h : Gw w0 W v L S) : ∃ a C, v = .slice a L C := by
  rcases h.2 with ⟨rfl, rfl⟩ | ⟨g, C, F, a1, -⟩
  · exact ⟨_, _, rfl⟩
  · exact ⟨_, _, a1⟩
/-- it reads so. -/
theorem Gw.rb {w0 W : World} {v : Value} {L : Nat} {S : Nat → Nat} (h : Gw w0 W v L S) : Rb W v L S := by
  rcases h.2 with ⟨rfl, rfl⟩ | ⟨g, C, F, rfl, a2, a3, a4, a5⟩
  · exact ⟨Nat.zero_le _, fun i hi => absurd hi (Nat.not_lt_zero _), _, _, rfl, Nat.le_refl _, Nat.zero_le _, fun h => absurd h (Nat.lt_irrefl _)⟩
  · exact (a4.rb (o := 0) (n := L) (cap := C) (by omega) a2 a4.1).congr (fun i hi => by rw [Nat.zero_add]; exact a5 i hi)

/-- it stays while a block of before turns. -/
theorem Gw.kp {w0 W W' : World} {v : Value} {L g : Nat} {S : Nat → Nat} (h : Gw w0 W v L S) (hk : Kp g W W') (hg : g < w0.heap.size) : Rb W' v L S := by
  rcases h.2 with ⟨rfl, rfl⟩ | ⟨b, C, F, rfl, a2, a3, a4, a5⟩
  · exact ⟨Nat.zero_le _, fun i hi => absurd hi (Nat.not_lt_zero _), _, _, rfl, Nat.le_refl _, Nat.zero_le _, fun h => absurd h (Nat.lt_irrefl _)⟩
  · have a4' := hk.rw_ a4 (by omega)
    exact (a4'.rb (o := 0) (n := L) (cap := C) (by omega) a2 a4.1).congr (fun i hi => by rw [Nat.zero_add]; exact a5 i hi)
theorem own8_rb {w w' : World} {g C n : Nat} {S : Nat → Nat} (h : Own8 w w' g C n S) : Rb w' (.slice (some ⟨g, 0, none⟩) n C) n S := by
  obtain ⟨h1, h2, h3, F, h4, h5⟩ := h
  exact (h4.rb (o := 0) (n := n) (cap := C) (by omega) h1 h4.1).congr (fun i hi => by rw [Nat.zero_add]; exact h5 i hi)
theorem step_app6 {P : Program} {ops : Array Oper} {o : Oper} {a : Act} {w : World} {K : Act → World → Prop} {Q : Exit → Act → World → Prop} {E : Prop} (hgd : o.guard = none) (s x : Operand) (t : TypeId)
    (ho : o.op = .call { callee := .builtin .append, args := #[s, x], argTypes := #[t, t] }) {v1 v2 v' : Value} {w' : World} (hs : a.eval s = v1) (hx : a.eval x = v2)
    (hrun : (Builtin.append_ #[t, t] o.type #[v1, v2]).run P w = .ok v' w') (h : K (a.put o.dst v') w') : if Region.wanted o (yielded ops a.tmps) = true then Oper.wp P o a w K Q else E := by
  have hw : Region.wanted o (yielded ops a.tmps) = true := by simp [Region.wanted, hgd]
  rw [if_pos hw]
  unfold Oper.wp execOp
  simp only [ho, resolve, invoke, builtin, Sem.run_bind, Sem.run_pure, Result.andThen_ok, List.map_toArray, List.map_cons, List.map_nil, hs, hx, hrun]
  exact h
/-- n bytes more behind nothing. -/
theorem app8_nil (w : World) {x : Option Addr} {n cx : Nat} {S : Nat → Nat} (hS : ∀ i, i < n → S i < 256) (h0 : 0 < n)
    (h4 : ∃ b p, x = some ⟨b, p, none⟩ ∧ ∀ i, i < n → w.cell? ⟨b, p + i, none⟩ = some (.int .u8 (S i : Nat))) (hn : n ≤ 140737488355328) :
    ∃ w' C' F', (Builtin.append_ #[22, 22] 22 #[.slice none 0 0, .slice x n cx]).run Try.prog w = .ok (.slice (some ⟨w.heap.size, 0, none⟩) n C') w' ∧
      n ≤ C' ∧ Rw w' w.heap.size C' F' ∧ (∀ i, i < n → F' i = S i) ∧ w'.heap.size = w.heap.size + 1 ∧ Below w.heap.size w w' := by
  obtain ⟨ti, hi, hz, hs1, hb1⟩ := info_u8a
  obtain ⟨b, p, rfl, hc⟩ := h4
  have ea : ∀ j, (⟨b, p, none⟩ : Addr).add j = ⟨b, p + j, none⟩ := fun j => by unfold Addr.add; split <;> simp_all
  have hs : Src Try.prog ti.size 22 (.slice (some ⟨b, p, none⟩) n cx) n (bs n S) w := Src.ofSlice w Try.underlying22 ⟨b, p, none⟩ n cx (bs n S) (by rw [bs_len, hs1, Nat.mul_one]) (fun j u h => by
    have hj : j < n := by
      rcases Nat.lt_or_ge j n with h9 | h9
      · exact h9
      · rw [List.getElem?_eq_none (by rw [bs_len]; exact h9)] at h; cases h
    rw [bs_get n S j hj] at h
    cases h
    rw [ea]
    exact hc j hj) bs_one
  have hold : (Builtin.firstCells ti.size 0 (.slice none 0 0)).run Try.prog w.drew = .ok (([] : List Value)).toArray w.drew := by
    simp [Builtin.firstCells]
  have hrun := run_append_grow_src w 22 22 22 5 ti (Value.int .u8 0) Try.underlying22 hi hz none 0 0 [] hold _ n (bs n S) hs (by omega) (by omega) (growslice_fits (by omega) (by rw [hb1, Nat.mul_one]; omega))
  have hge := grownCap_ge w (0 + n) 0 5
  have hcm := grownCap_le_maxLen w (0 + n) 0 5 (by unfold maxLen; omega)
  obtain ⟨C', hC'⟩ : ∃ C', C' = grownCap w (0 + n) 0 5 := ⟨_, rfl⟩
  rw [← hC'] at hrun hge hcm
  rw [Nat.zero_add] at hrun hge
  refine ⟨_, C', fun i => if i < n then S i else 0, hrun, hge, ⟨by unfold big; unfold maxLen at hcm; exact hcm, fun i hi => ?_, _, heap_alloc_new _ _, ?_, fun i hi => ?_⟩, fun i hi => if_pos hi, by simp, ?_⟩
  · dsimp only
    split
    · exact hS _ (by omega)
    · decide
  · rw [Array.size_append, List.size_toArray, List.length_append, bs_len, size_zeroCells]
    show 0 + n + (C' - n) * 1 = C'
    omega
  · show _ = some (Value.int .u8 (((if i < n then S i else 0) : Nat) : Int))
    rw [List.nil_append]
    by_cases e2 : i < n
    · rw [if_pos e2, Array.getElem?_append_left (by simp [bs_len]; omega), List.getElem?_toArray, bs_get _ _ _ e2]
    · rw [if_neg e2, Array.getElem?_append_right (by simp [bs_len]; omega)]
      have hk : i - ((bs n S).toArray).size < C' - n := by simp [bs_len]; omega
      generalize i - ((bs n S).toArray).size = k at hk
      simp [Builtin.zeroCells, Value.cells, hk, Nat.mod_one]
  · exact ((Below.refl w.heap.size w).drew).alloc (by simp) _

/-- two lists lie in unlike blocks. -/
def Dif (v u : Value) : Prop := ∀ b o o' L L' C C', v = .slice (some ⟨b, o, none⟩) L C → u = .slice (some ⟨b, o', none⟩) L' C' → False
theorem Dif.nil (u : Value) : Dif (.slice none 0 0) u := fun b o o' L L' C C' h => by cases h
theorem Dif.symm {v u : Value} (h : Dif v u) : Dif u v := fun b o o' L L' C C' h1 h2 => h b o' o L' L C' C h2 h1
theorem Gw.apart {w0 W W' : World} {v u : Value} {L M g : Nat} {S T : Nat → Nat} (h : Gw w0 W u M T) (ho : Only g W W') (hg : w0.heap.size ≤ g) (hd : ∀ o L' C', u = .slice (some ⟨g, o, none⟩) L' C' → False) : Gw w0 W' u M T := by
  refine ⟨h.1.trans (ho.below hg), ?_⟩
  rcases h.2 with h2 | ⟨b, C, F, a1, a2, a3, a4, a5⟩
  · exact .inl h2
  · exact .inr ⟨b, C, F, a1, a2, a3, ho.rw_ a4 (fun e => hd 0 M C (by rw [a1, e])), a5⟩
theorem Gw.blk {w0 W : World} {u : Value} {M : Nat} {T : Nat → Nat} (h : Gw w0 W u M T) {b o L' C' : Nat} (e : u = .slice (some ⟨b, o, none⟩) L' C') : b < W.heap.size := by
  rcases h.2 with ⟨-, h2⟩ | ⟨g, C, F, a1, a2, a3, a4, a5⟩
  · rw [h2] at e; cases e
  · rw [a1] at e
    cases e
    exact a4.lt

/-- one byte more; its own block is the newest. -/
theorem app_gw2 {w0 W : World} {v : Value} {L : Nat} {S : Nat → Nat} (h : Gw w0 W v L S) (t : Nat) (ht : t < 256) (hL : L + 1 ≤ 140737488355328) :
    ∃ w' v', (Builtin.append_ #[22, 22] 22 #[v, .slice (some ⟨W.heap.size, 0, none⟩) 1 1]).run Try.prog (W.alloc (.cells #[.int .u8 (t : Nat)] 5)) = .ok v' w' ∧ Gw w0 w' v' (L + 1) (fun i => if i < L then S i else t) ∧
      ∀ u M T, Gw w0 W u M T → Dif v u → Gw w0 w' u M T ∧ Dif v' u := by
  have hb0 : Below W.heap.size W (W.alloc (.cells #[.int .u8 (t : Nat)] 5)) := (Below.refl _ _).alloc (Nat.le_refl _) _
  have hsz : (W.alloc (.cells #[.int .u8 (t : Nat)] 5)).heap.size = W.heap.size + 1 := by simp
  have hcell : ∀ i, i < 1 → (W.alloc (.cells #[.int .u8 (t : Nat)] 5)).cell? ⟨W.heap.size, 0 + i, none⟩ = some (.int .u8 ((fun _ => t) i : Nat)) := by
    intro i hi
    obtain rfl : i = 0 := by omega
    rw [cell_of_row _ W.heap.size (0 + 0) _ _ _ (heap_alloc_new _ _)]
    rfl
  have h1 := h.below hb0
  rcases h1.2 with ⟨rfl, rfl⟩ | ⟨g, C, F, rfl, a2, a3, a4, a5⟩
  · obtain ⟨w', C', F', hrun, hC, hR, hF, hs, hb⟩ := app8_nil (W.alloc (.cells #[.int .u8 (t : Nat)] 5)) (x := some ⟨W.heap.size, 0, none⟩) (n := 1) (cx := 1) (S := fun _ => t) (fun _ _ => ht) (by decide) ⟨_, _, rfl, hcell⟩ (by omega)
    refine ⟨w', _, hrun, ⟨h1.1.trans (hb.mono h1.1.size), .inr ⟨_, C', F', rfl, hC, h1.1.size, hR, fun i hi => ?_⟩⟩, fun u M T hu hd => ⟨(hu.below hb0).below hb, fun b o o' L1 L2 C1 C2 e1 e2 => ?_⟩⟩
    · rw [hF i (by omega)]
      show t = if i < 0 then S i else t
      rw [if_neg (Nat.not_lt_zero _)]
    · have := hu.blk e2
      cases e1
      omega
  · obtain ⟨w', g', C', F', hrun, hC, hR, hF1, hF2, hcase⟩ := app8 (W.alloc (.cells #[.int .u8 (t : Nat)] 5)) (g := g) (C := C) (L := L) a4 a2 (x := some ⟨W.heap.size, 0, none⟩) (n := 1) (cx := 1) (S := fun _ => t) (fun _ _ => ht) (fun _ => ⟨_, _, rfl, hcell⟩) hL
    refine ⟨w', _, hrun, ⟨?_, .inr ⟨g', C', F', rfl, hC, ?_, hR, fun i hi => ?_⟩⟩, fun u M T hu hd => ?_⟩
    · rcases hcase with ⟨rfl, ho⟩ | ⟨rfl, -, hb⟩
      · exact h1.1.trans (ho.below a3)
      · exact h1.1.trans (hb.mono h1.1.size)
    · rcases hcase with ⟨rfl, ho⟩ | ⟨rfl, -, hb⟩
      · exact a3
      · exact h1.1.size
    · dsimp only
      by_cases e : i < L
      · rw [if_pos e, hF1 i e]; exact a5 i e
      · rw [if_neg e, show i = L + 0 by omega]
        exact hF2 0 (by decide)
    · rcases hcase with ⟨rfl, ho⟩ | ⟨rfl, -, hb⟩
      · refine ⟨(hu.below hb0).apart (v := u) (L := M) (S := T) ho a3 (fun o L' C2 e => hd g' 0 o L L' C C2 rfl e), fun b o o' L1 L2 C1 C2 e1 e2 => ?_⟩
        cases e1
        exact hd g' 0 o' L L2 C C2 rfl e2
      · refine ⟨(hu.below hb0).below hb, fun b o o' L1 L2 C1 C2 e1 e2 => ?_⟩
        have := hu.blk e2
        cases e1
        omega
theorem app_gw {w0 W : World} {v : Value} {L : Nat} {S : Nat → Nat} (h : Gw w0 W v L S) (t : Nat) (ht : t < 256) (hL : L + 1 ≤ 140737488355328) :
    ∃ w' v', (Builtin.append_ #[22, 22] 22 #[v, .slice (some ⟨W.heap.size, 0, none⟩) 1 1]).run Try.prog (W.alloc (.cells #[.int .u8 (t : Nat)] 5)) = .ok v' w' ∧ Gw w0 w' v' (L + 1) (fun i => if i < L then S i else t) := by
  obtain ⟨w', v', h1, h2, -⟩ := app_gw2 h t ht hL
  exact ⟨w', v', h1, h2⟩
end Go.Proofs.Ytdeophhcbkahgaa
namespace Go.Proofs.Ytdeophhcbkahgaa
open Go.RowKit Gf2
set_option linter.unusedVariables false

set_option maxHeartbeats 2000000 in
set_option maxRecDepth 100000 in
theorem refSum9_any (row srcs : Value) (k m : Nat) (n : Nat → Nat) (R : Nat → Nat) (S : Nat → Nat → Nat) (t : Nat) (w : World) (h : Rb w row k R) (hs : Lb w srcs m n S) (hk : k ≤ m) (ht : ∀ i, i < k → t < n i) (hkb : k ≤ 140737488355328) :
    Calls Try.prog 32 #[row, srcs, .int .i64 (t : Int)] w fun e w' => e = .returned (.int .u8 (ks R S k t : Nat)) ∧ ∃ q, w' = w.drewN q := by
  obtain ⟨h1, h2, a, cap, rfl, -, -, h4⟩ := h
  obtain ⟨V, ⟨hmb, a', cap', rfl, -, -, k4⟩, hV⟩ := hs
  go_enter Try.func32, Try.ntmps32
  go_wp2
  go_loopw [7, 11] (fun x i wr => ∃ j q : Nat, j ≤ k ∧ i = .int .i64 j ∧ x = .int .u8 (ks R S j t : Nat) ∧ wr = w.drewN q) (fun _ i _ => k - (intOf i).toNat)
  case atStart => exact ⟨0, 0, Nat.zero_le _, rfl, rfl, rfl⟩
  case round =>
    obtain ⟨j, q, hj, rfl, rfl, hw⟩ := hrel
    by_cases hlt : j < k
    · obtain ⟨b, o, rfl, -, hc⟩ := h4 (by omega)
      obtain ⟨b', o', rfl, -, hc'⟩ := k4 (by omega)
      have q1 : wr.cell? ⟨b, o + j, none⟩ = some (.int .u8 (R j : Nat)) := by rw [hw]; exact hc j hlt
      have q2 : wr.cell? ⟨b', o' + j, none⟩ = some (V j) := by rw [hw]; exact hc' j (by omega)
      obtain ⟨s1, s2, x1, y1, e1, -, -, s4⟩ := hV j (by omega)
      rw [e1] at q2
      have htj := ht j hlt
      obtain ⟨b2, o2, rfl, -, hc2⟩ := s4 (by omega)
      have q3 : wr.cell? ⟨b2, o2 + t, none⟩ = some (.int .u8 (S j t : Nat)) := by rw [hw]; exact hc2 t htj
      have HW : Hid (wr = w.drewN q) := hw
      have ib : ((j : Nat) : Int) < (k : Int) := by omega
      have ib2 : ((j : Nat) : Int) < (m : Int) := by omega
      have ib3 : ((t : Nat) : Int) < (n j : Int) := by omega
      have c1 := fun w => refMul_nat (R j) (S j t) w (h2 j hlt) (s2 t htj)
      have X := u8_xor_nat (ks R S j t) (fm 285 (R j) (S j t)) (ks_lt _ _ _ _) (fm8_lt _ _)
      have W1 := wrap_succ8 (j := j) (by unfold big; omega)
      clear hc hc' hw h4 k4 hV hc2 s4 s1 s2 h1 h2 hmb e1 htj ht hkb hk
      go_wp2
      go_quiet ((go_at_call 33; with_reducible exact Calls.quiet_of_same (c1 _)))
      go_wp2
      go_roundw
      case rel => exact ⟨j + 1, q + nq, hlt, by first | rfl | (rw [W1]; rfl), rfl, by rw [HW.out, World.drewN_drewN]⟩
      case measure => first | exact meas_lt8 hlt | (rw [W1]; exact meas_lt8 hlt)
    · have hk5 : j = k := by omega
      subst hk5
      subst hw
      clear h4 k4
      go_wp2
      go_ret
      exact ⟨rfl, _, rfl⟩

set_option maxHeartbeats 2000000 in
set_option maxRecDepth 100000 in
theorem refMul9_lens (c n m : Nat) (add : Bool) (u v : Value) (D S : Nat → Nat) (w : World) (hu : Rb w u n D) (hv : Rb w v m S) (hn : n ≤ 140737488351232) (hnm : n ≠ m) :
    Calls Try.prog 37 #[.int .u8 (c : Int), u, v, .bool add] w fun e w' => ∃ g C, e = .returned (.tuple #[.slice (some ⟨g, 0, none⟩) n C, .int .i64 6]) ∧ Own8 w w' g C n D := by
  obtain ⟨x, cx, rfl⟩ : ∃ x cx, u = .slice x n cx := by obtain ⟨_, _, a, cap, h, _⟩ := hu; exact ⟨a, cap, h⟩
  obtain ⟨w1, g, C, F0, hrun, hC, hg, hg1, hR, hF, hb⟩ := copy_app w hu (by omega)
  obtain ⟨k1, k2, b, cb, rfl, k5, k6, k4⟩ := hv
  have HA : Hid (n ≤ C ∧ w.heap.size ≤ g ∧ Rw w1 g C F0 ∧ Below w.heap.size w w1 ∧ ∀ i, i < n → F0 i = D i) := ⟨hC, hg, hR, hb, hF⟩
  have hI : ¬ ((n : Int) = (m : Int)) := by omega
  clear hu hC hg hR hb hF hg1 k4
  go_enter Try.func37, Try.ntmps37
  go_wp2_with (at_builtin; refine Lib.wpList_append_run _ rfl _ _ _ _ rfl _ _ rfl rfl _ _ hrun ?_)
  go_ret2
  obtain ⟨hC, hg, hR, hb, hF⟩ := HA.out
  exact ⟨g, C, rfl, hC, hg, hb, _, hR, hF⟩

theorem grown_set {w wr : World} {g C k v : Nat} {M F0 : Nat → Nat} (h : Rw wr g C (fun y => if y < k then M y else F0 y)) (hb : Below w.heap.size w wr) (hg : w.heap.size ≤ g) (e : v = M k) (hv : M k < 256) :
    Rw (wr.setCell ⟨g, k, none⟩ (.int .u8 (v : Nat))) g C (fun y => if y < k + 1 then M y else F0 y) ∧ Below w.heap.size w (wr.setCell ⟨g, k, none⟩ (.int .u8 (v : Nat))) := by
  subst e
  refine ⟨(h.set k _ hv).congr (fun i hi => ?_), hb.setCell (by simpa using hg) _⟩
  by_cases e : i = k
  · subst e; rw [if_pos rfl, if_pos (Nat.lt_succ_self _)]
  · rw [if_neg e]
    by_cases e2 : i < k
    · rw [if_pos e2, if_pos (Nat.lt_succ_of_lt e2)]
    · rw [if_neg e2, if_neg (by omega)]
/-- what Mul writes. -/
def mz (add : Bool) (c : Nat) (D S : Nat → Nat) (i : Nat) : Nat := if add then fm 285 c (S i) ^^^ D i else fm 285 c (S i)
theorem mz_lt {add : Bool} {c : Nat} {D S : Nat → Nat} {i : Nat} (h : D i < 256) : mz add c D S i < 256 := by
  unfold mz
  split
  · exact Nat.xor_lt_two_pow (n := 8) (fm8_lt _ _) h
  · exact fm8_lt _ _

set_option maxHeartbeats 2000000 in
set_option maxRecDepth 100000 in
theorem refMul9_any (c n : Nat) (add : Bool) (u v : Value) (D S : Nat → Nat) (w : World) (hc : c < 256) (hu : Rb w u n D) (hv : Rb w v n S) (hn : n ≤ 140737488351232) :
    Calls Try.prog 37 #[.int .u8 (c : Int), u, v, .bool add] w fun e w' => ∃ g C, e = .returned (.tuple #[.slice (some ⟨g, 0, none⟩) n C, .int .i64 0]) ∧ Own8 w w' g C n (mz add c D S) := by
  obtain ⟨w1, g, C, F0, hrun, hC, hg, hg1, hR, hF, hb⟩ := copy_app w (x := (match u with | .slice x _ _ => x | _ => none)) (n := n) (cx := (match u with | .slice _ _ c => c | _ => 0)) (S := D) (by obtain ⟨_, _, a, cap, h, _⟩ := id hu; subst h; exact hu) (by omega)
  obtain ⟨j1, j2, x, cx, rfl, j5, j6, j4⟩ := hu
  dsimp only at hrun
  obtain ⟨k1, k2, b, cb, rfl, k5, k6, k4⟩ := hv
  clear j5 j6 k5 k6
  go_enter Try.func37, Try.ntmps37
  go_wp2_with (at_builtin; refine Lib.wpList_append_run _ rfl _ _ _ _ rfl _ _ rfl rfl _ _ hrun ?_)
  clear hrun
  go_loopw [24] (fun i wr => ∃ k : Nat, k ≤ n ∧ i = .int .i64 k ∧ Below w.heap.size w wr ∧ Rw wr g C (fun y => if y < k then mz add c D S y else F0 y)) (fun i _ => n - (intOf i).toNat)
  case atStart => exact ⟨0, Nat.zero_le _, rfl, hb, hR.congr (fun i _ => (if_neg (Nat.not_lt_zero _)).symm)⟩
  case round =>
    obtain ⟨k, hk, rfl, hb2, hR2⟩ := hrel
    by_cases hlt : k < n
    · obtain ⟨b', o', rfl, hbl', hc'⟩ := k4 (by omega)
      obtain ⟨b3, o3, rfl, hbl3, hc3⟩ := j4 (by omega)
      have q4 := (hb2.cell (p := ⟨b', o' + k, none⟩) hbl').trans (hc' k hlt)
      have q5 := (hb2.cell (p := ⟨b3, o3 + k, none⟩) hbl3).trans (hc3 k hlt)
      have q1 := hR2.2.2.cell (i := k) (by omega)
      simp only [Nat.lt_irrefl, if_false] at q1
      have q2 := hR2.2.2.frozen k
      have ib : ((k : Nat) : Int) < (n : Int) := by omega
      have c1 := fun w => refMul_nat c (S k) w hc (k2 k hlt)
      have X := u8_xor_nat (fm 285 c (S k)) (D k) (fm8_lt _ _) (j2 k hlt)
      have W1 := wrap_succ8 (j := k) (by unfold big; omega)
      have HV : Hid (Rw wr g C (fun y => if y < k then mz add c D S y else F0 y) ∧ Below w.heap.size w wr ∧ D k < 256) := ⟨hR2, hb2, j2 k hlt⟩
      have fin := fun (v : Nat) (e : v = mz add c D S k) => grown_set hR2 hb2 hg e (mz_lt (j2 k hlt))
      have HF : Hid _ := fin
      clear fin hb2 hR2 hc' hc3 k4 j4 k2 j2 k1 j1 hR hb hn
      cases add with
      | false =>
        go_wp2_with (go_at_call 33; (with_reducible refine (c1 _).mono ?_); rintro e w9 ⟨rfl, hw9⟩; have hw9 := hw9.symm; subst hw9)
        go_roundw
        case rel =>
          have F := HF.out (fm 285 c (S k)) (by unfold mz; rw [if_neg (by decide)])
          exact ⟨k + 1, hlt, by first | rfl | (rw [W1]; rfl), F.2, F.1⟩
        case measure => first | exact meas_lt8 hlt | (rw [W1]; exact meas_lt8 hlt)
      | true =>
        go_wp2_with (go_at_call 33; (with_reducible refine (c1 _).mono ?_); rintro e w9 ⟨rfl, hw9⟩; have hw9 := hw9.symm; subst hw9)
        go_roundw
        case rel =>
          have F := HF.out (fm 285 c (S k) ^^^ D k) (by unfold mz; rw [if_pos rfl])
          exact ⟨k + 1, hlt, by first | rfl | (rw [W1]; rfl), F.2, F.1⟩
        case measure => first | exact meas_lt8 hlt | (rw [W1]; exact meas_lt8 hlt)
    · have hkN : k = n := by omega
      subst hkN
      clear k4 j4
      go_wp2
      go_ret2
      exact ⟨g, C, rfl, hC, hg, hb2, _, hR2, fun i hi => if_pos hi⟩
end Go.Proofs.Ytdeophhcbkahgaa
namespace Go.Proofs.Ytdeophhcbkahgaa
open Go.RowKit Gf2
set_option linter.unusedVariables false

set_option maxHeartbeats 2000000 in
set_option maxRecDepth 100000 in
theorem refDot9_count (row srcs dst : Value) (k m L : Nat) (n : Nat → Nat) (R D : Nat → Nat) (S : Nat → Nat → Nat) (w : World) (h : Rb w row k R) (hs : Lb w srcs m n S) (hd : Rb w dst L D) (hL : L ≤ 140737488351232) (hkm : k ≠ m) :
    Calls Try.prog 38 #[row, srcs, dst] w fun e w' => ∃ g C, e = .returned (.tuple #[.slice (some ⟨g, 0, none⟩) L C, .int .i64 6]) ∧ Own8 w w' g C L D := by
  obtain ⟨x, cx, rfl⟩ : ∃ x cx, dst = .slice x L cx := by obtain ⟨_, _, a, cap, h, _⟩ := hd; exact ⟨a, cap, h⟩
  obtain ⟨w1, g, C, F0, hrun, hC, hg, hg1, hR, hF, hb⟩ := copy_app w hd (by omega)
  obtain ⟨h1, h2, a, cap, rfl, -, -, h4⟩ := h
  obtain ⟨V, ⟨hmb, a', cap', rfl, -, -, k4⟩, hV⟩ := hs
  have HA : Hid (L ≤ C ∧ w.heap.size ≤ g ∧ Rw w1 g C F0 ∧ Below w.heap.size w w1 ∧ ∀ i, i < L → F0 i = D i) := ⟨hC, hg, hR, hb, hF⟩
  have hI : ¬ ((k : Int) = (m : Int)) := fun e => hkm (Int.ofNat.inj e)
  clear hd hC hg hR hb hF hg1 k4 h4 hV
  go_enter Try.func38, Try.ntmps38
  go_wp2_with (at_builtin; refine Lib.wpList_append_run _ rfl _ _ _ _ rfl _ _ rfl rfl _ _ hrun ?_)
  go_ret2
  obtain ⟨hC, hg, hR, hb, hF⟩ := HA.out
  exact ⟨g, C, rfl, hC, hg, hb, _, hR, hF⟩

set_option maxHeartbeats 4000000 in
set_option maxRecDepth 100000 in
theorem refDot9_any (row srcs dst : Value) (k L : Nat) (n : Nat → Nat) (R D : Nat → Nat) (S : Nat → Nat → Nat) (w : World) (h : Rb w row k R) (hs : Lb w srcs k n S) (hd : Rb w dst L D) (hL : L ≤ 140737488351232) (hk : k ≤ 140737488351232) :
    Calls Try.prog 38 #[row, srcs, dst] w fun e w' => ((∀ i, i < k → n i = L) → ∃ g C, e = .returned (.tuple #[.slice (some ⟨g, 0, none⟩) L C, .int .i64 0]) ∧ Own8 w w' g C L (ks R S k)) ∧
      (¬ (∀ i, i < k → n i = L) → ∃ g C, e = .returned (.tuple #[.slice (some ⟨g, 0, none⟩) L C, .int .i64 6]) ∧ Own8 w w' g C L D) := by
  obtain ⟨x, cx, rfl⟩ : ∃ x cx, dst = .slice x L cx := by obtain ⟨_, _, a, cap, h, _⟩ := hd; exact ⟨a, cap, h⟩
  obtain ⟨w1, g, C, F0, hrun, hC, hg, hg1, hR, hF, hb⟩ := copy_app w hd (by omega)
  have hs0 := hs
  have h0 := h
  obtain ⟨h1, h2, a, cap, rfl, -, -, h4⟩ := h
  obtain ⟨V, ⟨hmb, a', cap', rfl, -, -, k4⟩, hV⟩ := hs
  clear hd
  go_enter Try.func38, Try.ntmps38
  go_wp2_with (at_builtin; refine Lib.wpList_append_run _ rfl _ _ _ _ rfl _ _ rfl rfl _ _ hrun ?_)
  clear hrun
  go_loopw [23] (fun i wr => ∃ j : Nat, j ≤ k ∧ i = .int .i64 j ∧ wr = w1 ∧ ∀ i, i < j → n i = L) (fun i _ => k - (intOf i).toNat)
  case atStart => exact ⟨0, Nat.zero_le _, rfl, rfl, fun i hi => absurd hi (Nat.not_lt_zero _)⟩
  case round =>
    obtain ⟨j, hj, rfl, hw, hE⟩ := hrel
    by_cases hlt : j < k
    · obtain ⟨b', o', rfl, hbl, hc'⟩ := k4 (by omega)
      have q2 : wr.cell? ⟨b', o' + j, none⟩ = some (V j) := by rw [hw]; exact (hb.cell (p := ⟨b', o' + j, none⟩) hbl.1).trans (hc' j hlt)
      obtain ⟨s1, s2, x1, y1, e1, -, -, s4⟩ := hV j hlt
      rw [e1] at q2
      have ib : ((j : Nat) : Int) < (k : Int) := by omega
      have W1 := wrap_succ8 (j := j) (by unfold big; omega)
      by_cases hjL : n j = L
      · rw [hjL] at q2
        have HV : Hid (wr = w1 ∧ (∀ i, i < j → n i = L) ∧ n j = L) := ⟨hw, hE, hjL⟩
        clear hw hE hjL s1 s2 s4 e1 hc' k4 h4 hV hs0 h0 hR hF hb h1 h2 hmb hbl
        go_wp2
        go_roundw
        case rel =>
          refine ⟨j + 1, hlt, by first | rfl | (rw [W1]; rfl), HV.out.1, fun i hi => ?_⟩
          by_cases e : i = j
          · rw [e]; exact HV.out.2.2
          · exact HV.out.2.1 i (by omega)
        case measure => first | exact meas_lt8 hlt | (rw [W1]; exact meas_lt8 hlt)
      · have hI : ¬ ((n j : Int) = (L : Int)) := by omega
        have HV : Hid (wr = w1 ∧ ¬ (∀ i, i < k → n i = L) ∧ L ≤ C ∧ w.heap.size ≤ g ∧ Rw w1 g C F0 ∧ Below w.heap.size w w1 ∧ ∀ i, i < L → F0 i = D i) := ⟨hw, fun h => hjL (h j hlt), hC, hg, hR, hb, hF⟩
        clear hw hE hjL s1 s2 s4 e1 hc' k4 h4 hV hs0 h0 hR hF hb h1 h2 hmb hbl
        go_wp2
        go_ret2
        obtain ⟨r1, r2, hC, hg, hR, hb, hF⟩ := HV.out
        refine ⟨fun h => absurd h r2, fun _ => ⟨g, C, rfl, hC, hg, ?_, F0, ?_, hF⟩⟩
        · rw [r1]; exact hb
        · rw [r1]; exact hR
    · have hjk : j = k := by omega
      subst hjk
      subst hw
      clear k4 h4 hV hmb h1 h2
      go_wp2
      go_loopw [36] (fun i wz => ∃ t : Nat, t ≤ L ∧ i = .int .i64 t ∧ Below w.heap.size w wz ∧ Rw wz g C (fun y => if y < t then ks R S j y else F0 y)) (fun i _ => L - (intOf i).toNat)
      case atStart => exact ⟨0, Nat.zero_le _, rfl, hb, hR.congr (fun i _ => (if_neg (Nat.not_lt_zero _)).symm)⟩
      case round =>
        obtain ⟨t, ht, rfl, hb2, hR2⟩ := hrel
        by_cases hlt2 : t < L
        · have c1 := refSum9_any _ _ j j n R S t _ (h0.below hb2) (hs0.below hb2) (Nat.le_refl _) (fun i hi => by rw [hE i hi]; exact hlt2) (by omega)
          have fin := fun q => grown_set (v := ks R S j t) (hR2.drewN q) (below_drewN hb2 q) hg rfl (ks_lt _ _ _ _)
          have q1 := fun q => (hR2.drewN q).2.2.cell (i := t) (by omega)
          simp only [Nat.lt_irrefl, if_false] at q1
          have q2 := fun q => (hR2.drewN q).2.2.frozen t
          have ib : ((t : Nat) : Int) < (L : Int) := by omega
          have W1 := wrap_succ8 (j := t) (by unfold big; omega)
          have HF : Hid _ := fin
          clear fin hb2 hR2 h0 hs0 hR hF hE hb
          go_wp2_with (go_at_call 32; (with_reducible refine c1.mono ?_); rintro e w9 ⟨rfl, q, rfl⟩; clear c1; replace q1 := q1 q; replace q2 := q2 q)
          go_roundw
          case rel =>
            have F := HF.out q
            exact ⟨t + 1, hlt2, by first | rfl | (rw [W1]; rfl), F.2, F.1⟩
          case measure => first | exact meas_lt8 hlt2 | (rw [W1]; exact meas_lt8 hlt2)
        · have htL : t = L := by omega
          subst htL
          go_wp2
          go_ret2
          exact ⟨fun _ => ⟨g, C, rfl, hC, hg, hb2, _, hR2, fun i hi => if_pos hi⟩, fun h => absurd hE h⟩

set_option maxHeartbeats 2000000 in
set_option maxRecDepth 100000 in
theorem refCopies9_any (u : Value) (m : Nat) (n : Nat → Nat) (S : Nat → Nat → Nat) (w : World) (h : Lb w u m n S) (hm : 24 * m ≤ 140737488351232) (hn : ∀ i, i < m → n i ≤ 140737488351232) :
    Calls Try.prog 30 #[u] w fun e w' => ∃ v B C T, e = .returned v ∧ Cs w.heap.size w'.heap.size w' v m n C B T ∧ (∀ i, i < m → ∀ j, j < n i → T i j = S i j) ∧ Below w.heap.size w w' := by
  obtain ⟨V, ⟨hmb, a, cap, rfl, -, -, h4⟩, hV⟩ := h
  go_enter Try.func30, Try.ntmps30
  go_wp2
  go_loopw [3, 8] (fun o i wr => ∃ k B C T, k ≤ m ∧ i = .int .i64 (k : Nat) ∧ Cg w wr o k n C B T ∧ ∀ i, i < k → ∀ j, j < n i → T i j = S i j) (fun _ i _ => m - (intOf i).toNat)
  case atStart => exact ⟨0, fun _ => 0, fun _ => 0, fun _ _ => 0, Nat.zero_le _, rfl, Cg.start _ _ _ _ _, fun i hi => absurd hi (Nat.not_lt_zero _)⟩
  case round =>
    obtain ⟨k, B, C, T, hk, rfl, hG, hT⟩ := hrel
    obtain ⟨oa, oC, rfl⟩ := hG.form
    by_cases hlt : k < m
    · obtain ⟨b, o', rfl, hbl, hc⟩ := h4 (by omega)
      have q1 : wr.cell? ⟨b, o' + k, none⟩ = some (V k) := (hG.bel.cell (p := ⟨b, o' + k, none⟩) hbl.1).trans (hc k hlt)
      have hr1 := (hV k hlt).rb.below hG.bel
      obtain ⟨x1, y1, e1⟩ : ∃ x y, V k = .slice x (n k) y := by obtain ⟨_, _, x, y, e, _⟩ := hr1; exact ⟨x, y, e⟩
      rw [e1] at q1 hr1
      obtain ⟨w1, g, Cb, F0, hrun, hC, hg, hg1, hR, hF, hb⟩ := copy_app wr hr1 (by have := hn k hlt; omega)
      obtain ⟨v5, w5, hrun5, hG5⟩ := cg_run hG hb hg hC hR (by omega)
      have ib : ((k : Nat) : Int) < (m : Int) := by omega
      have W1 := wrap_succ8 (j := k) (by unfold big; omega)
      have HV : Hid (Cg w w5 v5 (k + 1) (upn n k (n k)) (upn C k Cb) (upn B k g) (upn T k F0) ∧ (∀ i, i < n k → F0 i = S k i) ∧ ∀ i, i < k → ∀ j, j < n i → T i j = S i j) := ⟨hG5, hF, hT⟩
      clear hr1 hG hc h4 hV hn hm hmb e1 hG5 hT hF hR hb hC hg hg1
      go_wp2_with (at_builtin; first | refine Lib.wpList_append_run _ rfl _ _ _ _ rfl _ _ rfl rfl _ _ hrun5 ?_ | refine Lib.wpList_append_run _ rfl _ _ _ _ rfl _ _ rfl rfl _ _ hrun ?_)
      go_roundw
      case rel =>
        obtain ⟨a1, a2, a3⟩ := HV.out
        refine ⟨k + 1, upn B k g, upn C k Cb, upn T k F0, hlt, by first | rfl | (rw [W1]; rfl), a1.congr (fun r hr => ?_), fun i hi j hj => ?_⟩
        · by_cases e : r = k
          · subst e; exact ⟨upn_same _ _ _, rfl, rfl, rfl⟩
          · exact ⟨upn_other _ _ e, rfl, rfl, rfl⟩
        · by_cases e : i = k
          · subst e; rw [upn_same]; exact a2 j hj
          · rw [upn_other _ _ e]; exact a3 i (by omega) j hj
      case measure => first | exact meas_lt8 hlt | (rw [W1]; exact meas_lt8 hlt)
    · have hkN : k = m := by omega
      subst hkN
      clear h4
      go_wp2
      go_ret
      exact ⟨_, B, C, T, rfl, hG.cs, hT, hG.bel⟩
end Go.Proofs.Ytdeophhcbkahgaa
namespace Go.Proofs.Ytdeophhcbkahgaa
open Go.RowKit Gf2
set_option linter.unusedVariables false

/-- the one length of k lists of ns and d lists of nd. -/
def len9 (k d : Nat) (ns nd : Nat → Nat) : Nat := if 0 < k then ns 0 else if 0 < d then nd 0 else 0
/-- lists that go together. -/
def FitL (m k d : Nat) (nr ns nd : Nat → Nat) : Prop := m = d ∧ (∀ i, i < m → nr i = k) ∧ (∀ i, i < k → ns i = len9 k d ns nd) ∧ ∀ i, i < d → nd i = len9 k d ns nd
/-- a span within a length. -/
def FitR (fr to : Int) (L : Nat) : Prop := 0 ≤ fr ∧ fr ≤ to ∧ to ≤ (L : Int)
/-- the error of Apply and Agrees: FitL, then FitR. -/
def fit9 (m k d : Nat) (nr ns nd : Nat → Nat) (fr to : Int) : Nat := if m = d ∧ (∀ i, i < m → nr i = k) ∧ (∀ i, i < k → ns i = len9 k d ns nd) ∧ ∀ i, i < d → nd i = len9 k d ns nd then if 0 ≤ fr ∧ fr ≤ to ∧ to ≤ (len9 k d ns nd : Int) then 0 else 7 else 6
theorem fit9_six {m k d : Nat} {nr ns nd : Nat → Nat} {fr to : Int} (h : ¬ FitL m k d nr ns nd) : fit9 m k d nr ns nd fr to = 6 := if_neg h
theorem fit9_seven {m k d : Nat} {nr ns nd : Nat → Nat} {fr to : Int} (h : FitL m k d nr ns nd) (h2 : ¬ FitR fr to (len9 k d ns nd)) : fit9 m k d nr ns nd fr to = 7 := (if_pos h).trans (if_neg h2)
theorem fit9_zero {m k d : Nat} {nr ns nd : Nat → Nat} {fr to : Int} (h : FitL m k d nr ns nd) (h2 : FitR fr to (len9 k d ns nd)) : fit9 m k d nr ns nd fr to = 0 := (if_pos h).trans (if_pos h2)

set_option maxHeartbeats 4000000 in
set_option maxRecDepth 100000 in
theorem refFits9_any (rows srcs dsts : Value) (m k d : Nat) (nr ns nd : Nat → Nat) (R S D : Nat → Nat → Nat) (fr to : Int) (w : World) (hr : Lb w rows m nr R) (hs : Lb w srcs k ns S) (hd : Lb w dsts d nd D)
    (hm : m ≤ 140737488351232) (hk : k ≤ 140737488351232) (hdb : d ≤ 140737488351232) :
    Calls Try.prog 31 #[rows, srcs, dsts, .int .i64 fr, .int .i64 to] w fun e w' => e = .returned (.int .i64 (fit9 m k d nr ns nd fr to : Nat)) ∧ w' = w := by
  by_cases hmd : m = d
  case neg =>
    have hI : ¬ ((m : Int) = (d : Int)) := fun e => hmd (Int.ofNat.inj e)
    have H6 := (fit9_six (m := m) (k := k) (d := d) (nr := nr) (ns := ns) (nd := nd) (fr := fr) (to := to) (fun h => hmd h.1))
    obtain ⟨V, ⟨hmb, a, cap, rfl, -, -, h4⟩, hV⟩ := hr
    obtain ⟨V2, ⟨hmb2, a2, cap2, rfl, -, -, h42⟩, hV2⟩ := hs
    obtain ⟨V3, ⟨hmb3, a3, cap3, rfl, -, -, h43⟩, hV3⟩ := hd
    clear h4 h42 h43
    go_enter Try.func31, Try.ntmps31
    go_wp2
    go_ret
    exact ⟨by first | rfl | (rw [H6]; rfl), by first | rfl | trivial⟩
  case pos =>
  subst hmd
  obtain ⟨V, ⟨hmb, a, cap, rfl, -, -, h4⟩, hV⟩ := hr
  obtain ⟨V2, ⟨hmb2, a2, cap2, rfl, -, -, h42⟩, hV2⟩ := hs
  obtain ⟨V3, ⟨hmb3, a3, cap3, rfl, -, -, h43⟩, hV3⟩ := hd
  go_enter Try.func31, Try.ntmps31
  go_wp2
  go_loopw [25] (fun i wr => ∃ j : Nat, j ≤ m ∧ i = .int .i64 j ∧ w = wr ∧ ∀ i, i < j → nr i = k) (fun i _ => m - (intOf i).toNat)
  case atStart => exact ⟨0, Nat.zero_le _, rfl, rfl, fun i hi => absurd hi (Nat.not_lt_zero _)⟩
  case round =>
    obtain ⟨j, hj, rfl, rfl, hE⟩ := hrel
    by_cases hlt : j < m
    · obtain ⟨b', o', rfl, hbl, hc'⟩ := h4 (by omega)
      have q2 := hc' j hlt
      obtain ⟨s1, s2, x1, y1, e1, -, -, s4⟩ := hV j hlt
      rw [e1] at q2
      have ib : ((j : Nat) : Int) < (m : Int) := by omega
      have W1 := wrap_succ8 (j := j) (by unfold big; omega)
      by_cases hjL : nr j = k
      · rw [hjL] at q2
        have HV : Hid ((∀ i, i < j → nr i = k) ∧ nr j = k) := ⟨hE, hjL⟩
        clear hE hjL s1 s2 s4 e1 hc' h42 h4 h43 hV hV2 hV3 hmb hmb2 hmb3 hbl
        go_wp2
        go_roundw
        case rel =>
          refine ⟨j + 1, hlt, by first | rfl | (rw [W1]; rfl), by first | rfl | trivial, fun i hi => ?_⟩
          by_cases e : i = j
          · rw [e]; exact HV.out.2
          · exact HV.out.1 i (by omega)
        case measure => first | exact meas_lt8 hlt | (rw [W1]; exact meas_lt8 hlt)
      · have hI : ¬ ((nr j : Int) = (k : Int)) := fun e => hjL (Int.ofNat.inj e)
        have H6 := (fit9_six (m := m) (k := k) (d := m) (nr := nr) (ns := ns) (nd := nd) (fr := fr) (to := to) (fun h => hjL (h.2.1 j hlt)))
        clear hE hjL s1 s2 s4 e1 hc' h42 h4 h43 hV hV2 hV3 hmb hmb2 hmb3 hbl
        go_wp2
        go_ret
        exact ⟨by first | rfl | (rw [H6]; rfl), by first | rfl | trivial⟩
    · have hjm : m = j := by omega
      subst hjm
      clear h4 hV hmb hlt hj
      go_wp2
      go_loopw [13, 37] (fun l i wz => ∃ t : Nat, t ≤ k ∧ i = .int .i64 t ∧ w = wz ∧ (∀ i, i < t → ns i = ns 0) ∧ l = .int .i64 (if t = 0 then -1 else (ns 0 : Int))) (fun _ i _ => k - (intOf i).toNat)
      case atStart => exact ⟨0, Nat.zero_le _, rfl, rfl, fun i hi => absurd hi (Nat.not_lt_zero _), rfl⟩
      case round =>
        obtain ⟨t, ht, rfl, rfl, hE2, rfl⟩ := hrel
        by_cases hlt : t < k
        · obtain ⟨b', o', rfl, hbl, hc'⟩ := h42 (by omega)
          have q2 := hc' t hlt
          obtain ⟨s1, s2, x1, y1, e1, -, -, s4⟩ := hV2 t hlt
          rw [e1] at q2
          have ib : ((t : Nat) : Int) < (k : Int) := by omega
          have W1 := wrap_succ8 (j := t) (by unfold big; omega)
          by_cases ht0 : t = 0
          · rw [if_pos ht0]
            have HT : Hid (t = 0) := ht0
            clear ht0
            clear s1 s2 s4 e1 hc' h42 h43 hV2 hV3 hmb2 hmb3 hbl
            go_wp2
            go_roundw
            case rel =>
              have ht0 := HT.out
              refine ⟨t + 1, hlt, by first | rfl | (rw [W1]; rfl), by first | rfl | trivial, fun i hi => ?_, by rw [if_neg (Nat.succ_ne_zero t), ht0]⟩
              rw [show i = 0 by omega]
            case measure => first | exact meas_lt8 hlt | (rw [W1]; exact meas_lt8 hlt)
          · rw [if_neg ht0]
            have p0 : (0 : Int) ≤ (ns 0 : Int) := by omega
            by_cases hjL : ns t = ns 0
            · rw [hjL] at q2
              have HV : Hid ((∀ i, i < t → ns i = ns 0) ∧ ns t = ns 0) := ⟨hE2, hjL⟩
              clear hE2 hjL s1 s2 s4 e1 hc' h42 h43 hV2 hV3 hmb2 hmb3 hbl
              go_wp2
              go_roundw
              case rel =>
                refine ⟨t + 1, hlt, by first | rfl | (rw [W1]; rfl), by first | rfl | trivial, fun i hi => ?_, by rw [if_neg (Nat.succ_ne_zero t)]⟩
                by_cases e : i = t
                · rw [e]; exact HV.out.2
                · exact HV.out.1 i (by omega)
              case measure => first | exact meas_lt8 hlt | (rw [W1]; exact meas_lt8 hlt)
            · have hI : ¬ ((ns t : Int) = (ns 0 : Int)) := fun e => hjL (Int.ofNat.inj e)
              have H6 := (fit9_six (m := m) (k := k) (d := m) (nr := nr) (ns := ns) (nd := nd) (fr := fr) (to := to) (fun h => hjL (by rw [h.2.2.1 t hlt, h.2.2.1 0 (by omega)])))
              clear hE2 hjL s1 s2 s4 e1 hc' h42 h43 hV2 hV3 hmb2 hmb3 hbl
              go_wp2
              go_ret
              exact ⟨by first | rfl | (rw [H6]; rfl), by first | rfl | trivial⟩
        · have hjm : k = t := by omega
          subst hjm
          clear h42 hV2 hmb2 hlt ht
          generalize hz2 : (if k = 0 then (-1 : Int) else (ns 0 : Int)) = z2
          go_wp2
          go_loopw [13, 54] (fun l i wy => ∃ y : Nat, y ≤ m ∧ i = .int .i64 y ∧ w = wy ∧ (∀ i, i < y → nd i = if k = 0 then nd 0 else ns 0) ∧ l = .int .i64 (if k = 0 then if y = 0 then -1 else (nd 0 : Int) else (ns 0 : Int))) (fun _ i _ => m - (intOf i).toNat)
          case atStart => exact ⟨0, Nat.zero_le _, rfl, rfl, fun i hi => absurd hi (Nat.not_lt_zero _), by rw [← hz2, if_pos rfl]⟩
          case round =>
            obtain ⟨y, hy, rfl, rfl, hE3, hl⟩ := hrel
            by_cases hlt : y < m
            · obtain ⟨b', o', rfl, hbl, hc'⟩ := h43 (by omega)
              have q2 := hc' y hlt
              obtain ⟨s1, s2, x1, y1, e1, -, -, s4⟩ := hV3 y hlt
              rw [e1] at q2
              have ib : ((y : Nat) : Int) < (m : Int) := by omega
              have W1 := wrap_succ8 (j := y) (by unfold big; omega)
              by_cases hc0 : k = 0 ∧ y = 0
              · obtain ⟨t0, y0⟩ := hc0
                rw [if_pos t0, if_pos y0] at hl
                subst hl
                have HT : Hid (k = 0 ∧ y = 0) := ⟨t0, y0⟩
                clear t0 y0
                clear s1 s2 s4 e1 hc' h43 hV3 hmb3 hbl
                go_wp2
                go_roundw
                case rel =>
                  obtain ⟨t0, y0⟩ := HT.out
                  refine ⟨y + 1, hlt, by first | rfl | (rw [W1]; rfl), by first | rfl | trivial, fun i hi => ?_, by rw [if_pos t0, if_neg (Nat.succ_ne_zero y), y0]⟩
                  rw [if_pos t0, show i = 0 by omega]
                case measure => first | exact meas_lt8 hlt | (rw [W1]; exact meas_lt8 hlt)
              · have eL : (if k = 0 then if y = 0 then (-1 : Int) else (nd 0 : Int) else (ns 0 : Int)) = ((if k = 0 then nd 0 else ns 0 : Nat) : Int) := by
                  by_cases t0 : k = 0
                  · rw [if_pos t0, if_pos t0, if_neg (fun y0 => hc0 ⟨t0, y0⟩)]
                  · rw [if_neg t0, if_neg t0]
                rw [eL] at hl
                generalize hlen : (if k = 0 then nd 0 else ns 0) = len at hE3 hl
                subst hl
                have p0 : (0 : Int) ≤ (len : Int) := by omega
                by_cases hjL : nd y = len
                · rw [hjL] at q2
                  have HV : Hid ((∀ i, i < y → nd i = len) ∧ nd y = len ∧ (if k = 0 then nd 0 else ns 0) = len) := ⟨hE3, hjL, hlen⟩
                  clear hE3 hjL s1 s2 s4 e1 hc' h43 hV3 hmb3 hbl eL hlen
                  go_wp2
                  go_roundw
                  case rel =>
                    obtain ⟨v1, v2, v3⟩ := HV.out
                    refine ⟨y + 1, hlt, by first | rfl | (rw [W1]; rfl), by first | rfl | trivial, fun i hi => ?_, ?_⟩
                    · try rw [v3]
                      by_cases e : i = y
                      · rw [e]; exact v2
                      · exact v1 i (by omega)
                    · by_cases t0 : k = 0
                      · rw [if_pos t0] at v3 ⊢
                        rw [if_neg (Nat.succ_ne_zero y), v3]
                      · rw [if_neg t0] at v3 ⊢
                        rw [v3]
                  case measure => first | exact meas_lt8 hlt | (rw [W1]; exact meas_lt8 hlt)
                · have hI : ¬ ((nd y : Int) = (len : Int)) := fun e => hjL (Int.ofNat.inj e)
                  have H6 := (fit9_six (m := m) (k := k) (d := m) (nr := nr) (ns := ns) (nd := nd) (fr := fr) (to := to) (fun h => hjL (by
                    rw [h.2.2.2 y hlt, ← hlen]
                    unfold len9
                    by_cases t0 : k = 0
                    · rw [if_neg (by omega), if_pos (by omega), if_pos t0]
                    · rw [if_pos (by omega), if_neg t0])))
                  clear hE3 hjL s1 s2 s4 e1 hc' h43 hV3 hmb3 hbl eL hlen
                  go_wp2
                  go_ret
                  exact ⟨by first | rfl | (rw [H6]; rfl), by first | rfl | trivial⟩
            · have hjm : m = y := by omega
              subst hjm
              clear h43 hV3 hmb3 hlt hy
              have hFL : FitL m k m nr ns nd := by
                refine ⟨rfl, hE, fun i hi => ?_, fun i hi => ?_⟩
                · rw [hE2 i hi]; unfold len9; rw [if_pos (by omega)]
                · rw [hE3 i hi]; unfold len9
                  by_cases t0 : k = 0
                  · rw [if_pos t0, if_neg (by omega), if_pos (by omega)]
                  · rw [if_neg t0, if_pos (by omega)]
              have eLen : (if (if k = 0 then if m = 0 then (-1 : Int) else (nd 0 : Int) else (ns 0 : Int)) < 0 then (0 : Int) else (if k = 0 then if m = 0 then (-1 : Int) else (nd 0 : Int) else (ns 0 : Int))) = (len9 k m ns nd : Int) := by
                unfold len9
                by_cases t0 : k = 0
                · rw [if_pos t0, if_neg (show ¬ 0 < k by omega)]
                  by_cases y0 : m = 0
                  · rw [if_pos y0, if_pos (by decide), if_neg (by omega)]; rfl
                  · rw [if_neg y0, if_neg (by omega), if_pos (by omega)]
                · rw [if_neg t0, if_neg (by omega), if_pos (by omega)]
              generalize (if k = 0 then if m = 0 then (-1 : Int) else (nd 0 : Int) else (ns 0 : Int)) = z at eLen hl
              subst hl
              clear hE hE2 hE3
              by_cases hR : FitR fr to (len9 k m ns nd)
              · have H6 := (fit9_zero (fr := fr) (to := to) hFL hR)
                obtain ⟨r1, r2, r3⟩ := hR
                have r1' : ¬ fr < 0 := by omega
                have r2' : ¬ fr > to := by omega
                by_cases hz : z < 0
                · rw [if_pos hz] at eLen
                  have r3' : ¬ to > 0 := by omega
                  clear eLen r3 hFL
                  go_wp2
                  go_ret
                  exact ⟨by first | rfl | (rw [H6]; rfl), by first | rfl | trivial⟩
                · rw [if_neg hz] at eLen
                  have r3' : ¬ to > z := by omega
                  clear eLen r3 hFL
                  go_wp2
                  go_ret
                  exact ⟨by first | rfl | (rw [H6]; rfl), by first | rfl | trivial⟩
              · have H6 := (fit9_seven (fr := fr) (to := to) hFL hR)
                have hR' : fr < 0 ∨ ¬ fr < 0 ∧ fr > to ∨ ¬ fr < 0 ∧ ¬ fr > to ∧ to > (len9 k m ns nd : Int) := by
                  unfold FitR at hR
                  omega
                by_cases hz : z < 0
                · rw [if_pos hz] at eLen
                  rw [← eLen] at hR'
                  clear eLen hFL hR
                  rcases hR' with a1 | ⟨a1, a2⟩ | ⟨a1, a2, a3⟩ <;>
                  · go_wp2
                    go_ret
                    exact ⟨by first | rfl | (rw [H6]; rfl), by first | rfl | trivial⟩
                · rw [if_neg hz] at eLen
                  rw [← eLen] at hR'
                  clear eLen hFL hR
                  rcases hR' with a1 | ⟨a1, a2⟩ | ⟨a1, a2, a3⟩ <;>
                  · go_wp2
                    go_ret
                    exact ⟨by first | rfl | (rw [H6]; rfl), by first | rfl | trivial⟩
end Go.Proofs.Ytdeophhcbkahgaa
namespace Go.Proofs.Ytdeophhcbkahgaa
open Go.RowKit Gf2
set_option linter.unusedVariables false

theorem Cs.set {lo hi m : Nat} {w : World} {v : Value} {n C B : Nat → Nat} {S : Nat → Nat → Nat} (h : Cs lo hi w v m n C B S) {r j x : Nat} (hr : r < m) (hx : x < 256) :
    Cs lo hi (w.setCell ⟨B r, j, none⟩ (.int .u8 (x : Nat))) v m n C B (fun i y => if i = r ∧ y = j then x else S i y) := by
  have hk : Ke (fun z => ∃ r, r < m ∧ z = B r) w (w.setCell ⟨B r, j, none⟩ (.int .u8 (x : Nat))) := ((Only.refl (B r) w).setCell j _).kp.ke.mono (fun z _ e => ⟨r, hr, e⟩)
  refine h.turn hk (fun i hi => ?_)
  by_cases e : i = r
  · subst e
    refine ((h.row i hi).2.2.2.set j x hx).congr (fun y _ => ?_)
    by_cases e2 : y = j
    · rw [if_pos e2, if_pos ⟨rfl, e2⟩]
    · rw [if_neg e2, if_neg (fun h => e2 h.2)]
  · refine (((Only.refl (B r) w).setCell j (.int .u8 (x : Nat))).kp.rw_ (h.row i hi).2.2.2 (fun eb => e (h.inj i r hi hr eb))).congr (fun y _ => ?_)
    rw [if_neg (fun h => e h.1)]
theorem Ke.drew {E : Nat → Prop} {a b : World} (h : Ke E a b) : Ke E a b.drew := ⟨h.1.drew, h.2⟩
theorem Cs.drew {lo hi m : Nat} {w : World} {v : Value} {n C B : Nat → Nat} {S : Nat → Nat → Nat} (h : Cs lo hi w v m n C B S) : Cs lo hi w.drew v m n C B S := h.keep (Ke.refl (fun _ => False) w).drew (fun _ _ _ e => e)
/-- the sums that stand within the span, in rows below r, and in row r below t. -/
def aps (R : Nat → Nat → Nat) (S : Nat → Nat → Nat) (k f to r t : Nat) (T : Nat → Nat → Nat) (i j : Nat) : Nat := if (i < r ∨ i = r ∧ j < t) ∧ f ≤ j ∧ j < to then ks (R i) S k j else T i j
theorem aps_step (R S : Nat → Nat → Nat) (k f to r t : Nat) (T : Nat → Nat → Nat) (h1 : f ≤ t) (h2 : t < to) (i j : Nat) : (if i = r ∧ j = t then ks (R r) S k t else aps R S k f to r t T i j) = aps R S k f to r (t + 1) T i j := by
  unfold aps
  by_cases e : i = r ∧ j = t
  · obtain ⟨rfl, rfl⟩ := e
    rw [if_pos ⟨rfl, rfl⟩, if_pos ⟨.inr ⟨rfl, by omega⟩, h1, h2⟩]
  · rw [if_neg e]
    by_cases c : (i < r ∨ i = r ∧ j < t) ∧ f ≤ j ∧ j < to
    · rw [if_pos c, if_pos (by omega)]
    · rw [if_neg c, if_neg (by omega)]
theorem aps_next (R S : Nat → Nat → Nat) (k f to r t : Nat) (T : Nat → Nat → Nat) (h : to ≤ t) (i j : Nat) : aps R S k f to r t T i j = aps R S k f to (r + 1) f T i j := by
  unfold aps
  by_cases c : (i < r ∨ i = r ∧ j < t) ∧ f ≤ j ∧ j < to
  · rw [if_pos c, if_pos (by omega)]
  · rw [if_neg c, if_neg (by omega)]
/-- what Apply writes. -/
def ap9 (m k d : Nat) (nr ns nd : Nat → Nat) (fr to : Int) (R S D : Nat → Nat → Nat) (i j : Nat) : Nat := if fit9 m k d nr ns nd fr to = 0 ∧ fr ≤ (j : Int) ∧ (j : Int) < to then ks (R i) S k j else D i j

set_option maxHeartbeats 4000000 in
set_option maxRecDepth 100000 in
theorem refApply9_any (rows srcs dsts : Value) (m k d : Nat) (nr ns nd : Nat → Nat) (R S D : Nat → Nat → Nat) (fr to : Int) (w : World) (hr : Lb w rows m nr R) (hs : Lb w srcs k ns S) (hd : Lb w dsts d nd D)
    (hm : 24 * m ≤ 140737488351232) (hk : 24 * k ≤ 140737488351232) (hdb : 24 * d ≤ 140737488351232) (hnd : ∀ i, i < d → nd i ≤ 140737488351232) (hns : ∀ i, i < k → ns i ≤ 140737488351232) :
    Calls Try.prog 17 #[rows, srcs, dsts, .int .i64 fr, .int .i64 to] w fun e w' => ∃ v B C T, e = .returned (.tuple #[v, .int .i64 (fit9 m k d nr ns nd fr to : Nat)]) ∧ Cs w.heap.size w'.heap.size w' v d nd C B T ∧ Below w.heap.size w w' ∧
      ∀ i, i < d → ∀ j, j < nd i → T i j = ap9 m k d nr ns nd fr to R S D i j := by
  obtain ⟨xr, cr, rfl⟩ : ∃ x c, rows = .slice x m c := by obtain ⟨V, ⟨_, a, c, e, _⟩, _⟩ := hr; exact ⟨a, c, e⟩
  obtain ⟨xs, cs, rfl⟩ : ∃ x c, srcs = .slice x k c := by obtain ⟨V, ⟨_, a, c, e, _⟩, _⟩ := hs; exact ⟨a, c, e⟩
  obtain ⟨xd, cd, rfl⟩ : ∃ x c, dsts = .slice x d c := by obtain ⟨V, ⟨_, a, c, e, _⟩, _⟩ := hd; exact ⟨a, c, e⟩
  have c0 := refCopies9_any _ d nd D w hd hdb hnd
  have cF := fun (W : World) (hb : Below w.heap.size w W) => refFits9_any _ _ _ m k d nr ns nd R S D fr to W (hr.below hb) (hs.below hb) (hd.below hb) (by omega) (by omega) (by omega)
  have HI : Hid (Lb w (.slice xr m cr) m nr R ∧ Lb w (.slice xs k cs) k ns S ∧ (∀ i, i < d → nd i ≤ 140737488351232) ∧ (∀ i, i < k → ns i ≤ 140737488351232) ∧ 24 * m ≤ 140737488351232 ∧ 24 * k ≤ 140737488351232 ∧ 24 * d ≤ 140737488351232) := ⟨hr, hs, hnd, hns, hm, hk, hdb⟩
  clear hr hs hd hm hk hdb hnd hns
  by_cases hf : fit9 m k d nr ns nd fr to = 0
  case neg =>
    have hf' : ¬ ((fit9 m k d nr ns nd fr to : Int) = 0) := fun e => hf (Int.ofNat.inj e)
    have HZ : Hid (¬ fit9 m k d nr ns nd fr to = 0) := hf
    generalize hz : fit9 m k d nr ns nd fr to = z at cF hf hf'
    go_enter Try.func17, Try.ntmps17
    go_wp2_with (first
      | (go_at_call 30; (with_reducible refine c0.mono ?_); rintro e w1 ⟨v, B, C, T, rfl, h1, h2, h3⟩; have cF1 := cF w1 h3; clear c0 cF; have HC : Hid (Cs w.heap.size w1.heap.size w1 v d nd C B T ∧ (∀ i, i < d → ∀ j, j < nd i → T i j = D i j) ∧ Below w.heap.size w w1) := ⟨h1, h2, h3⟩; clear h1 h2 h3)
      | (go_at_call 31; (with_reducible refine cF1.mono ?_); rintro e w2 ⟨rfl, rfl⟩))
    go_ret2
    obtain ⟨h1, h2, h3⟩ := HC.out
    refine ⟨v, B, C, T, rfl, h1, h3, fun i hi j hj => ?_⟩
    unfold ap9
    rw [if_neg (fun h => HZ.out h.1)]
    exact h2 i hi j hj
  case pos =>
    have HZ : Hid (fit9 m k d nr ns nd fr to = 0) := hf
    rw [hf] at cF
    have hFit : FitL m k d nr ns nd ∧ FitR fr to (len9 k d ns nd) := by
      unfold fit9 at hf
      split at hf
      · next h1 =>
        split at hf
        · next h2 => exact ⟨h1, h2⟩
        · cases hf
      · cases hf
    clear hf
    obtain ⟨⟨rfl, hnr, hns, hnd⟩, r1, r2, r3⟩ := hFit
    generalize hL : len9 k m ns nd = L at hns hnd r3
    obtain ⟨f, rfl⟩ : ∃ f : Nat, fr = (f : Int) := ⟨fr.toNat, by omega⟩
    obtain ⟨t2, rfl⟩ : ∃ t : Nat, to = (t : Int) := ⟨to.toNat, by omega⟩
    have r2 : f ≤ t2 := by omega
    have r3 : t2 ≤ L := by omega
    have HL : Hid ((∀ i, i < m → nr i = k) ∧ (∀ i, i < k → ns i = L) ∧ (∀ i, i < m → nd i = L) ∧ f ≤ t2 ∧ t2 ≤ L) := ⟨hnr, hns, hnd, r2, r3⟩
    clear hnr hns hnd r1 r2 r3 hL
    go_enter Try.func17, Try.ntmps17
    go_wp2_with (first
      | (go_at_call 30; (with_reducible refine c0.mono ?_); rintro e w1 ⟨v, B, C, T, rfl, h1, h2, h3⟩; have cF1 := cF w1 h3; clear c0 cF; have HC : Hid (Cs w.heap.size w1.heap.size w1 v m nd C B T ∧ (∀ i, i < m → ∀ j, j < nd i → T i j = D i j) ∧ Below w.heap.size w w1) := ⟨h1, h2, h3⟩; obtain ⟨gv, cv, rfl, -⟩ := h1.form; clear h1 h2 h3)
      | (go_at_call 31; (with_reducible refine cF1.mono ?_); rintro e w2 ⟨rfl, rfl⟩))
    clear cF1
    go_loopw [30] (fun i wr => ∃ r : Nat, r ≤ m ∧ i = .int .i64 r ∧ Below w.heap.size w wr ∧ Cs w.heap.size w2.heap.size wr (.slice gv m cv) m nd C B (aps R S k f t2 r f T)) (fun i _ => m - (intOf i).toNat)
    case atStart =>
      obtain ⟨h1, h2, h3⟩ := HC.out
      refine ⟨0, Nat.zero_le _, rfl, h3, h1.congr (fun i hi j hj => ?_)⟩
      unfold aps
      rw [if_neg (by omega)]
    case round =>
      obtain ⟨r, hrm, rfl, hb, hc⟩ := hrel
      by_cases hlt : r < m
      · have ib : ((r : Nat) : Int) < (m : Int) := by omega
        go_wp2
        go_loopw [15] (fun i wz => ∃ t : Nat, f ≤ t ∧ t ≤ t2 ∧ i = .int .i64 t ∧ Below w.heap.size w wz ∧ Cs w.heap.size w2.heap.size wz (.slice gv m cv) m nd C B (aps R S k f t2 r t T)) (fun i _ => t2 - (intOf i).toNat)
        case atStart => exact ⟨f, Nat.le_refl _, HL.out.2.2.2.1, rfl, hb, hc⟩
        case round =>
          clear hb hc
          obtain ⟨t, hft, ht2, rfl, hb, hc⟩ := hrel
          by_cases hlt2 : t < t2
          · obtain ⟨hr, hs, hnb, -, b1, b2, b3⟩ := HI.out
            obtain ⟨hnr, hns, hnd, l1, l2⟩ := HL.out
            have hLb : L ≤ 140737488351232 := by have := hnb r hlt; rw [hnd r hlt] at this; exact this
            have hrow := hc.row r hlt
            obtain ⟨a0, c0', e0, -, -, hf⟩ := hc.form
            cases e0
            obtain ⟨g, rfl, g1, g2, g3, g4⟩ := hf (by omega)
            have q1 := g4 r hlt
            rw [hnd r hlt] at q1
            obtain ⟨V, ⟨-, a1, c1', e1, -, -, h4⟩, hV⟩ := hr
            cases e1
            obtain ⟨b, o, rfl, hbl, hcc⟩ := h4 (by omega)
            have q2 : wr.cell? ⟨b, o + r, none⟩ = some (V r) := (hb.cell (p := ⟨b, o + r, none⟩) hbl.1).trans (hcc r hlt)
            have hrb := (hV r hlt).rb.below hb
            obtain ⟨x1, y1, e1⟩ : ∃ x y, V r = .slice x (nr r) y := by obtain ⟨_, _, x, y, e, _⟩ := hrb; exact ⟨x, y, e⟩
            rw [e1, hnr r hlt] at q2
            rw [e1, hnr r hlt] at hrb
            have c1 : Calls Try.prog 32 #[.slice x1 k y1, .slice xs k cs, .int .i64 (t : Int)] wr.drew fun e w' => e = .returned (.int .u8 (ks (R r) S k t : Nat)) ∧ ∃ q, w' = wr.drew.drewN q :=
              refSum9_any _ _ k k ns (R r) S t wr.drew hrb (hs.below hb.drew) (Nat.le_refl _) (fun i hi => by rw [hns i hi]; omega) (by omega)
            have z1 : wr.cell? ⟨B r, t, none⟩ = some (.int .u8 (aps R S k f t2 r t T r t : Nat)) := hrow.2.2.2.2.2.cell (i := t) (by have := hrow.2.2.1; rw [hnd r hlt] at this; omega)
            have z2 : wr.frozen? ⟨B r, t, none⟩ = false := hrow.2.2.2.2.2.frozen t
            have fin : ∀ q, Below w.heap.size w ((wr.drewN q).setCell ⟨B r, t, none⟩ (.int .u8 (ks (R r) S k t : Nat))) ∧ Cs w.heap.size w2.heap.size ((wr.drewN q).setCell ⟨B r, t, none⟩ (.int .u8 (ks (R r) S k t : Nat))) (.slice (some ⟨g, 0, none⟩) m cv) m nd C B (aps R S k f t2 r (t + 1) T) := fun q =>
              ⟨(below_drewN hb q).setCell (by simpa using hrow.1) _, ((hc.drewN q).set (j := t) hlt (ks_lt _ _ _ _)).congr (fun i _ j _ => aps_step R S k f t2 r t T hft hlt2 i j)⟩
            have ib2 : ((t : Nat) : Int) < (t2 : Int) := by omega
            have ib3 : ((t : Nat) : Int) < (L : Int) := by omega
            have W1 := wrap_succ8 (j := t) (by unfold big; omega)
            have HF : Hid _ := fin
            clear fin hc hb hrow hf g1 g2 g3 g4 h4 hV hbl hcc hrb e1 hs hnr hns hnd l1 l2 b1 b2 b3
            generalize aps R S k f t2 r t T r t = A0 at z1
            generalize hM : ks (R r) S k t = M at c1
            go_wp2
            refine region_planT (fun w' => w'.cell? ⟨g, r, none⟩ = some (.slice (some ⟨B r, 0, none⟩) L (C r)) ∧ w'.cell? ⟨b, o + r, none⟩ = some (.slice x1 k y1)) 13 [11, 1] 54 ⟨q1, q2⟩ (by kernel_rfl) (by kernel_rfl) (fun _ a d v _ h => by cases d <;> exact h) ?_
            refine planT_step ?A1x0 rfl (fun w' hS => ?s1x0) rfl (fun K hK => ?n1x0)
            case s1x0 =>
              obtain ⟨y1, y2⟩ := hS
              simp only [List.take_succ_cons, List.take_zero]
              repeat still_step
              exact rfl
            case n1x0 =>
            go_simp
            go_wp2_with (go_at_call 32; ((with_reducible refine c1.mono ?_); rintro e w9 ⟨rfl, q, rfl⟩))
            refine hK _ _ ⟨q1, q2⟩ ?_
            clear hK K c1
            refine planT_last ?A2x0 rfl (fun w' hS => ?s2x0) rfl ?n2x0
            case s2x0 =>
              simp only [List.take_succ_cons, List.take_zero]
              repeat still_step
              exact rfl
            case n2x0 =>
            simp only [List.drop_succ_cons, List.drop_zero]
            go_wp2
            go_roundw
            case rel =>
              obtain ⟨F1, F2⟩ := HF.out (1 + q)
              rw [hM] at F1 F2
              exact ⟨t + 1, by omega, hlt2, by first | rfl | (rw [W1]; rfl), F1, F2⟩
            case measure => first | exact meas_lt8 hlt2 | (rw [W1]; exact meas_lt8 hlt2)
          · have W1 := wrap_succ8 (j := r) (by have := HI.out.2.2.2.2.1; unfold big; omega)
            have HV : Hid (Below w.heap.size w wr ∧ Cs w.heap.size w2.heap.size wr (.slice gv m cv) m nd C B (aps R S k f t2 (r + 1) f T)) := ⟨hb, hc.congr (fun i _ j _ => aps_next R S k f t2 r t T (by omega) i j)⟩
            clear hb hc
            go_wp2
            go_roundw
            case rel => exact ⟨r + 1, hlt, by first | rfl | (rw [W1]; rfl), HV.out.1, HV.out.2⟩
            case measure => first | exact meas_lt8 hlt | (rw [W1]; exact meas_lt8 hlt)
      · have hrm' : r = m := by omega
        subst hrm'
        have HV : Hid (Below w.heap.size w wr ∧ Cs w.heap.size w2.heap.size wr (.slice gv r cv) r nd C B (aps R S k f t2 r f T)) := ⟨hb, hc⟩
        clear hb hc
        go_wp2
        go_ret2
        obtain ⟨hb, hc⟩ := HV.out
        obtain ⟨h1, h2, h3⟩ := HC.out
        refine ⟨_, B, C, _, by first | rfl | (rw [HZ.out]; rfl), hc.wide (Nat.le_refl _) hc.hw (Nat.le_refl _), hb, fun i hi j hj => ?_⟩
        unfold aps ap9
        by_cases e : f ≤ j ∧ j < t2
        · rw [if_pos ⟨.inl hi, e⟩, if_pos ⟨HZ.out, by omega, by omega⟩]
        · rw [if_neg (fun h => e h.2), if_neg (fun h => e ⟨by omega, by omega⟩)]
          exact h2 i hi j hj
end Go.Proofs.Ytdeophhcbkahgaa
namespace Go.Proofs.Ytdeophhcbkahgaa
open Go.RowKit Gf2
set_option linter.unusedVariables false

theorem fit9_split {m k d : Nat} {nr ns nd : Nat → Nat} {fr to : Int} (hf : fit9 m k d nr ns nd fr to = 0) : FitL m k d nr ns nd ∧ FitR fr to (len9 k d ns nd) := by
  unfold fit9 at hf
  split at hf
  · next h1 =>
    split at hf
    · next h2 => exact ⟨h1, h2⟩
    · cases hf
  · cases hf
theorem Lb.form {E : Nat → Prop} {w : World} {v : Value} {m : Nat} {n : Nat → Nat} {S : Nat → Nat → Nat} (h : Ll E w v m n S) : ∃ x c, v = .slice x m c := by
  obtain ⟨V, ⟨_, a, c, e, _⟩, _⟩ := h
  exact ⟨a, c, e⟩
theorem Rb.form9 {w : World} {v : Value} {n : Nat} {S : Nat → Nat} (h : Rb w v n S) : ∃ x c, v = .slice x n c := by
  obtain ⟨_, _, a, c, e, _⟩ := h
  exact ⟨a, c, e⟩

/-- the error of Spread. -/
def sf9 (c d L : Nat) (nd : Nat → Nat) (fr to : Int) : Nat := if c = d ∧ ∀ i, i < d → nd i = L then if 0 ≤ fr ∧ fr ≤ to ∧ to ≤ (L : Int) then 0 else 7 else 6
theorem sf9_six {c d L : Nat} {nd : Nat → Nat} {fr to : Int} (h : ¬ (c = d ∧ ∀ i, i < d → nd i = L)) : sf9 c d L nd fr to = 6 := by unfold sf9; rw [if_neg h]
theorem sf9_seven {c d L : Nat} {nd : Nat → Nat} {fr to : Int} (h : c = d ∧ ∀ i, i < d → nd i = L) (h2 : ¬ FitR fr to L) : sf9 c d L nd fr to = 7 := (if_pos h).trans (if_neg h2)
theorem sf9_zero {c d L : Nat} {nd : Nat → Nat} {fr to : Int} (h : c = d ∧ ∀ i, i < d → nd i = L) (h2 : FitR fr to L) : sf9 c d L nd fr to = 0 := (if_pos h).trans (if_pos h2)
theorem sf9_split {c d L : Nat} {nd : Nat → Nat} {fr to : Int} (hf : sf9 c d L nd fr to = 0) : (c = d ∧ ∀ i, i < d → nd i = L) ∧ FitR fr to L := by
  unfold sf9 at hf
  split at hf
  · next h1 =>
    split at hf
    · next h2 => exact ⟨h1, h2⟩
    · cases hf
  · cases hf
/-- what Spread writes. -/
def sp9 (c d L : Nat) (nd : Nat → Nat) (fr to : Int) (K F : Nat → Nat) (D : Nat → Nat → Nat) (i j : Nat) : Nat := if sf9 c d L nd fr to = 0 ∧ fr ≤ (j : Int) ∧ (j : Int) < to then D i j ^^^ fm 285 (K i) (F j) else D i j
/-- the products that stand within the span, in rows below r, and in row r below t. -/
def sps (K F : Nat → Nat) (f to r t : Nat) (T : Nat → Nat → Nat) (i j : Nat) : Nat := if (i < r ∨ i = r ∧ j < t) ∧ f ≤ j ∧ j < to then T i j ^^^ fm 285 (K i) (F j) else T i j
theorem sps_at (K F : Nat → Nat) (f to r t : Nat) (T : Nat → Nat → Nat) : sps K F f to r t T r t = T r t := by
  unfold sps
  rw [if_neg (by omega)]
theorem sps_step (K F : Nat → Nat) (f to r t : Nat) (T : Nat → Nat → Nat) (h1 : f ≤ t) (h2 : t < to) (i j : Nat) : (if i = r ∧ j = t then T r t ^^^ fm 285 (K r) (F t) else sps K F f to r t T i j) = sps K F f to r (t + 1) T i j := by
  unfold sps
  by_cases e : i = r ∧ j = t
  · obtain ⟨rfl, rfl⟩ := e
    rw [if_pos ⟨rfl, rfl⟩, if_pos ⟨.inr ⟨rfl, by omega⟩, h1, h2⟩]
  · rw [if_neg e]
    by_cases c : (i < r ∨ i = r ∧ j < t) ∧ f ≤ j ∧ j < to
    · rw [if_pos c, if_pos (by omega)]
    · rw [if_neg c, if_neg (by omega)]
theorem sps_next (K F : Nat → Nat) (f to r t : Nat) (T : Nat → Nat → Nat) (h : to ≤ t) (i j : Nat) : sps K F f to r t T i j = sps K F f to (r + 1) f T i j := by
  unfold sps
  by_cases c : (i < r ∨ i = r ∧ j < t) ∧ f ≤ j ∧ j < to
  · rw [if_pos c, if_pos (by omega)]
  · rw [if_neg c, if_neg (by omega)]
end Go.Proofs.Ytdeophhcbkahgaa
namespace Go.Proofs.Ytdeophhcbkahgaa
open Go.RowKit Gf2
set_option linter.unusedVariables false

set_option maxHeartbeats 4000000 in
set_option maxRecDepth 100000 in
theorem refSpread9_any (col diff dsts : Value) (c L d : Nat) (nd : Nat → Nat) (K F : Nat → Nat) (D : Nat → Nat → Nat) (fr to : Int) (w : World) (hr : Rb w col c K) (hs : Rb w diff L F) (hd : Lb w dsts d nd D)
    (hcb : c ≤ 140737488351232) (hLb : L ≤ 140737488351232) (hdb : 24 * d ≤ 140737488351232) (hnd : ∀ i, i < d → nd i ≤ 140737488351232) :
    Calls Try.prog 19 #[col, diff, dsts, .int .i64 fr, .int .i64 to] w fun e w' => ∃ v B C T, e = .returned (.tuple #[v, .int .i64 (sf9 c d L nd fr to : Nat)]) ∧ Cs w.heap.size w'.heap.size w' v d nd C B T ∧ Below w.heap.size w w' ∧
      ∀ i, i < d → ∀ j, j < nd i → T i j = sp9 c d L nd fr to K F D i j := by
  obtain ⟨xr, cr, rfl⟩ := hr.form9
  obtain ⟨xs, cs, rfl⟩ := hs.form9
  obtain ⟨xd, cd, rfl⟩ := Lb.form hd
  have c0 := refCopies9_any _ d nd D w hd hdb hnd
  have HI : Hid (Rb w (.slice xr c cr) c K ∧ Rb w (.slice xs L cs) L F ∧ Lb w (.slice xd d cd) d nd D ∧ (∀ i, i < d → nd i ≤ 140737488351232)) := ⟨hr, hs, hd, hnd⟩
  clear hr hs hd hnd
  by_cases hcd : c = d
  case neg =>
    have hI : ¬ ((c : Int) = (d : Int)) := fun e => hcd (Int.ofNat.inj e)
    have H6 := sf9_six (c := c) (d := d) (L := L) (nd := nd) (fr := fr) (to := to) (fun h => hcd h.1)
    have HZ : Hid (sf9 c d L nd fr to = 6) := H6
    clear H6
    go_enter Try.func19, Try.ntmps19
    go_wp2_with (go_at_call 30; (with_reducible refine c0.mono ?_); rintro e w1 ⟨v, B, C, T, rfl, h1, h2, h3⟩; clear c0; have HC : Hid (Cs w.heap.size w1.heap.size w1 v d nd C B T ∧ (∀ i, i < d → ∀ j, j < nd i → T i j = D i j) ∧ Below w.heap.size w w1) := ⟨h1, h2, h3⟩; clear h1 h2 h3)
    go_ret2
    obtain ⟨h1, h2, h3⟩ := HC.out
    refine ⟨v, B, C, T, by first | rfl | (rw [HZ.out]; rfl), h1, h3, fun i hi j hj => ?_⟩
    unfold sp9
    rw [if_neg (fun h => by have := HZ.out; rw [this] at h; cases h.1)]
    exact h2 i hi j hj
  case pos =>
  subst hcd
  go_enter Try.func19, Try.ntmps19
  go_wp2_with (go_at_call 30; (with_reducible refine c0.mono ?_); rintro e w1 ⟨v, B, C, T, rfl, h1, h2, h3⟩; clear c0; have HC : Hid (Cs w.heap.size w1.heap.size w1 v c nd C B T ∧ (∀ i, i < c → ∀ j, j < nd i → T i j = D i j) ∧ Below w.heap.size w w1) := ⟨h1, h2, h3⟩; obtain ⟨gv, cv, rfl, -⟩ := h1.form; clear h1 h2 h3)
  go_loopw [27] (fun i wr => ∃ j : Nat, j ≤ c ∧ i = .int .i64 j ∧ w1 = wr ∧ ∀ i, i < j → nd i = L) (fun i _ => c - (intOf i).toNat)
  case atStart => exact ⟨0, Nat.zero_le _, rfl, rfl, fun i hi => absurd hi (Nat.not_lt_zero _)⟩
  case round =>
    obtain ⟨j, hj, rfl, hw, hE⟩ := hrel
    subst hw
    by_cases hlt : j < c
    · obtain ⟨hr, hs, hd, hnb⟩ := HI.out
      obtain ⟨V, ⟨-, a1, c1', e1, -, -, h4⟩, hV⟩ := hd
      cases e1
      obtain ⟨b, o, rfl, hbl, hcc⟩ := h4 (by omega)
      have q2 : w1.cell? ⟨b, o + j, none⟩ = some (V j) := (HC.out.2.2.cell (p := ⟨b, o + j, none⟩) hbl.1).trans (hcc j hlt)
      obtain ⟨x1, y1, e1⟩ := (hV j hlt).rb.form9
      rw [e1] at q2
      have ib : ((j : Nat) : Int) < (c : Int) := by omega
      have W1 := wrap_succ8 (j := j) (by unfold big; omega)
      by_cases hjL : nd j = L
      · rw [hjL] at q2
        have HV : Hid ((∀ i, i < j → nd i = L) ∧ nd j = L) := ⟨hE, hjL⟩
        clear hE hjL e1 hcc h4 hV hbl hr hs hnb
        go_wp2
        go_roundw
        case rel =>
          refine ⟨j + 1, hlt, by first | rfl | (rw [W1]; rfl), by first | rfl | trivial, fun i hi => ?_⟩
          by_cases e : i = j
          · rw [e]; exact HV.out.2
          · exact HV.out.1 i (by omega)
        case measure => first | exact meas_lt8 hlt | (rw [W1]; exact meas_lt8 hlt)
      · have hI : ¬ ((nd j : Int) = (L : Int)) := fun e => hjL (Int.ofNat.inj e)
        have H6 := sf9_six (c := c) (d := c) (L := L) (nd := nd) (fr := fr) (to := to) (fun h => hjL (h.2 j hlt))
        have HZ : Hid (sf9 c c L nd fr to = 6) := H6
        clear hE hjL e1 hcc h4 hV hbl hr hs hnb H6
        go_wp2
        go_ret2
        obtain ⟨h1, h2, h3⟩ := HC.out
        refine ⟨_, B, C, T, by first | rfl | (rw [HZ.out]; rfl), h1, h3, fun i hi j hj => ?_⟩
        unfold sp9
        rw [if_neg (fun h => by have := HZ.out; rw [this] at h; cases h.1)]
        exact h2 i hi j hj
    · have hjm : c = j := by omega
      subst hjm
      clear hlt hj
      by_cases hR : FitR fr to L
      case neg =>
        have HZ : Hid (sf9 c c L nd fr to = 7) := sf9_seven ⟨rfl, hE⟩ hR
        have hR' : fr < 0 ∨ ¬ fr < 0 ∧ fr > to ∨ ¬ fr < 0 ∧ ¬ fr > to ∧ to > (L : Int) := by
          unfold FitR at hR
          omega
        clear hR hE
        rcases hR' with a1 | ⟨a1, a2⟩ | ⟨a1, a2, a3⟩ <;>
        · go_wp2
          go_ret2
          obtain ⟨h1, h2, h3⟩ := HC.out
          have h4 : ∀ i, i < c → ∀ j, j < nd i → T i j = sp9 c c L nd fr to K F D i j := fun i hi j hj => by
            unfold sp9
            rw [if_neg (fun h => by have := HZ.out; rw [this] at h; cases h.1)]
            exact h2 i hi j hj
          first
            | exact ⟨_, B, C, T, by first | rfl | (rw [HZ.out]; rfl), h1, h3, h4⟩
            | exact ⟨_, by first | rfl | (rw [HZ.out]; rfl), B, C, T, h1, h3, h4⟩
      case pos =>
        have HZ : Hid (sf9 c c L nd fr to = 0) := sf9_zero ⟨rfl, hE⟩ hR
        obtain ⟨r1, r2, r3⟩ := hR
        obtain ⟨f, rfl⟩ : ∃ f : Nat, fr = (f : Int) := ⟨fr.toNat, by omega⟩
        obtain ⟨t2, rfl⟩ : ∃ t : Nat, to = (t : Int) := ⟨to.toNat, by omega⟩
        have HL : Hid ((∀ i, i < c → nd i = L) ∧ f ≤ t2 ∧ t2 ≤ L) := ⟨hE, by omega, by omega⟩
        have r1' : ¬ ((f : Int) < 0) := by omega
        have r2' : ¬ ((f : Int) > (t2 : Int)) := by omega
        have r3' : ¬ ((t2 : Int) > (L : Int)) := by omega
        clear r1 r2 r3 hE
        go_wp2
        clear r1' r2' r3'
        go_loopw [54] (fun i wr => ∃ r : Nat, r ≤ c ∧ i = .int .i64 r ∧ Below w.heap.size w wr ∧ Cs w.heap.size w1.heap.size wr (.slice gv c cv) c nd C B (sps K F f t2 r f T)) (fun i _ => c - (intOf i).toNat)
        case atStart =>
          obtain ⟨h1, h2, h3⟩ := HC.out
          refine ⟨0, Nat.zero_le _, rfl, h3, h1.congr (fun i hi j hj => ?_)⟩
          unfold sps
          rw [if_neg (by omega)]
        case round =>
          obtain ⟨r, hrm, rfl, hb, hc⟩ := hrel
          by_cases hlt : r < c
          · have ib : ((r : Nat) : Int) < (c : Int) := by omega
            go_wp2
            go_loopw [16] (fun i wz => ∃ t : Nat, f ≤ t ∧ t ≤ t2 ∧ i = .int .i64 t ∧ Below w.heap.size w wz ∧ Cs w.heap.size w1.heap.size wz (.slice gv c cv) c nd C B (sps K F f t2 r t T)) (fun i _ => t2 - (intOf i).toNat)
            case atStart => exact ⟨f, Nat.le_refl _, HL.out.2.1, rfl, hb, hc⟩
            case round =>
              clear hb hc
              obtain ⟨t, hft, ht2, rfl, hb, hc⟩ := hrel
              by_cases hlt2 : t < t2
              · obtain ⟨hr, hs, -, -⟩ := HI.out
                obtain ⟨hnd, l1, l2⟩ := HL.out
                have hrow := hc.row r hlt
                obtain ⟨a0, c0', e0, -, -, hf⟩ := hc.form
                cases e0
                obtain ⟨g, rfl, g1, g2, g3, g4⟩ := hf (by omega)
                have q1 := g4 r hlt
                rw [hnd r hlt] at q1
                obtain ⟨-, p2, a1, c1', e1, -, -, h4⟩ := hr
                cases e1
                obtain ⟨b, o, rfl, hbl, hcc⟩ := h4 (by omega)
                obtain ⟨-, p3, a2, c2', e2, -, -, h42⟩ := hs
                cases e2
                obtain ⟨b', o', rfl, hbl2, hcc2⟩ := h42 (by omega)
                have q2 : wr.cell? ⟨b, o + r, none⟩ = some (.int .u8 (K r : Nat)) := (hb.cell (p := ⟨b, o + r, none⟩) hbl).trans (hcc r hlt)
                have q3 : wr.cell? ⟨b', o' + t, none⟩ = some (.int .u8 (F t : Nat)) := (hb.cell (p := ⟨b', o' + t, none⟩) hbl2).trans (hcc2 t (by omega))
                have hrt : t < C r := by have := hrow.2.2.1; rw [hnd r hlt] at this; omega
                have z1 : wr.cell? ⟨B r, t, none⟩ = some (.int .u8 (T r t : Nat)) := by have := hrow.2.2.2.2.2.cell (i := t) hrt; rw [sps_at] at this; exact this
                have hTl : T r t < 256 := by have := hrow.2.2.2.2.1 t hrt; rw [sps_at] at this; exact this
                have z2 : wr.frozen? ⟨B r, t, none⟩ = false := hrow.2.2.2.2.2.frozen t
                have c1 := refMul_nat (K r) (F t) wr.drew (p2 r hlt) (p3 t (by omega))
                have X := u8_xor_nat (T r t) (fm 285 (K r) (F t)) hTl (fm8_lt _ _)
                have fin : ∀ q, Below w.heap.size w ((wr.drewN q).setCell ⟨B r, t, none⟩ (.int .u8 (T r t ^^^ fm 285 (K r) (F t) : Nat))) ∧ Cs w.heap.size w1.heap.size ((wr.drewN q).setCell ⟨B r, t, none⟩ (.int .u8 (T r t ^^^ fm 285 (K r) (F t) : Nat))) (.slice (some ⟨g, 0, none⟩) c cv) c nd C B (sps K F f t2 r (t + 1) T) := fun q =>
                  ⟨(below_drewN hb q).setCell (by simpa using hrow.1) _, ((hc.drewN q).set (j := t) hlt (Nat.xor_lt_two_pow (n := 8) hTl (fm8_lt _ _))).congr (fun i _ j _ => sps_step K F f t2 r t T hft hlt2 i j)⟩
                have ib2 : ((t : Nat) : Int) < (t2 : Int) := by omega
                have ib3 : ((t : Nat) : Int) < (L : Int) := by omega
                have W1 := wrap_succ8 (j := t) (by unfold big; omega)
                have HF : Hid _ := fin
                clear fin hc hb hrow hf g1 g2 g3 g4 h4 hbl hcc hnd l1 l2 h42 hbl2 hcc2 p2 p3 hrt hTl
                generalize hM : T r t ^^^ fm 285 (K r) (F t) = M at X
                generalize hM1 : fm 285 (K r) (F t) = M1 at X c1
                generalize hM2 : T r t = M2 at X z1
                go_wp2
                refine region_planT (fun w' => w'.cell? ⟨g, r, none⟩ = some (.slice (some ⟨B r, 0, none⟩) L (C r)) ∧ w'.cell? ⟨b, o + r, none⟩ = some (.int .u8 (K r : Nat)) ∧ w'.cell? ⟨b', o' + t, none⟩ = some (.int .u8 (F t : Nat)) ∧ w'.cell? ⟨B r, t, none⟩ = some (.int .u8 (M2 : Nat))) 18 [15, 2] 83 ⟨q1, q2, q3, z1⟩ (by kernel_rfl) (by kernel_rfl) (fun _ a d v _ h => by cases d <;> exact h) ?_
                refine planT_step ?A1x0 rfl (fun w' hS => ?s1x0) rfl (fun K hK => ?n1x0)
                case s1x0 =>
                  obtain ⟨y1, y2, y3, y4⟩ := hS
                  simp only [List.take_succ_cons, List.take_zero]
                  repeat still_step
                  exact rfl
                case n1x0 =>
                go_simp
                go_wp2_with (go_at_call 33; ((with_reducible refine c1.mono ?_); rintro e w9 ⟨rfl, rfl⟩))
                refine hK _ _ ⟨q1, q2, q3, z1⟩ ?_
                clear hK K c1
                refine planT_last ?A2x0 rfl (fun w' hS => ?s2x0) rfl ?n2x0
                case s2x0 =>
                  simp only [List.take_succ_cons, List.take_zero]
                  repeat still_step
                  exact rfl
                case n2x0 =>
                simp only [List.drop_succ_cons, List.drop_zero]
                go_wp2
                go_roundw
                case rel =>
                  obtain ⟨F1, F2⟩ := HF.out 1
                  rw [hM2, hM1] at hM
                  rw [hM2, hM1, hM] at F1 F2
                  exact ⟨t + 1, by omega, hlt2, by first | rfl | (rw [W1]; rfl), F1, F2⟩
                case measure => first | exact meas_lt8 hlt2 | (rw [W1]; exact meas_lt8 hlt2)
              · have W1 := wrap_succ8 (j := r) (by unfold big; omega)
                have HV : Hid (Below w.heap.size w wr ∧ Cs w.heap.size w1.heap.size wr (.slice gv c cv) c nd C B (sps K F f t2 (r + 1) f T)) := ⟨hb, hc.congr (fun i _ j _ => sps_next K F f t2 r t T (by omega) i j)⟩
                clear hb hc
                go_wp2
                go_roundw
                case rel => exact ⟨r + 1, hlt, by first | rfl | (rw [W1]; rfl), HV.out.1, HV.out.2⟩
                case measure => first | exact meas_lt8 hlt | (rw [W1]; exact meas_lt8 hlt)
          · have hrm' : r = c := by omega
            subst hrm'
            have HV : Hid (Below w.heap.size w wr ∧ Cs w.heap.size w1.heap.size wr (.slice gv r cv) r nd C B (sps K F f t2 r f T)) := ⟨hb, hc⟩
            clear hb hc
            go_wp2
            go_ret2
            obtain ⟨hb, hc⟩ := HV.out
            obtain ⟨h1, h2, h3⟩ := HC.out
            refine ⟨_, B, C, _, by first | rfl | (rw [HZ.out]; rfl), hc.wide (Nat.le_refl _) hc.hw (Nat.le_refl _), hb, fun i hi j hj => ?_⟩
            unfold sps sp9
            by_cases e : f ≤ j ∧ j < t2
            · rw [if_pos ⟨.inl hi, e⟩, if_pos ⟨HZ.out, by omega, by omega⟩, h2 i hi j hj]
            · rw [if_neg (fun h => e h.2), if_neg (fun h => e ⟨by omega, by omega⟩)]
              exact h2 i hi j hj
end Go.Proofs.Ytdeophhcbkahgaa
namespace Go.Proofs.Ytdeophhcbkahgaa
open Go.RowKit Gf2
set_option linter.unusedVariables false

/-- the blocks B r, r below m. -/
def Eb (m : Nat) (B : Nat → Nat) (x : Nat) : Prop := ∃ r, r < m ∧ x = B r
/-- m lists that are written, the r-th at place o r of the block B r, each of L bytes; Nn and G tell the blocks. -/
structure Dl (w : World) (v : Value) (m L : Nat) (B o Nn : Nat → Nat) (G : Nat → Nat → Nat) : Prop where
  lv : ∃ (A : Nat → Option Addr) (C : Nat → Nat), Lv (Eb m B) w v m (fun r => .slice (A r) L (C r)) ∧ ∀ r, r < m → L ≤ C r ∧ C r ≤ big ∧ (0 < L → A r = some ⟨B r, o r, none⟩)
  row : ∀ r, r < m → Rw w (B r) (Nn (B r)) (G (B r)) ∧ o r + L ≤ Nn (B r)
  apart : ∀ r s, r < m → s < m → r ≠ s → B r ≠ B s ∨ o r + L ≤ o s ∨ o s + L ≤ o r
/-- the blocks behind the first m lists, V r written from f to t. -/
def apb (B o : Nat → Nat) (f t : Nat) (V : Nat → Nat → Nat) (G : Nat → Nat → Nat) : Nat → Nat → Nat → Nat
  | 0, b, p => G b p
  | m + 1, b, p => if b = B m ∧ o m + f ≤ p ∧ p < o m + t then V m (p - o m) else apb B o f t V G m b p
/-- the same, V r added. -/
def spb (B o : Nat → Nat) (f t : Nat) (V : Nat → Nat → Nat) (G : Nat → Nat → Nat) : Nat → Nat → Nat → Nat
  | 0, b, p => G b p
  | m + 1, b, p => if b = B m ∧ o m + f ≤ p ∧ p < o m + t then spb B o f t V G m b p ^^^ V m (p - o m) else spb B o f t V G m b p

/-- at a place of no list but the r-th. -/
theorem apb_none {B o : Nat → Nat} {f t : Nat} {V G : Nat → Nat → Nat} {b p : Nat} : ∀ m, (∀ r, r < m → ¬ (b = B r ∧ o r + f ≤ p ∧ p < o r + t)) → apb B o f t V G m b p = G b p
  | 0, _ => rfl
  | m + 1, h => by unfold apb; rw [if_neg (h m (Nat.lt_succ_self _))]; exact apb_none m (fun r hr => h r (by omega))
theorem apb_at {B o : Nat → Nat} {f t : Nat} {V G : Nat → Nat → Nat} {b p r : Nat} : ∀ m, r < m → b = B r ∧ o r + f ≤ p ∧ p < o r + t → (∀ s, s < m → s ≠ r → ¬ (b = B s ∧ o s + f ≤ p ∧ p < o s + t)) → apb B o f t V G m b p = V r (p - o r)
  | 0, h, _, _ => absurd h (Nat.not_lt_zero _)
  | m + 1, h, hr, hs => by
    unfold apb
    by_cases e : r = m
    · subst e; rw [if_pos hr]
    · rw [if_neg (hs m (Nat.lt_succ_self _) (fun x => e x.symm))]
      exact apb_at m (by omega) hr (fun s hs' => hs s (by omega))
theorem spb_none {B o : Nat → Nat} {f t : Nat} {V G : Nat → Nat → Nat} {b p : Nat} : ∀ m, (∀ r, r < m → ¬ (b = B r ∧ o r + f ≤ p ∧ p < o r + t)) → spb B o f t V G m b p = G b p
  | 0, _ => rfl
  | m + 1, h => by unfold spb; rw [if_neg (h m (Nat.lt_succ_self _))]; exact spb_none m (fun r hr => h r (by omega))
theorem spb_at {B o : Nat → Nat} {f t : Nat} {V G : Nat → Nat → Nat} {b p r : Nat} : ∀ m, r < m → b = B r ∧ o r + f ≤ p ∧ p < o r + t → (∀ s, s < m → s ≠ r → ¬ (b = B s ∧ o s + f ≤ p ∧ p < o s + t)) → spb B o f t V G m b p = G b p ^^^ V r (p - o r)
  | 0, h, _, _ => absurd h (Nat.not_lt_zero _)
  | m + 1, h, hr, hs => by
    unfold spb
    by_cases e : r = m
    · subst e; rw [if_pos hr, spb_none r (fun s hs' => hs s (by omega) (by omega))]
    · rw [if_neg (hs m (Nat.lt_succ_self _) (fun x => e x.symm))]
      exact spb_at m (by omega) hr (fun s hs' => hs s (by omega))

/-- which list lies in the block b. -/
def inv9 : Nat → (Nat → Nat) → Nat → Nat
  | 0, _, _ => 0
  | m + 1, B, b => if B m = b then m else inv9 m B b
theorem inv9_at {m : Nat} {B : Nat → Nat} (inj : ∀ i j, i < m → j < m → B i = B j → i = j) {r : Nat} (hr : r < m) : inv9 m B (B r) = r := by
  induction m with
  | zero => exact absurd hr (Nat.not_lt_zero _)
  | succ m ih =>
    unfold inv9
    by_cases e : B m = B r
    · rw [if_pos e]; exact inj m r (Nat.lt_succ_self _) hr e
    · rw [if_neg e]
      have hne : r ≠ m := fun x => e (by rw [x])
      exact ih (fun i j hi hj => inj i j (by omega) (by omega)) (by omega)
/-- lists in blocks of their own are such lists. -/
theorem Cs.dl {lo hi m L : Nat} {w : World} {v : Value} {n C B : Nat → Nat} {S : Nat → Nat → Nat} (h : Cs lo hi w v m n C B S) (hn : ∀ i, i < m → n i = L) : Dl w v m L B (fun _ => 0) (fun b => C (inv9 m B b)) (fun b => S (inv9 m B b)) := by
  refine ⟨⟨fun r => some ⟨B r, 0, none⟩, C, ⟨h.mb, ?_⟩, fun r hr => ?_⟩, fun r hr => ?_, fun r s hr hs hrs => .inl (fun e => hrs (h.inj r s hr hs e))⟩
  · obtain ⟨a, c, e, hc1, hc2, hf⟩ := h.form
    refine ⟨a, c, e, hc1, hc2, fun h0 => ?_⟩
    obtain ⟨g, e1, g1, g2, g3, g4⟩ := hf h0
    have hw := h.hw
    exact ⟨g, 0, e1, ⟨by omega, fun ⟨r, hr, e⟩ => g3 r hr e.symm⟩, fun i hi => by rw [Nat.zero_add, g4 i hi, hn i hi]⟩
  · obtain ⟨r1, r2, r3, r4⟩ := h.row r hr
    exact ⟨by rw [← hn r hr]; exact r3, r4.1, fun _ => rfl⟩
  · obtain ⟨r1, r2, r3, r4⟩ := h.row r hr
    rw [inv9_at h.inj hr]
    exact ⟨r4, by rw [← hn r hr]; omega⟩
theorem cs_apb {m : Nat} {B : Nat → Nat} (inj : ∀ i j, i < m → j < m → B i = B j → i = j) (f t : Nat) (V S : Nat → Nat → Nat) {r p : Nat} (hr : r < m) :
    apb B (fun _ => 0) f t V (fun b => S (inv9 m B b)) m (B r) p = if f ≤ p ∧ p < t then V r p else S r p := by
  by_cases e : f ≤ p ∧ p < t
  · rw [if_pos e, apb_at (r := r) m hr ⟨rfl, by omega, by omega⟩ (fun s hs hne h => hne (inj s r hs hr h.1.symm)), Nat.sub_zero]
  · rw [if_neg e, apb_none m (fun s hs h => e ⟨by omega, by omega⟩), inv9_at inj hr]
theorem cs_spb {m : Nat} {B : Nat → Nat} (inj : ∀ i j, i < m → j < m → B i = B j → i = j) (f t : Nat) (V S : Nat → Nat → Nat) {r p : Nat} (hr : r < m) :
    spb B (fun _ => 0) f t V (fun b => S (inv9 m B b)) m (B r) p = if f ≤ p ∧ p < t then S r p ^^^ V r p else S r p := by
  by_cases e : f ≤ p ∧ p < t
  · rw [if_pos e, spb_at (r := r) m hr ⟨rfl, by omega, by omega⟩ (fun s hs hne h => hne (inj s r hs hr h.1.symm)), inv9_at inj hr, Nat.sub_zero]
  · rw [if_neg e, spb_none m (fun s hs h => e ⟨by omega, by omega⟩), inv9_at inj hr]
end Go.Proofs.Ytdeophhcbkahgaa
