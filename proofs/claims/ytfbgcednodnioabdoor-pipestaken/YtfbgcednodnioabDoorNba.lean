import Derived.Test.YtfbgcednodnioabDoorEbz
import Derived.Test.YtfbgcednodnioabDoorEbq
namespace Go.Proofs.YtfbgcednodnioabDoor
open Go.RowKit Gf2
set_option linter.unusedVariables false

/-- of what was there nothing but block g has turned. -/
def Kp (g : Nat) (w w' : World) : Prop := Below 0 w w' ∧ ∀ b, b < w.heap.size → b ≠ g → w'.heap[b]? = w.heap[b]?
theorem Kp.refl (g : Nat) (w : World) : Kp g w w := ⟨Below.refl _ _, fun _ _ _ => rfl⟩
theorem Kp.size {g : Nat} {w w' : World} (h : Kp g w w') : w.heap.size ≤ w'.heap.size := h.1.size
theorem Kp.trans {g : Nat} {a b c : World} (h : Kp g a b) (k : Kp g b c) : Kp g a c := ⟨h.1.trans k.1, fun x hx hn => (k.2 x (Nat.lt_of_lt_of_le hx h.size) hn).trans (h.2 x hx hn)⟩
theorem Only.kp {g : Nat} {a b : World} (h : Only g a b) : Kp g a b := ⟨h.1, fun x _ hn => h.2.2 x hn⟩
theorem kp_below {a b : World} (h : Below a.heap.size a b) (g : Nat) : Kp g a b := ⟨h.mono (Nat.zero_le _), fun x hx _ => h.block x hx⟩
theorem Kp.below {g B : Nat} {a b : World} (h : Kp g a b) (hg : B ≤ g) (hB : B ≤ a.heap.size) : Below B a b := ⟨h.1.os, h.1.tape, h.1.output, h.1.size, fun k hk => h.2 k (by omega) (by omega)⟩
theorem Kp.drewN {g : Nat} {a b : World} (h : Kp g a b) (m : Nat) : Kp g a (b.drewN m) := ⟨⟨h.1.os, h.1.tape, h.1.output, h.1.size, h.1.block⟩, h.2⟩
theorem Kp.drew {g : Nat} {a b : World} (h : Kp g a b) : Kp g a b.drew := ⟨h.1.drew, h.2⟩
theorem Kp.setCell {g : Nat} {a b : World} (h : Kp g a b) (o : Nat) (v : Value) : Kp g a (b.setCell ⟨g, o, none⟩ v) := h.trans ((Only.refl g b).setCell o v).kp
theorem Kp.rw_ {g k N : Nat} {F : Nat → Nat} {a b : World} (h : Kp g a b) (hk : Rw a k N F) (hne : k ≠ g) : Rw b k N F := hk.of_block (h.2 k hk.lt hne)
theorem Kp.cell {g h q : Nat} {a b : World} (k : Kp g a b) (hl : h < a.heap.size) (hne : h ≠ g) : b.cell? ⟨h, q, none⟩ = a.cell? ⟨h, q, none⟩ := by
  unfold World.cell?
  rw [k.2 h hl hne]
/-- how the list of src reads while block g turns and new memory is made. -/
def Rdk (w : World) (g N n : Nat) (x : Option Addr) (rd : (Nat → Nat) → Nat → Nat) : Prop := ∃ h q, x = some ⟨h, q, none⟩ ∧ ∀ w' F, Kp g w w' → Rw w' g N F → ∀ i, i < n → rd F i < 256 ∧ w'.cell? ⟨h, q + i, none⟩ = some (.int .u8 (rd F i : Nat))
/-- a list in another block than g. -/
def Fk (w : World) (g n : Nat) (x : Option Addr) (S : Nat → Nat) : Prop := (∀ i, i < n → S i < 256) ∧ (0 < n → ∃ h q, x = some ⟨h, q, none⟩ ∧ h ≠ g ∧ h < w.heap.size ∧ ∀ i, i < n → w.cell? ⟨h, q + i, none⟩ = some (.int .u8 (S i : Nat)))
theorem Fk.reads {w : World} {g N n : Nat} {x : Option Addr} {S : Nat → Nat} (h : Fk w g n x S) (h0 : 0 < n) : Rdk w g N n x (fun _ => S) := by
  obtain ⟨b, q, e, hne, hl, hc⟩ := h.2 h0
  exact ⟨b, q, e, fun w' F ho hr i hi => ⟨h.1 i hi, (ho.cell hl hne).trans (hc i hi)⟩⟩
theorem Rdk.row {w : World} {g N n q : Nat} {x : Option Addr} (e : x = some ⟨g, q, none⟩) (hq : q + n ≤ N) : Rdk w g N n x (fun F i => F (q + i)) :=
  ⟨g, q, e, fun w' F ho hr i hi => ⟨hr.2.1 _ (by omega), hr.2.2.cell (i := q + i) (by omega)⟩⟩
theorem Rdk.later {w w1 : World} {g N n : Nat} {x : Option Addr} {rd : (Nat → Nat) → Nat → Nat} (h : Rdk w g N n x rd) (hb : Kp g w w1) : Rdk w1 g N n x rd := by
  obtain ⟨b, q, e, hr⟩ := h
  exact ⟨b, q, e, fun w' F ho hR i hi => hr w' F (hb.trans ho) hR i hi⟩

/-- F, but at t. -/
def upn {α : Type} (G : Nat → α) (t : Nat) (F : α) (j : Nat) : α := if j = t then F else G j
theorem upn_same {α : Type} (G : Nat → α) (t : Nat) (F : α) : upn G t F t = F := if_pos rfl
theorem upn_other {α : Type} (G : Nat → α) {t j : Nat} (F : α) (h : j ≠ t) : upn G t F j = G j := if_neg h
/-- K rows above the world W0, in blocks of their own, the j-th in block B j, of length N j, with the bytes G j; nothing of W0 has turned. -/
def Ow (W0 : World) (K : Nat) (N B : Nat → Nat) (G : Nat → Nat → Nat) (W : World) : Prop :=
  Below W0.heap.size W0 W ∧ (∀ j, j < K → W0.heap.size ≤ B j ∧ Rw W (B j) (N j) (G j)) ∧ ∀ i j, i < K → j < K → i ≠ j → B i ≠ B j
theorem Ow.start (W0 : World) (N B : Nat → Nat) (G : Nat → Nat → Nat) : Ow W0 0 N B G W0 := ⟨Below.refl _ _, fun j hj => absurd hj (Nat.not_lt_zero _), fun i j hi => absurd hi (Nat.not_lt_zero _)⟩

section
variable {W0 W : World} {K : Nat} {N B : Nat → Nat} {G : Nat → Nat → Nat}
theorem Ow.bel (h : Ow W0 K N B G W) : Below W0.heap.size W0 W := h.1
theorem Ow.drewN (h : Ow W0 K N B G W) (m : Nat) : Ow W0 K N B G (W.drewN m) := ⟨below_drewN h.1 m, fun j hj => ⟨(h.2.1 j hj).1, (h.2.1 j hj).2.drewN m⟩, h.2.2⟩
theorem Ow.drew (h : Ow W0 K N B G W) : Ow W0 K N B G W.drew := ⟨h.1.drew, fun j hj => ⟨(h.2.1 j hj).1, (h.2.1 j hj).2.1, (h.2.1 j hj).2.2.1, (h.2.1 j hj).2.2.2.drew⟩, h.2.2⟩
theorem Ow.row (h : Ow W0 K N B G W) {t : Nat} (ht : t < K) : Rw W (B t) (N t) (G t) := (h.2.1 t ht).2
theorem Ow.lo (h : Ow W0 K N B G W) {t : Nat} (ht : t < K) : W0.heap.size ≤ B t := (h.2.1 t ht).1
theorem Ow.still (h : Ow W0 K N B G W) {W' : World} (hb : Below W.heap.size W W') : Ow W0 K N B G W' :=
  ⟨h.1.trans (hb.mono h.1.size), fun j hj => ⟨(h.2.1 j hj).1, rw_below (h.2.1 j hj).2 hb⟩, h.2.2⟩
theorem Ow.more (h : Ow W0 K N B G W) {W' : World} {n b : Nat} {F : Nat → Nat} (hb : Below W.heap.size W W') (hs : W.heap.size ≤ b) (hr : Rw W' b n F) : Ow W0 (K + 1) (upn N K n) (upn B K b) (upn G K F) W' := by
  refine ⟨h.1.trans (hb.mono h.1.size), fun j hj => ?_, fun i j hi hj hij => ?_⟩
  · by_cases e : j = K
    · subst e
      rw [upn_same, upn_same, upn_same]
      exact ⟨Nat.le_trans h.1.size hs, hr⟩
    · rw [upn_other _ _ e, upn_other _ _ e, upn_other _ _ e]
      exact ⟨(h.2.1 j (by omega)).1, rw_below (h.2.1 j (by omega)).2 hb⟩
  · by_cases e : i = K
    · subst e
      rw [upn_same, upn_other _ _ (fun e => hij e.symm)]
      have := (h.2.1 j (by omega)).2.lt
      omega
    · rw [upn_other _ _ e]
      by_cases e2 : j = K
      · subst e2
        rw [upn_same]
        have := (h.2.1 i (by omega)).2.lt
        omega
      · rw [upn_other _ _ e2]
        exact h.2.2 i j (by omega) (by omega) hij
theorem Ow.turn (h : Ow W0 K N B G W) {W' : World} {t : Nat} {F : Nat → Nat} (ht : t < K) (hk : Kp (B t) W W') (hr : Rw W' (B t) (N t) F) : Ow W0 K N B (upn G t F) W' := by
  refine ⟨h.1.trans (hk.below (h.lo ht) h.1.size), fun j hj => ⟨(h.2.1 j hj).1, ?_⟩, h.2.2⟩
  by_cases e : j = t
  · subst e; rw [upn_same]; exact hr
  · rw [upn_other _ _ e]
    exact hk.rw_ (h.2.1 j hj).2 (h.2.2 j t hj ht e)
theorem Ow.congr (h : Ow W0 K N B G W) {G' : Nat → Nat → Nat} (e : ∀ j, j < K → ∀ i, i < N j → G j i = G' j i) : Ow W0 K N B G' W := ⟨h.1, fun j hj => ⟨(h.2.1 j hj).1, (h.2.1 j hj).2.congr (e j hj)⟩, h.2.2⟩
theorem Rw.set {w : World} {g N : Nat} {F : Nat → Nat} (h : Rw w g N F) (k v : Nat) (hv : v < 256) : Rw (w.setCell ⟨g, k, none⟩ (.int .u8 (v : Nat))) g N (fun i => if i = k then v else F i) := by
  refine ⟨h.1, fun i hi => ?_, (h.2.2.set k _).congr (fun i hi => ?_)⟩
  · dsimp only
    split
    · exact hv
    · exact h.2.1 i hi
  · dsimp only
    by_cases e : i = k
    · rw [if_pos e, if_pos e]
    · rw [if_neg e, if_neg e]
/-- one byte of row t. -/
theorem Ow.set (h : Ow W0 K N B G W) (t k v : Nat) {b : Nat} (hb : b = B t) (ht : t < K) (hv : v < 256) : Ow W0 K N B (upn G t (fun i => if i = k then v else G t i)) (W.setCell ⟨b, k, none⟩ (.int .u8 (v : Nat))) := by
  subst hb
  exact h.turn ht ((Only.refl _ _).setCell _ _).kp ((h.row ht).set k v hv)
theorem Ow.one {N B : Nat → Nat} {G : Nat → Nat → Nat} (h : Ow W0 1 N B G W) (T : Nat → Nat) (e : G 0 = T) : Ow W0 1 N B (fun _ => T) W :=
  h.congr (fun j hj i _ => by obtain rfl : j = 0 := by omega
                              rw [e])
theorem Ow.one6 {N B : Nat → Nat} {G : Nat → Nat → Nat} (h : Ow W0 1 N B G W) (T : Nat → Nat) (e : ∀ i, i < N 0 → G 0 i = T i) : Ow W0 1 N B (fun _ => T) W :=
  h.congr (fun j hj i hi => by obtain rfl : j = 0 := by omega
                               exact e i hi)
theorem Ow.over {t : Nat} {F F' : Nat → Nat} (h : Ow W0 K N B (upn (upn G t F) t F') W) : Ow W0 K N B (upn G t F') W :=
  h.congr (fun j hj i hi => by by_cases e : j = t
                               · subst e; rw [upn_same, upn_same]
                               · rw [upn_other _ _ e, upn_other _ _ e, upn_other _ _ e])
/-- a list of W0 in W. -/
theorem Ow.src (h : Ow W0 K N B G W) {v : Value} {n : Nat} {S : Nat → Nat} (hv : Rb W0 v n S) : Rb W v n S := hv.below h.1
/-- row t as a list. -/
theorem Ow.own (h : Ow W0 K N B G W) (t n cap : Nat) {b : Nat} (hb : b = B t) (ht : t < K) (hn : n = N t) (hc : n ≤ cap) (hc2 : cap ≤ big) : Rb W (.slice (some ⟨b, 0, none⟩) n cap) n (G t) := by
  subst hb hn
  exact ((h.row ht).rb (o := 0) (n := N t) (cap := cap) (by omega) hc hc2).congr (fun i _ => by rw [Nat.zero_add])
/-- a list of W0 lies apart from row t. -/
theorem Ow.far (h : Ow W0 K N B G W) (t : Nat) {x : Option Addr} {n cx : Nat} {S : Nat → Nat} (hv : Rb W0 (.slice x n cx) n S) (ht : t < K) : Fk W (B t) n x S := by
  obtain ⟨b1, b2, a, c', b3, b5, b6, b4⟩ := hv
  cases b3
  refine ⟨b2, fun h0 => ?_⟩
  obtain ⟨b, o, e, hl, hc⟩ := b4 h0
  have := h.lo ht
  exact ⟨b, o, e, by omega, Nat.lt_of_lt_of_le hl h.1.size, fun i hi => (h.1.cell (p := ⟨b, o + i, none⟩) hl).trans (hc i hi)⟩
/-- row s lies apart from row t. -/
theorem Ow.farRow (h : Ow W0 K N B G W) (s t n : Nat) {b : Nat} (hb : b = B s) (hs : s < K) (ht : t < K) (hst : s ≠ t) (hn : n ≤ N s) : Fk W (B t) n (some ⟨b, 0, none⟩) (G s) := by
  subst hb
  have hr := h.row hs
  refine ⟨fun i hi => hr.2.1 i (by omega), fun h0 => ⟨B s, 0, rfl, h.2.2 s t hs ht hst, hr.lt, fun i hi => ?_⟩⟩
  rw [Nat.zero_add]
  exact hr.2.2.cell (by omega)
end
end Go.Proofs.YtfbgcednodnioabDoor
