import Derived.Test.YtefhlnplegagfabEbm
namespace Go.Proofs.Ytefhlnplegagfab
open Go.RowKit Gf2
set_option linter.unusedVariables false

/-- F, but at t. -/
def up {α : Type} (G : Nat → α) (t : Nat) (F : α) (j : Nat) : α := if j = t then F else G j
theorem up_same {α : Type} (G : Nat → α) (t : Nat) (F : α) : up G t F t = F := if_pos rfl
theorem up_other {α : Type} (G : Nat → α) {t j : Nat} (F : α) (h : j ≠ t) : up G t F j = G j := if_neg h
/-- K rows above the world W0, the j-th of length N j with the bytes G j; nothing else has turned. -/
def St (W0 : World) (K : Nat) (N : Nat → Nat) (G : Nat → Nat → Nat) (W : World) : Prop :=
  Below W0.heap.size W0 W ∧ W.heap.size = W0.heap.size + K ∧ ∀ j, j < K → Rw W (W0.heap.size + j) (N j) (G j)
theorem St.start (W0 : World) (N : Nat → Nat) (G : Nat → Nat → Nat) : St W0 0 N G W0 := ⟨Below.refl _ _, rfl, fun j hj => absurd hj (Nat.not_lt_zero _)⟩
theorem St.drewN {W0 W : World} {K : Nat} {N : Nat → Nat} {G : Nat → Nat → Nat} (h : St W0 K N G W) (m : Nat) : St W0 K N G (W.drewN m) := ⟨below_drewN h.1 m, h.2.1, fun j hj => (h.2.2 j hj).drewN m⟩
theorem St.drew {W0 W : World} {K : Nat} {N : Nat → Nat} {G : Nat → Nat → Nat} (h : St W0 K N G W) : St W0 K N G W.drew := ⟨h.1.drew, h.2.1, fun j hj => ⟨(h.2.2 j hj).1, (h.2.2 j hj).2.1, (h.2.2 j hj).2.2.drew⟩⟩
theorem St.fits {W0 W : World} {K : Nat} {N : Nat → Nat} {G : Nat → Nat → Nat} (h : St W0 K N G W) (t m : Nat) (e : m ≤ N t) : m ≤ N t := e
theorem St.he {W0 W : World} {K : Nat} {N : Nat → Nat} {G : Nat → Nat → Nat} (h : St W0 K N G W) (s t n : Nat) (e : ∀ i, i < n → G s i = G t i) : ∀ i, i < n → G s i = G t i := e
theorem St.hf {W0 W : World} {K : Nat} {N : Nat → Nat} {G : Nat → Nat → Nat} (h : St W0 K N G W) (s n : Nat) (S : Nat → Nat) (e : ∀ i, i < n → G s i = S i) : ∀ i, i < n → G s i = S i := e
theorem plus0 (g : Nat) : g = g + 0 := rfl
theorem St.row {W0 W : World} {K : Nat} {N : Nat → Nat} {G : Nat → Nat → Nat} (h : St W0 K N G W) {t : Nat} (ht : t < K) : Rw W (W0.heap.size + t) (N t) (G t) := h.2.2 t ht
theorem St.congr {W0 W : World} {K : Nat} {N : Nat → Nat} {G G' : Nat → Nat → Nat} (h : St W0 K N G W) (e : ∀ j, j < K → ∀ i, i < N j → G j i = G' j i) : St W0 K N G' W := ⟨h.1, h.2.1, fun j hj => (h.2.2 j hj).congr (e j hj)⟩
theorem St.ker {W0 W : World} {K : Nat} {N : Nat → Nat} {G : Nat → Nat → Nat} {p : Addr} {lo hi : Nat} (h : St W0 K N G W) (hk : Ker W0 p lo hi) : Ker W p lo hi := ker_below hk h.1
theorem St.rbb {W0 W : World} {K n : Nat} {N : Nat → Nat} {G : Nat → Nat → Nat} {v : Value} {S : Nat → Nat} (h : St W0 K N G W) (hv : Rb W0 v n S) : Rbb W0.heap.size W v n S := hv.rbb.below h.1
/-- a row more. -/
theorem St.more {W0 W W' : World} {K n : Nat} {N : Nat → Nat} {G : Nat → Nat → Nat} {F : Nat → Nat} (h : St W0 K N G W) (hb : Below W.heap.size W W') (hs : W'.heap.size = W.heap.size + 1) (hr : Rw W' W.heap.size n F) : St W0 (K + 1) (up N K n) (up G K F) W' := by
  refine ⟨h.1.trans (hb.mono (by have := h.2.1; omega)), by rw [hs, h.2.1]; omega, fun j hj => ?_⟩
  by_cases e : j = K
  · subst e
    rw [up_same, up_same, ← h.2.1]
    exact hr
  · rw [up_other _ _ e, up_other _ _ e]
    exact rw_below (h.2.2 j (by omega)) hb
/-- row t turned. -/
theorem St.turn {W0 W W' : World} {K t : Nat} {N : Nat → Nat} {G : Nat → Nat → Nat} {F : Nat → Nat} (h : St W0 K N G W) (ho : Only (W0.heap.size + t) W W') (hr : Rw W' (W0.heap.size + t) (N t) F) : St W0 K N (up G t F) W' := by
  refine ⟨h.1.trans (ho.below (by omega)), by rw [ho.2.1, h.2.1], fun j hj => ?_⟩
  by_cases e : j = t
  · subst e; rw [up_same]; exact hr
  · rw [up_other _ _ e]; exact ho.rw_ (h.2.2 j hj) (by omega)

section
variable {W0 W : World} {K : Nat} {N : Nat → Nat} {G : Nat → Nat → Nat} {p : Addr} {lo hi : Nat}

theorem st_zeros (h : St W0 K N G W) (n : Nat) {g : Nat} (hg : g = W0.heap.size + K) (hn : n ≤ 140737488355328) :
    Calls Try.prog 10 #[.int .i64 (n : Int)] W fun e w' => e = .returned (.slice (some ⟨g, 0, none⟩) n n) ∧ St W0 (K + 1) (up N K n) (up G K (fun _ => 0)) w' :=
  (zeros5_any n W hn).mono fun e w' ⟨h1, h2⟩ => ⟨by rw [h1, hg, h.2.1], by
    subst h2
    exact h.more ((Below.refl _ _).alloc (Nat.le_refl _) _) (by simp) (made_rw n hn W)⟩
theorem st_equal (h : St W0 K N G W) (s t : Nat) {g g' : Nat} (n : Nat) (ca cb : Nat) (hg : g = W0.heap.size + s) (hg' : g' = W0.heap.size + t) (hs : s < K) (ht : t < K) (ns : N s = n) (nt : N t = n) (h1 : n ≤ ca) (h2 : ca ≤ big) (h3 : n ≤ cb) (h4 : cb ≤ big) (he : ∀ i, i < n → G s i = G t i) :
    Calls Try.prog 7 #[.slice (some ⟨g, 0, none⟩) n ca, .slice (some ⟨g', 0, none⟩) n cb] W fun e w' => e = .returned (.bool true) ∧ St W0 K N G w' := by
  subst hg hg'
  have r1 := (h.row hs).rb (o := 0) (n := n) (cap := ca) (by omega) h1 h2
  have r2 := (h.row ht).rb (o := 0) (n := n) (cap := cb) (by omega) h3 h4
  refine (equal5_true _ _ n _ W r1 (r2.congr (fun i hi => ?_))).mono fun e w' ⟨a1, m, a2⟩ => ⟨a1, by subst a2; exact h.drewN m⟩
  simp only [Nat.zero_add]
  exact (he i hi).symm
theorem st_equal_far (h : St W0 K N G W) (s : Nat) {g : Nat} (n : Nat) (ca : Nat) {v : Value} {S : Nat → Nat} (hv : Rb W0 v n S) (hg : g = W0.heap.size + s) (hs : s < K) (ns : N s = n) (h1 : n ≤ ca) (h2 : ca ≤ big) (he : ∀ i, i < n → G s i = S i) :
    Calls Try.prog 7 #[.slice (some ⟨g, 0, none⟩) n ca, v] W fun e w' => e = .returned (.bool true) ∧ St W0 K N G w' := by
  subst hg
  have r1 := (h.row hs).rb (o := 0) (n := n) (cap := ca) (by omega) h1 h2
  refine (equal5_true _ _ n _ W (r1.congr (fun i hi => ?_)) (h.rbb hv).rb).mono fun e w' ⟨a1, m, a2⟩ => ⟨a1, by subst a2; exact h.drewN m⟩
  simp only [Nat.zero_add]
  exact he i hi

theorem st_mul_far (h : St W0 K N G W) (hk : Ker W0 p lo hi) (t c n : Nat) {g : Nat} (ca cx : Nat) {x : Option Addr} {S : Nat → Nat} (hv : Rb W0 (.slice x n cx) n S) (hg : g = W0.heap.size + t) (ht : t < K) (nt : N t = n) (hc : c < 256) :
    Calls Try.prog 13 #[.pointer (some p), .int .u8 (c : Int), .slice (some ⟨g, 0, none⟩) n ca, .slice x n cx] W fun e w' => e = .returned (.int .i64 0) ∧ St W0 K N (up G t (fun i => fm 285 c (S i))) w' := by
  subst hg
  have hr := h.row ht
  have hh := hk.hi
  refine (kmul_far p lo hi c n (W0.heap.size + t) 0 n (G t) S _ x ca cx W (h.ker hk) hc hv.1 (.inr (by omega)) (nt ▸ hr) (fun _ => ⟨rfl, by omega⟩) (Rb.far (g := W0.heap.size + t) (cap := cx) ?_)).mono fun e w' ⟨a1, a2, a3⟩ => ⟨a1, h.turn a2 ?_⟩
  · obtain ⟨b1, b2, a, c', b3, b5, b6, b4⟩ := h.rbb hv
    refine ⟨b1, b2, a, c', b3, b5, b6, fun h0 => ?_⟩
    obtain ⟨b, o, e, l1, l2, hcl⟩ := b4 h0
    exact ⟨b, o, e, by omega, l2, hcl⟩
  · rw [nt]
    exact a3.congr (fun i hi => by have := pl_in (F := G t) (o := 0) (S := fun i => fm 285 c (S i)) hi; rwa [Nat.zero_add] at this)
theorem st_add_far (h : St W0 K N G W) (hk : Ker W0 p lo hi) (t c n : Nat) {g : Nat} (ca cx : Nat) {x : Option Addr} {S : Nat → Nat} (hv : Rb W0 (.slice x n cx) n S) (hg : g = W0.heap.size + t) (ht : t < K) (nt : N t = n) (hc : c < 256) :
    Calls Try.prog 14 #[.pointer (some p), .int .u8 (c : Int), .slice (some ⟨g, 0, none⟩) n ca, .slice x n cx] W fun e w' => e = .returned (.int .i64 0) ∧ St W0 K N (up G t (fun i => G t i ^^^ fm 285 c (S i))) w' := by
  subst hg
  have hr := h.row ht
  have hh := hk.hi
  refine (kadd_far p lo hi c n (W0.heap.size + t) 0 n (G t) S _ x ca cx W (h.ker hk) hc hv.1 (.inr (by omega)) (nt ▸ hr) (fun _ => ⟨rfl, by omega⟩) (Rb.far (g := W0.heap.size + t) (cap := cx) ?_)).mono fun e w' ⟨a1, a2, a3⟩ => ⟨a1, h.turn a2 ?_⟩
  · obtain ⟨b1, b2, a, c', b3, b5, b6, b4⟩ := h.rbb hv
    refine ⟨b1, b2, a, c', b3, b5, b6, fun h0 => ?_⟩
    obtain ⟨b, o, e, l1, l2, hcl⟩ := b4 h0
    exact ⟨b, o, e, by omega, l2, hcl⟩
  · rw [nt]
    exact a3.congr (fun i hi => by have := pl_in (F := G t) (o := 0) (S := fun i => G t (0 + i) ^^^ fm 285 c (S i)) hi; simp only [Nat.zero_add] at this ⊢; exact this)
/-- copy of what lies below into row t. -/
theorem st_copy (h : St W0 K N G W) (t n m : Nat) {g : Nat} (ca : Nat) {x : Option Addr} {cx : Nat} {S : Nat → Nat} (hv : Rb W0 (.slice x m cx) m S) (hg : g = W0.heap.size + t) (ht : t < K) (nt : N t = n) (hnm : n ≤ m) :
    ∃ w', (Builtin.copy_ #[22, 22] 3 #[.slice (some ⟨g, 0, none⟩) n ca, .slice x m cx]).run Try.prog W = .ok (goInt n) w' ∧ St W0 K N (up G t S) w' := by
  subst hg
  obtain ⟨b1, b2, a, c', b3, b5, b6, b4⟩ := h.rbb hv
  cases b3
  obtain ⟨w', h1, h2, h3⟩ := copy8_min W (g := W0.heap.size + t) (o := 0) (dl := n) (cap := ca) (h.row ht) (a := x) (m := m) (n := n) (cap' := cx) (S := S) (fun i hi => b2 i (by omega)) (fun h0 => by
    obtain ⟨b, o, e, l1, l2, hcl⟩ := b4 (by omega)
    exact ⟨b, o, e, fun i hi => hcl i (by omega)⟩) (by omega) (Nat.le_refl _) hnm (Nat.min_eq_right hnm)
  refine ⟨w', h1, h.turn h3 ?_⟩
  exact h2.congr (fun i hi => by have := pl_in (F := G t) (o := 0) (n := n) (S := S) (i := i) (by omega); rwa [Nat.zero_add] at this)
theorem rbb_far {g n m cx : Nat} {x : Option Addr} {S : Nat → Nat} (h : St W0 K N G W) (hv : Rb W0 (.slice x m cx) n S) (hg : W0.heap.size ≤ g) : n = m → Far W g n x S := by
  intro e
  subst e
  obtain ⟨b1, b2, a, c', b3, b5, b6, b4⟩ := h.rbb hv
  cases b3
  refine ⟨b2, fun h0 => ?_⟩
  obtain ⟨b, o, e, l1, l2, hcl⟩ := b4 h0
  exact ⟨b, o, e, by omega, hcl⟩
/-- a piece of row t. -/
theorem st_mul_piece (h : St W0 K N G W) (hk : Ker W0 p lo hi) (t c m o : Nat) {a : Option Addr} (ca cx : Nat) {x : Option Addr} {S : Nat → Nat} (hv : Rb W0 (.slice x m cx) m S) (ha : 0 < m → a = some ⟨W0.heap.size + t, o, none⟩) (ht : t < K) (nt : o + m ≤ N t) (hc : c < 256) :
    Calls Try.prog 13 #[.pointer (some p), .int .u8 (c : Int), .slice a m ca, .slice x m cx] W fun e w' => e = .returned (.int .i64 0) ∧ St W0 K N (up G t (pl (G t) o m (fun i => fm 285 c (S i)))) w' := by
  have hr := h.row ht
  have hh := hk.hi
  exact (kmul_far p lo hi c m (W0.heap.size + t) o (N t) (G t) S _ x ca cx W (h.ker hk) hc hv.1 (.inr (by omega)) hr (fun h0 => ⟨ha h0, nt⟩) (rbb_far h hv (by omega) rfl)).mono fun e w' ⟨a1, a2, a3⟩ => ⟨a1, h.turn a2 a3⟩
theorem pl_full {F S : Nat → Nat} {n i : Nat} (hi : i < n) : pl F 0 n S i = S i := by have := pl_in (F := F) (o := 0) (S := S) hi; rwa [Nat.zero_add] at this
theorem st_mul_row (h : St W0 K N G W) (hk : Ker W0 p lo hi) (s t c n : Nat) {g g' : Nat} (ca cx : Nat) (hg : g = W0.heap.size + t) (hg' : g' = W0.heap.size + s) (hs : s < K) (ht : t < K) (hst : s ≠ t) (ns : N s = n) (nt : N t = n) (hc : c < 256) :
    Calls Try.prog 13 #[.pointer (some p), .int .u8 (c : Int), .slice (some ⟨g, 0, none⟩) n ca, .slice (some ⟨g', 0, none⟩) n cx] W fun e w' => e = .returned (.int .i64 0) ∧ St W0 K N (up G t (fun i => fm 285 c (G s i))) w' := by
  subst hg hg'
  have hr := h.row ht
  have hh := hk.hi
  refine (kmul_far p lo hi c n (W0.heap.size + t) 0 n (G t) (G s) _ _ ca cx W (h.ker hk) hc (nt ▸ hr.1) (.inr (by omega)) (nt ▸ hr) (fun _ => ⟨rfl, by omega⟩) (ns ▸ (h.row hs).far0 (by omega))).mono fun e w' ⟨a1, a2, a3⟩ => ⟨a1, h.turn a2 ?_⟩
  rw [nt]
  exact a3.congr (fun i hi => pl_full hi)
theorem st_mul_same (h : St W0 K N G W) (hk : Ker W0 p lo hi) (t c n : Nat) {g : Nat} (ca cx : Nat) (hg : g = W0.heap.size + t) (ht : t < K) (nt : N t = n) (hc : c < 256) :
    Calls Try.prog 13 #[.pointer (some p), .int .u8 (c : Int), .slice (some ⟨g, 0, none⟩) n ca, .slice (some ⟨g, 0, none⟩) n cx] W fun e w' => e = .returned (.int .i64 0) ∧ St W0 K N (up G t (fun i => fm 285 c (G t i))) w' := by
  subst hg
  have hr := h.row ht
  have hh := hk.hi
  refine (kmul_same p lo hi c n (W0.heap.size + t) 0 n (G t) _ ca cx W (h.ker hk) hc (nt ▸ hr.1) (.inr (by omega)) (nt ▸ hr) (fun _ => ⟨rfl, by omega⟩)).mono fun e w' ⟨a1, a2, a3⟩ => ⟨a1, h.turn a2 ?_⟩
  rw [nt]
  exact a3.congr (fun i hi => by rw [pl_full hi, Nat.zero_add])
theorem st_add_same (h : St W0 K N G W) (hk : Ker W0 p lo hi) (t c n : Nat) {g : Nat} (ca cx : Nat) (hg : g = W0.heap.size + t) (ht : t < K) (nt : N t = n) (hc : c < 256) :
    Calls Try.prog 14 #[.pointer (some p), .int .u8 (c : Int), .slice (some ⟨g, 0, none⟩) n ca, .slice (some ⟨g, 0, none⟩) n cx] W fun e w' => e = .returned (.int .i64 0) ∧ St W0 K N (up G t (fun i => G t i ^^^ fm 285 c (G t i))) w' := by
  subst hg
  have hr := h.row ht
  have hh := hk.hi
  refine (kadd_same p lo hi c n (W0.heap.size + t) 0 n (G t) _ ca cx W (h.ker hk) hc (nt ▸ hr.1) (.inr (by omega)) (nt ▸ hr) (fun _ => ⟨rfl, by omega⟩)).mono fun e w' ⟨a1, a2, a3⟩ => ⟨a1, h.turn a2 ?_⟩
  rw [nt]
  exact a3.congr (fun i hi => by rw [pl_full hi, Nat.zero_add])
theorem st_mul_none (h : St W0 K N G W) (hk : Ker W0 p lo hi) (hK : 0 < K) (c : Nat) (hc : c < 256) {a x : Option Addr} {ca cx : Nat} :
    Calls Try.prog 13 #[.pointer (some p), .int .u8 (c : Int), .slice a 0 ca, .slice x 0 cx] W fun e w' => e = .returned (.int .i64 0) ∧ St W0 K N G w' := by
  have hh := hk.hi
  refine (kmul_gen p lo hi c 0 (W0.heap.size + 0) 0 (N 0) (G 0) (fun _ _ => 0) a x ca cx W (h.ker hk) hc (by omega) (.inr (by omega)) (h.row hK) (fun h0 => absurd h0 (Nat.lt_irrefl _)) (fun h0 => absurd h0 (Nat.lt_irrefl _))).mono fun e w' ⟨a1, a2, a3⟩ => ⟨a1, (h.turn a2 a3).congr (fun j hj i hi => ?_)⟩
  by_cases e : j = 0
  · subst e; rw [up_same]; rfl
  · rw [up_other _ _ e]
end
end Go.Proofs.Ytefhlnplegagfab
