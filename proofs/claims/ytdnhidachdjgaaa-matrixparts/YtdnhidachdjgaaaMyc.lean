import Derived.Test.YtdnhidachdjgaaaMyb
namespace Go.Proofs.Ytdnhidachdjgaaa
open Go.RowKit Gf2
set_option linter.unusedVariables false

/-- a matrix that can be read. -/
structure It where
  v : Value
  m : Nat
  n : Nat → Nat
  F : Nat → Nat → Nat
/-- all that there is. -/
structure Kl (w W : World) (l : List It) : Prop where
  bel : Below w.heap.size w W
  all : ∀ i ∈ l, Lb W i.v i.m i.n i.F
theorem Kl.step {w W W' : World} {l : List It} (h : Kl w W l) (hb : Below W.heap.size W W') : Kl w W' l := ⟨h.bel.trans (hb.mono h.bel.size), fun i hi => (h.all i hi).below hb⟩
theorem Kl.add {w W : World} {l : List It} {v : Value} {m : Nat} {n : Nat → Nat} {F : Nat → Nat → Nat} (h : Kl w W l) (hv : Lb W v m n F) : Kl w W (⟨v, m, n, F⟩ :: l) :=
  ⟨h.bel, fun i hi => by
    rcases List.mem_cons.1 hi with rfl | hi
    · exact hv
    · exact h.all i hi⟩
theorem kl_start {w : World} {l : List It} (h : ∀ i ∈ l, Lb w i.v i.m i.n i.F) : Kl w w l := ⟨Below.refl _ _, h⟩
theorem Kl.drewN {w W : World} {l : List It} (h : Kl w W l) (q : Nat) : Kl w (W.drewN q) l := h.step (below_drewN (Below.refl _ _) q)
theorem Kl.at_ {w W : World} {l : List It} {v : Value} {m : Nat} {n : Nat → Nat} {F : Nat → Nat → Nat} (h : Kl w W l) (hm : (⟨v, m, n, F⟩ : It) ∈ l) : Lb W v m n F := h.all _ hm
theorem Kl.ans {w W W' : World} {l : List It} {v : Value} {m c : Nat} {F : Nat → Nat → Nat} (h : Kl w W l) (hv : Ans W W' v m c F) : Kl w W' (⟨v, m, fun _ => c, F⟩ :: l) := (h.step hv.2).add hv.lb
/-- a literal of one row. -/
theorem lit_row {W : World} {cs : Array Value} {N : Nat} {F : Nat → Nat} (hN : cs.size = N) (h1 : 1 ≤ N) (h2 : N ≤ 1000) (hF : ∀ i, i < N → F i < 256) (hc : ∀ i, i < N → cs[i]? = some (.int .u8 (F i : Nat))) :
    Lb ((W.alloc (.cells cs 5)).alloc (.cells #[.slice (some ⟨W.heap.size, 0, none⟩) N N] 38)) (.slice (some ⟨W.heap.size + 1, 0, none⟩) 1 1) 1 (fun _ => N) (fun _ => F) ∧ Below W.heap.size W ((W.alloc (.cells cs 5)).alloc (.cells #[.slice (some ⟨W.heap.size, 0, none⟩) N N] 38)) := by
  have hb1 : Below W.heap.size W (W.alloc (.cells cs 5)) := (Below.refl _ _).alloc (Nat.le_refl _) _
  have hs1 : (W.alloc (.cells cs 5)).heap.size = W.heap.size + 1 := by simp
  have hb2 : Below (W.heap.size + 1) (W.alloc (.cells cs 5)) ((W.alloc (.cells cs 5)).alloc (.cells #[.slice (some ⟨W.heap.size, 0, none⟩) N N] 38)) := (Below.refl _ _).alloc (by omega) _
  have hrow : (W.alloc (.cells cs 5)).rowIs W.heap.size 5 N (fun i => .int .u8 (F i : Nat)) := ⟨cs, heap_alloc_new _ _, hN, hc⟩
  have hrw : Rw ((W.alloc (.cells cs 5)).alloc (.cells #[.slice (some ⟨W.heap.size, 0, none⟩) N N] 38)) W.heap.size N F := Rw.of_block ⟨by unfold big; omega, hF, hrow⟩ (hb2.block _ (by omega))
  have hlist : ((W.alloc (.cells cs 5)).alloc (.cells #[.slice (some ⟨W.heap.size, 0, none⟩) N N] 38)).cell? ⟨W.heap.size + 1, 0, none⟩ = some (.slice (some ⟨W.heap.size, 0, none⟩) N N) := by
    rw [← hs1, cell_of_row _ _ 0 _ _ _ (heap_alloc_new _ _)]
    rfl
  refine ⟨⟨fun _ => .slice (some ⟨W.heap.size, 0, none⟩) N N, ⟨by decide, _, _, rfl, Nat.le_refl _, by decide, fun _ => ⟨_, _, rfl, ⟨by simp, fun h => h⟩, fun i hi => ?_⟩⟩, fun i hi => ?_⟩, hb1.trans (hb2.mono (by omega))⟩
  · obtain rfl : i = 0 := by omega
    rw [Nat.add_zero]; exact hlist
  · exact hrw.re (Nat.le_refl _) (Nat.le_refl _) hrw.1 (fun h => h)
theorem Kl.lit1 {w W : World} {l : List It} {z : Int} {x : Nat} (h : Kl w W l) (hz : z = (x : Int)) (hx : x < 256) :
    Kl w ((W.alloc (.cells #[.int .u8 z] 5)).alloc (.cells #[.slice (some ⟨W.heap.size, 0, none⟩) 1 1] 38)) (⟨.slice (some ⟨W.heap.size + 1, 0, none⟩) 1 1, 1, fun _ => 1, fun _ _ => x⟩ :: l) := by
  subst hz
  obtain ⟨h1, h2⟩ := lit_row (W := W) (cs := #[.int .u8 (x : Int)]) (N := 1) (F := fun _ => x) rfl (by decide) (by decide) (fun _ _ => hx) (fun i hi => by have e : i = 0 := (by omega); subst e; rfl)
  exact (h.step h2).add h1

theorem kl_same {w W : World} {l : List It} {u v : Value} {m : Nat} {n : Nat → Nat} {F G : Nat → Nat → Nat} (h : Kl w W l) (hu : (⟨u, m, n, F⟩ : It) ∈ l) (hv : (⟨v, m, n, G⟩ : It) ∈ l) (e : ∀ r, r < m → ∀ i, i < n r → F r i = G r i) :
    Calls Try.prog 14 #[u, v] W fun e W' => e = .returned (.bool true) ∧ Kl w W' l :=
  (same10_true u v m n F G W (h.at_ hu) (h.at_ hv) e).mono fun e W' ⟨h1, q, h2⟩ => ⟨h1, h2 ▸ h.drewN q⟩
theorem kl_twin {w W : World} {l : List It} {u : Value} {m k : Nat} {F : Nat → Nat → Nat} (h : Kl w W l) (hu : (⟨u, m, fun _ => k, F⟩ : It) ∈ l) (hm : m ≤ 256) (hk : k ≤ 512) :
    Calls Try.prog 12 #[u] W fun e W' => ∃ t, e = .returned t ∧ Kl w W' (⟨t, m, fun _ => k, F⟩ :: l) :=
  (twin10_any u m (fun _ => k) F W (h.at_ hu) (by omega) (fun _ _ => by omega)).mono fun e W' ⟨h1, h2⟩ => ⟨_, h1, (h.step h2.bel).add (h2.cs (by unfold big; omega)).lb⟩
theorem kl_det {w W : World} {l : List It} {u : Value} {n : Nat} {F : Nat → Nat → Nat} (h : Kl w W l) (hu : (⟨u, n, fun _ => n, F⟩ : It) ∈ l) (h1 : 1 ≤ n) (h2 : n ≤ 256) (hF : ∀ i j, F i j < 256) :
    Calls Try.prog 36 #[u] W fun e W' => e = .returned (.tuple #[.int .u8 (dt n F : Nat), .int .i64 0]) ∧ Kl w W' l :=
  (det10_yes u n F W (h.at_ hu) h1 h2 hF).mono fun e W' ⟨a1, a2⟩ => ⟨a1, h.step a2⟩
theorem kl_rank {w W : World} {l : List It} {u : Value} {m n : Nat} {F : Nat → Nat → Nat} (h : Kl w W l) (hu : (⟨u, m, fun _ => n, F⟩ : It) ∈ l) (h1 : 1 ≤ m) (h2 : m ≤ 256) (h3 : 1 ≤ n) (h4 : n ≤ 512) (hF : ∀ i j, F i j < 256) :
    Calls Try.prog 35 #[u] W fun e W' => e = .returned (.tuple #[.int .i64 ((elm m F n).t : Int), .int .i64 0]) ∧ Kl w W' l :=
  (rank10_yes u m n F W (h.at_ hu) h1 h2 h3 h4 hF).mono fun e W' ⟨a1, a2⟩ => ⟨a1, h.step a2⟩
theorem kl_invert {w W : World} {l : List It} {u : Value} {n : Nat} {F : Nat → Nat → Nat} (h : Kl w W l) (hu : (⟨u, n, fun _ => n, F⟩ : It) ∈ l) (h1 : 1 ≤ n) (h2 : n ≤ 256) (hF : ∀ i j, F i j < 256) (ht : (elm n F n).t = n) :
    Calls Try.prog 31 #[u] W fun e W' => ∃ x, e = .returned (.tuple #[x, .int .i64 0]) ∧ Kl w W' (⟨x, n, fun _ => n, sol n F idm⟩ :: l) :=
  (invert10_yes u n F W (h.at_ hu) h1 h2 hF ht).mono fun e W' ⟨x, a1, a2⟩ => ⟨x, a1, h.ans a2⟩
theorem kl_invert0 {w W : World} {l : List It} {u : Value} {n : Nat} {F : Nat → Nat → Nat} (h : Kl w W l) (hu : (⟨u, n, fun _ => n, F⟩ : It) ∈ l) (h1 : 1 ≤ n) (h2 : n ≤ 256) (hF : ∀ i j, F i j < 256) (ht : (elm n F n).t < n) :
    Calls Try.prog 31 #[u] W fun e W' => e = .returned (.tuple #[.slice none 0 0, .int .i64 102]) ∧ Kl w W' l :=
  (invert10_no u n F W (h.at_ hu) h1 h2 hF ht).mono fun e W' ⟨a1, a2⟩ => ⟨a1, h.step a2⟩
theorem kl_mul {w W : World} {l : List It} {u v : Value} {m n k : Nat} {F G : Nat → Nat → Nat} (h : Kl w W l) (hu : (⟨u, m, fun _ => n, F⟩ : It) ∈ l) (hv : (⟨v, n, fun _ => k, G⟩ : It) ∈ l) (h1 : 1 ≤ m) (h2 : m ≤ 256) (h3 : 1 ≤ n) (h4 : n ≤ 256) (h5 : 1 ≤ k) (h6 : k ≤ 512) :
    Calls Try.prog 24 #[u, v] W fun e W' => ∃ x, e = .returned (.tuple #[x, .int .i64 0]) ∧ Kl w W' (⟨x, m, fun _ => k, mm n F G⟩ :: l) :=
  (mul10_yes u v m n k F G W (h.at_ hu) (h.at_ hv) h1 h2 h3 h4 h5 h6).mono fun e W' ⟨x, a1, a2⟩ => ⟨x, a1, h.ans a2⟩
theorem kl_solve {w W : World} {l : List It} {u v : Value} {n k : Nat} {F G : Nat → Nat → Nat} (h : Kl w W l) (hu : (⟨u, n, fun _ => n, F⟩ : It) ∈ l) (hv : (⟨v, n, fun _ => k, G⟩ : It) ∈ l) (h1 : 1 ≤ n) (h2 : n ≤ 256) (h3 : 1 ≤ k) (h4 : k ≤ 512) (hF : ∀ i j, F i j < 256) (hG : ∀ i j, G i j < 256) (ht : (elm n F n).t = n) :
    Calls Try.prog 32 #[u, v] W fun e W' => ∃ x, e = .returned (.tuple #[x, .int .i64 0]) ∧ Kl w W' (⟨x, n, fun _ => k, sol n F G⟩ :: l) :=
  (solve10_yes u v n k F G W (h.at_ hu) (h.at_ hv) h1 h2 h3 h4 hF hG ht).mono fun e W' ⟨x, a1, a2⟩ => ⟨x, a1, h.ans a2⟩

theorem kl_det_eq {w W : World} {l : List It} {u : Value} {n d : Nat} {F : Nat → Nat → Nat} (h : Kl w W l) (hu : (⟨u, n, fun _ => n, F⟩ : It) ∈ l) (h1 : 1 ≤ n) (h2 : n ≤ 256) (hF : ∀ i j, F i j < 256) (hd : dt n F = d) :
    Calls Try.prog 36 #[u] W fun e W' => e = .returned (.tuple #[.int .u8 (d : Nat), .int .i64 0]) ∧ Kl w W' l := by
  subst hd
  exact kl_det h hu h1 h2 hF
theorem kl_rank_eq {w W : World} {l : List It} {u : Value} {m n r : Nat} {F : Nat → Nat → Nat} (h : Kl w W l) (hu : (⟨u, m, fun _ => n, F⟩ : It) ∈ l) (h1 : 1 ≤ m) (h2 : m ≤ 256) (h3 : 1 ≤ n) (h4 : n ≤ 512) (hF : ∀ i j, F i j < 256) (hr : (elm m F n).t = r) :
    Calls Try.prog 35 #[u] W fun e W' => e = .returned (.tuple #[.int .i64 (r : Int), .int .i64 0]) ∧ Kl w W' l := by
  subst hr
  exact kl_rank h hu h1 h2 h3 h4 hF
theorem Kl.first {w W : World} {l : List It} {b o m cap : Nat} {n : Nat → Nat} {F : Nat → Nat → Nat} (h : Kl w W l) (hu : (⟨.slice (some ⟨b, o, none⟩) m cap, m, n, F⟩ : It) ∈ l) (h0 : 0 < m) : ∃ x y, W.cell? ⟨b, o, none⟩ = some (.slice x (n 0) y) := (h.at_ hu).first h0
/-- S where a matrix of m rows and n columns has it, else 0. -/
def bdd (m n : Nat) (S : Nat → Nat → Nat) : Nat → Nat → Nat := fun i j => if i < m ∧ j < n then S i j else 0
theorem bdd_in {m n i j : Nat} {S : Nat → Nat → Nat} (h : i < m) (k : j < n) : bdd m n S i j = S i j := if_pos ⟨h, k⟩
theorem Lb.lt_ {w : World} {u : Value} {m : Nat} {n : Nat → Nat} {S : Nat → Nat → Nat} (h : Lb w u m n S) {i j : Nat} (hi : i < m) (hj : j < n i) : S i j < 256 := by
  obtain ⟨V, -, hV⟩ := h
  exact (hV i hi).2.1 j hj
theorem Lb.bdd {w : World} {u : Value} {m n : Nat} {S : Nat → Nat → Nat} (h : Lb w u m (fun _ => n) S) : Lb w u m (fun _ => n) (bdd m n S) ∧ ∀ i j, bdd m n S i j < 256 :=
  ⟨h.congr (fun i hi j hj => (bdd_in hi hj).symm), fun i j => by
    show (if i < m ∧ j < n then S i j else 0) < 256
    split
    · exact h.lt_ (by omega) (by show j < n; omega)
    · decide⟩
theorem Lb.square {w : World} {u : Value} {m : Nat} {n : Nat → Nat} {S : Nat → Nat → Nat} (h : Lb w u m n S) (hf : Fm m n) : Lb w u m (fun _ => n 0) S := h.lens hf.2.2.2.2
end Go.Proofs.Ytdnhidachdjgaaa
