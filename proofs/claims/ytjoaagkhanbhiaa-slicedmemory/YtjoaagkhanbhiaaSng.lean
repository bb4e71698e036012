import Derived.Test.YtjoaagkhanbhiaaSnf
import Derived.Test.YtjoaagkhanbhiaaSne
namespace Go.Proofs.Ytjoaagkhanbhiaa
open Go.RowKit Gf2
set_option linter.unusedVariables false

theorem almem0 {α : Type} {x : α} {l : List α} : x ∈ x :: l := List.mem_cons_self
theorem almem1 {α : Type} {x a0 : α} {l : List α} : x ∈ a0 :: x :: l := List.mem_cons_of_mem _ almem0
theorem almem2 {α : Type} {x a0 a1 : α} {l : List α} : x ∈ a0 :: a1 :: x :: l := List.mem_cons_of_mem _ almem1
theorem almem3 {α : Type} {x a0 a1 a2 : α} {l : List α} : x ∈ a0 :: a1 :: a2 :: x :: l := List.mem_cons_of_mem _ almem2
theorem almem4 {α : Type} {x a0 a1 a2 a3 : α} {l : List α} : x ∈ a0 :: a1 :: a2 :: a3 :: x :: l := List.mem_cons_of_mem _ almem3
theorem almem5 {α : Type} {x a0 a1 a2 a3 a4 : α} {l : List α} : x ∈ a0 :: a1 :: a2 :: a3 :: a4 :: x :: l := List.mem_cons_of_mem _ almem4
theorem almem6 {α : Type} {x a0 a1 a2 a3 a4 a5 : α} {l : List α} : x ∈ a0 :: a1 :: a2 :: a3 :: a4 :: a5 :: x :: l := List.mem_cons_of_mem _ almem5
theorem almem7 {α : Type} {x a0 a1 a2 a3 a4 a5 a6 : α} {l : List α} : x ∈ a0 :: a1 :: a2 :: a3 :: a4 :: a5 :: a6 :: x :: l := List.mem_cons_of_mem _ almem6
theorem almem8 {α : Type} {x a0 a1 a2 a3 a4 a5 a6 a7 : α} {l : List α} : x ∈ a0 :: a1 :: a2 :: a3 :: a4 :: a5 :: a6 :: a7 :: x :: l := List.mem_cons_of_mem _ almem7
theorem almem9 {α : Type} {x a0 a1 a2 a3 a4 a5 a6 a7 a8 : α} {l : List α} : x ∈ a0 :: a1 :: a2 :: a3 :: a4 :: a5 :: a6 :: a7 :: a8 :: x :: l := List.mem_cons_of_mem _ almem8
section
variable {w W : World} {l : List It} {g C n : Nat} {T : Nat → Nat}
theorem Al.set8 (h : Al w W l) {k : Nat} (hk : l[k]? = some (.b8 g C n T)) (j : Nat) {z : Int} (h0 : 0 ≤ z) (h1 : z < 256) : ∃ T', Al w (W.setCell ⟨g, j, none⟩ (.int .u8 z)) (l.set k (.b8 g C n T')) := by
  obtain ⟨hlo, hC, F, hR, hF⟩ := h.ok k _ hk
  exact ⟨fun i => if i = j then z.toNat else F i, h.put hk ((Below.refl _ _).setCell hlo _) (fun b hb _ => Below.heap_setCell _ _ _ _ hb) rfl ⟨hC, _, hR.setz j h0 h1, fun _ _ => rfl⟩⟩
theorem Al.set64 (h : Al w W l) {k : Nat} (hk : l[k]? = some (.b64 g C n T)) (j : Nat) {v : Nat} (h1 : v < 18446744073709551616) : Al w (W.setCell ⟨g, j, none⟩ (.int .u64 (v : Nat))) (l.set k (.b64 g C n (fun i => if i = j then v else T i))) := by
  obtain ⟨hlo, hC, F, hR, hF⟩ := h.ok k _ hk
  refine h.put hk ((Below.refl _ _).setCell hlo _) (fun b hb _ => Below.heap_setCell _ _ _ _ hb) rfl ⟨hC, _, hR.set j v h1, fun i hi => ?_⟩
  by_cases e : i = j
  · simp only [if_pos e]
  · simp only [if_neg e]; exact hF i hi
theorem Al.like (h : Al w W l) {k : Nat} (hk : l[k]? = some (.b64 g C n T)) {T' : Nat → Nat} (e : ∀ i, i < n → T i = T' i) : Al w W (l.set k (.b64 g C n T')) := by
  obtain ⟨hlo, hC, F, hR, hF⟩ := h.ok k _ hk
  exact h.put hk (Below.refl _ _) (fun _ _ _ => rfl) rfl ⟨hC, F, hR, fun i hi => (hF i hi).trans (e i hi)⟩
theorem Al.lt8 (h : Al w W l) (hm : It.b8 g C n T ∈ l) : ∀ i, i < n → T i < 256 := by
  obtain ⟨-, hC, F, hR, hF⟩ := h.mem hm
  exact fun i hi => by rw [← hF i hi]; exact hR.2.1 i (by omega)
theorem Al.cell8 (h : Al w W l) (hm : It.b8 g C n T ∈ l) {i : Nat} (hi : i < n) : W.cell? ⟨g, i, none⟩ = some (.int .u8 (T i : Nat)) ∧ W.frozen? ⟨g, i, none⟩ = false := by
  obtain ⟨-, hC, F, hR, hF⟩ := h.mem hm
  exact ⟨by rw [← hF i hi]; exact hR.2.2.cell (by omega), hR.2.2.frozen i⟩
theorem Al.cell64 (h : Al w W l) (hm : It.b64 g C n T ∈ l) {i : Nat} (hi : i < n) : W.cell? ⟨g, i, none⟩ = some (.int .u64 (T i : Nat)) ∧ W.frozen? ⟨g, i, none⟩ = false := by
  obtain ⟨-, hC, F, hR, hF⟩ := h.mem hm
  exact ⟨by rw [← hF i hi]; exact hR.2.2.cell (by omega), hR.2.2.frozen i⟩
theorem Al.mn (h : Al w W l) (ix B L C : Nat → Nat) (T : Nat → Nat → Nat) (N : Nat) (hm : ∀ r, r < N → l[ix r]? = some (.b8 (B r) (C r) (L r) (T r))) (inj : ∀ r s, r < N → s < N → ix r = ix s → r = s) (hL : ∀ r, r < N → L r ≤ 1000)
    (cs : Array Value) (hcs : ∀ r, r < N → cs[r]? = some (.slice (some ⟨B r, 0, none⟩) (L r) (C r))) : ∃ F, Mn (W.alloc (.cells cs 23)) w.heap.size W.heap.size N B L C F := by
  have hb : Below W.heap.size W (W.alloc (.cells cs 23)) := (Below.refl _ _).alloc (Nat.le_refl _) _
  obtain ⟨F, hF⟩ := Classical.axiomOfChoice (r := fun r F => r < N → Rw W (B r) (C r) F) (fun r => by
    by_cases hr : r < N
    · obtain ⟨-, -, F, hR, -⟩ := h.ok _ _ (hm r hr)
      exact ⟨F, fun _ => hR⟩
    · exact ⟨fun _ => 0, fun c => absurd c hr⟩)
  refine ⟨F, fun r hr => ?_, fun r hr => rw_below (hF r hr) hb, fun r s hr hs e => Classical.byContradiction fun c => h.ne _ _ _ _ (hm r hr) (hm s hs) (fun c2 => c (inj r s hr hs c2)) e, fun r hr => ?_, fun r hr => (h.ok _ _ (hm r hr)).1, by simp, fun r hr => ⟨(h.ok _ _ (hm r hr)).2.1, hL r hr⟩⟩
  · rw [cell_of_row _ W.heap.size r _ _ _ (heap_alloc_new _ _)]
    exact hcs r hr
  · have := (hF r hr).lt
    omega
theorem Al.mv (h : Al w W l) (ix B L C : Nat → Nat) (T : Nat → Nat → Nat) (N : Nat) (hm : ∀ r, r < N → l[ix r]? = some (.b64 (B r) (C r) (L r) (T r))) (inj : ∀ r s, r < N → s < N → ix r = ix s → r = s) (hL : ∀ r, r < N → L r ≤ 1000)
    (cs : Array Value) (hcs : ∀ r, r < N → cs[r]? = some (.slice (some ⟨B r, 0, none⟩) (L r) (C r))) {V : World} (hs : W.heap.size ≤ V.heap.size) (hV : ∀ r, r < N → V.heap[B r]? = W.heap[B r]?) : ∃ F, Mv (V.alloc (.cells cs 24)) w.heap.size V.heap.size N B L C F := by
  have hb : Below V.heap.size V (V.alloc (.cells cs 24)) := (Below.refl _ _).alloc (Nat.le_refl _) _
  obtain ⟨F, hF⟩ := Classical.axiomOfChoice (r := fun r F => r < N → Rv W (B r) (C r) F) (fun r => by
    by_cases hr : r < N
    · obtain ⟨-, -, F, hR, -⟩ := h.ok _ _ (hm r hr)
      exact ⟨F, fun _ => hR⟩
    · exact ⟨fun _ => 0, fun c => absurd c hr⟩)
  refine ⟨F, fun r hr => ?_, fun r hr => rv_below ((hF r hr).of_block (hV r hr)) hb, fun r s hr hs e => Classical.byContradiction fun c => h.ne _ _ _ _ (hm r hr) (hm s hs) (fun c2 => c (inj r s hr hs c2)) e, fun r hr => ?_, fun r hr => (h.ok _ _ (hm r hr)).1, by simp, fun r hr => ⟨(h.ok _ _ (hm r hr)).2.1, hL r hr⟩⟩
  · rw [cell_of_row _ V.heap.size r _ _ _ (heap_alloc_new _ _)]
    exact hcs r hr
  · have := (hF r hr).lt
    omega
end
end Go.Proofs.Ytjoaagkhanbhiaa

namespace Go.Proofs.Ytjoaagkhanbhiaa
open Go.RowKit Gf2
set_option linter.unusedVariables false

/-- the end of SlicedMemory: six lists of bytes, then three of words, marked and grown. -/
theorem mem_ends {w W : World} {g C d1 d2 d3 e1 e2 e3 a1 a2 a3 at' aw gx : Nat} {S T K P P' : Nat → Nat}
    (h : Al w W [.b8 e3 8 8 K, .b8 e2 cC 8 K, .b8 e1 cC 8 K, .b8 d3 bC 64 T, .b64 at' 8 8 P', .b64 a3 pC 8 P', .b8 d2 bC 64 S, .b8 d1 bC 64 S, .b64 aw 8 8 P, .b64 a2 pC 8 P, .b64 a1 pC 8 P', .b8 g C 64 T, .bx gx S]) :
    Calls Try.prog 12 #[.slice (some ⟨W.heap.size, 0, none⟩) 6 6] (W.alloc (.cells #[.slice (some ⟨g, 0, none⟩) 64 C, .slice (some ⟨d1, 0, none⟩) 64 bC, .slice (some ⟨d2, 0, none⟩) 64 bC, .slice (some ⟨d3, 0, none⟩) 64 bC, .slice (some ⟨e1, 0, none⟩) 8 cC, .slice (some ⟨e2, 0, none⟩) 8 cC] 23)) fun e V => e = .returned (.bool true) ∧
      Calls Try.prog 13 #[.slice (some ⟨V.heap.size, 0, none⟩) 3 3] (V.alloc (.cells #[.slice (some ⟨a1, 0, none⟩) 8 pC, .slice (some ⟨a2, 0, none⟩) 8 pC, .slice (some ⟨a3, 0, none⟩) 8 pC] 24)) fun e V' => e = .returned (.bool true) ∧ Below w.heap.size w V' := by
  have hm : ∀ r, r < 6 → ([.b8 e3 8 8 K, .b8 e2 cC 8 K, .b8 e1 cC 8 K, .b8 d3 bC 64 T, .b64 at' 8 8 P', .b64 a3 pC 8 P', .b8 d2 bC 64 S, .b8 d1 bC 64 S, .b64 aw 8 8 P, .b64 a2 pC 8 P, .b64 a1 pC 8 P', .b8 g C 64 T, .bx gx S] : List It)[([11, 7, 6, 3, 2, 1] : List Nat).getD r 0]? = some (.b8 (([g, d1, d2, d3, e1, e2] : List Nat).getD r 0) (([C, bC, bC, bC, cC, cC] : List Nat).getD r 0) (([64, 64, 64, 64, 8, 8] : List Nat).getD r 0) (([T, S, S, T, K, K] : List (Nat → Nat)).getD r T)) := by
    intro r hr
    match r, hr with
    | 0, _ => rfl
    | 1, _ => rfl
    | 2, _ => rfl
    | 3, _ => rfl
    | 4, _ => rfl
    | 5, _ => rfl
  have hm2 : ∀ r, r < 3 → ([.b8 e3 8 8 K, .b8 e2 cC 8 K, .b8 e1 cC 8 K, .b8 d3 bC 64 T, .b64 at' 8 8 P', .b64 a3 pC 8 P', .b8 d2 bC 64 S, .b8 d1 bC 64 S, .b64 aw 8 8 P, .b64 a2 pC 8 P, .b64 a1 pC 8 P', .b8 g C 64 T, .bx gx S] : List It)[([10, 9, 5] : List Nat).getD r 0]? = some (.b64 (([a1, a2, a3] : List Nat).getD r 0) (([pC, pC, pC] : List Nat).getD r 0) (([8, 8, 8] : List Nat).getD r 0) (([P', P, P'] : List (Nat → Nat)).getD r P)) := by
    intro r hr
    match r, hr with
    | 0, _ => rfl
    | 1, _ => rfl
    | 2, _ => rfl
  have i6 : ∀ r s : Fin 6, ([11, 7, 6, 3, 2, 1] : List Nat).getD r 0 = ([11, 7, 6, 3, 2, 1] : List Nat).getD s 0 → r = s := by decide
  have i3 : ∀ r s : Fin 3, ([10, 9, 5] : List Nat).getD r 0 = ([10, 9, 5] : List Nat).getD s 0 → r = s := by decide
  have i63 : ∀ (r : Fin 6) (s : Fin 3), ([11, 7, 6, 3, 2, 1] : List Nat).getD r 0 ≠ ([10, 9, 5] : List Nat).getD s 0 := by decide
  have l6 : ∀ r : Fin 6, ([64, 64, 64, 64, 8, 8] : List Nat).getD r 0 ≤ 1000 := by decide
  have l3 : ∀ r : Fin 3, ([8, 8, 8] : List Nat).getD r 0 ≤ 1000 := by decide
  obtain ⟨FB, MB⟩ := h.mn (fun r => ([11, 7, 6, 3, 2, 1] : List Nat).getD r 0) (fun r => ([g, d1, d2, d3, e1, e2] : List Nat).getD r 0) (fun r => ([64, 64, 64, 64, 8, 8] : List Nat).getD r 0) (fun r => ([C, bC, bC, bC, cC, cC] : List Nat).getD r 0) (fun r => ([T, S, S, T, K, K] : List (Nat → Nat)).getD r T) 6 hm
    (fun r s hr hs e => congrArg Fin.val (i6 ⟨r, hr⟩ ⟨s, hs⟩ e)) (fun r hr => l6 ⟨r, hr⟩)
    #[.slice (some ⟨g, 0, none⟩) 64 C, .slice (some ⟨d1, 0, none⟩) 64 bC, .slice (some ⟨d2, 0, none⟩) 64 bC, .slice (some ⟨d3, 0, none⟩) 64 bC, .slice (some ⟨e1, 0, none⟩) 8 cC, .slice (some ⟨e2, 0, none⟩) 8 cC] (by
      intro r hr
      match r, hr with
      | 0, _ => rfl
      | 1, _ => rfl
      | 2, _ => rfl
      | 3, _ => rfl
      | 4, _ => rfl
      | 5, _ => rfl)
  have hsz := h.bel.size
  refine (apartBytes7_any w.heap.size W.heap.size 6 6 _ _ _ FB _ (by decide) (by simp; omega) MB).mono ?_
  rintro e V ⟨rfl, hB⟩
  refine ⟨rfl, ?_⟩
  have hs : W.heap.size ≤ V.heap.size := by
    have := hB.1.size
    simp at this
    omega
  have hlt : ∀ r, r < 3 → ([a1, a2, a3] : List Nat).getD r 0 < W.heap.size := fun r hr => It.lt (h.ok _ _ (hm2 r hr)).2
  obtain ⟨FV, MV⟩ := h.mv (fun r => ([10, 9, 5] : List Nat).getD r 0) (fun r => ([a1, a2, a3] : List Nat).getD r 0) (fun r => ([8, 8, 8] : List Nat).getD r 0) (fun r => ([pC, pC, pC] : List Nat).getD r 0) (fun r => ([P', P, P'] : List (Nat → Nat)).getD r P) 3 hm2
    (fun r s hr hs e => congrArg Fin.val (i3 ⟨r, hr⟩ ⟨s, hs⟩ e)) (fun r hr => l3 ⟨r, hr⟩)
    #[.slice (some ⟨a1, 0, none⟩) 8 pC, .slice (some ⟨a2, 0, none⟩) 8 pC, .slice (some ⟨a3, 0, none⟩) 8 pC] (by
      intro r hr
      match r, hr with
      | 0, _ => rfl
      | 1, _ => rfl
      | 2, _ => rfl) (V := V) hs
    (fun r hr => (hB.2 (([a1, a2, a3] : List Nat).getD r 0) (by have := hlt r hr; simp only [World.size_alloc]; omega) (fun s hs' => h.ne _ _ _ _ (hm s hs') (hm2 r hr) (i63 ⟨s, hs'⟩ ⟨r, hr⟩))).trans (Below.heap_alloc W _ _ (hlt r hr)))
  have b1 : Below w.heap.size w (W.alloc (.cells #[.slice (some ⟨g, 0, none⟩) 64 C, .slice (some ⟨d1, 0, none⟩) 64 bC, .slice (some ⟨d2, 0, none⟩) 64 bC, .slice (some ⟨d3, 0, none⟩) 64 bC, .slice (some ⟨e1, 0, none⟩) 8 cC, .slice (some ⟨e2, 0, none⟩) 8 cC] 23)) := h.bel.alloc h.bel.size _
  have b2 := (b1.trans hB.1).alloc (by omega) (.cells #[.slice (some ⟨a1, 0, none⟩) 8 pC, .slice (some ⟨a2, 0, none⟩) 8 pC, .slice (some ⟨a3, 0, none⟩) 8 pC] 24)
  exact (apartWords7_any w.heap.size V.heap.size 3 3 _ _ _ FV _ (by decide) (by simp; omega) MV).mono fun e V' ⟨h1, h2⟩ => ⟨h1, b2.trans h2.1⟩
end Go.Proofs.Ytjoaagkhanbhiaa
