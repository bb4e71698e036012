import Derived.Test.YthfpadkihommaaaMda
import Derived.Test.YthfpadkihommaaaKofa
namespace Go.Proofs.Ythfpadkihommaaa
open Go.RowKit Gf2
set_option linter.unusedVariables false

/-- two rows of two. -/
def lit2 (W : World) (a b : Array Value) : World := ((W.alloc (.cells a 5)).alloc (.cells b 5)).alloc (.cells #[.slice (some ⟨W.heap.size, 0, none⟩) 2 2, .slice (some ⟨W.heap.size + 1, 0, none⟩) 2 2] 26)
theorem lit2_lb {W : World} {a b : Array Value} {F : Nat → Nat → Nat} (ha : a.size = 2) (hb : b.size = 2) (hF : ∀ i j, i < 2 → j < 2 → F i j < 256)
    (ea : ∀ j, j < 2 → a[j]? = some (.int .u8 (F 0 j : Nat))) (eb : ∀ j, j < 2 → b[j]? = some (.int .u8 (F 1 j : Nat))) :
    Lb (lit2 W a b) (.slice (some ⟨W.heap.size + 1 + 1, 0, none⟩) 2 2) 2 (fun _ => 2) F ∧ Below W.heap.size W (lit2 W a b) := by
  have r0 := new_rw (W := W) (F := F 0) ha (by decide) (fun j hj => hF 0 j (by decide) hj) ea
  have s0 : (W.alloc (.cells a 5)).heap.size = W.heap.size + 1 := by simp
  have b0 : Below W.heap.size W (W.alloc (.cells a 5)) := (Below.refl _ _).alloc (Nat.le_refl _) _
  have r1 := new_rw (W := W.alloc (.cells a 5)) (F := F 1) hb (by decide) (fun j hj => hF 1 j (by decide) hj) eb
  have r0 := rw_alloc r0 (.cells b 5)
  have b1 := b0.alloc (by omega) (.cells b 5)
  have s1 : ((W.alloc (.cells a 5)).alloc (.cells b 5)).heap.size = W.heap.size + 1 + 1 := by simp
  rw [s0] at r1
  have hl : (lit2 W a b).rowIs (W.heap.size + 1 + 1) 26 2 (fun i => .slice (some ⟨W.heap.size + i, 0, none⟩) 2 2) := by
    rw [← s1]
    refine ⟨_, heap_alloc_new _ _, rfl, fun i hi => ?_⟩
    match i, hi with
    | 0, _ => rfl
    | 1, _ => rfl
  have r0 := rw_alloc r0 (.cells #[.slice (some ⟨W.heap.size, 0, none⟩) 2 2, .slice (some ⟨W.heap.size + 1, 0, none⟩) 2 2] 26)
  have r1 := rw_alloc r1 (.cells #[.slice (some ⟨W.heap.size, 0, none⟩) 2 2, .slice (some ⟨W.heap.size + 1, 0, none⟩) 2 2] 26)
  have rows : ∀ i, i < 2 → Rw (lit2 W a b) (W.heap.size + i) 2 (F i) := fun i hi => by
    match i, hi with
    | 0, _ => exact r0
    | 1, _ => exact r1
  refine ⟨⟨fun i => .slice (some ⟨W.heap.size + i, 0, none⟩) 2 2, ⟨by decide, _, _, rfl, Nat.le_refl _, by decide, fun _ => ⟨_, _, rfl, ⟨hl.lt, fun h => h⟩, fun i hi => ?_⟩⟩, fun i hi => ?_⟩, b1.alloc (by omega) _⟩
  · rw [Nat.zero_add]; exact hl.cell hi
  · exact (rows i hi).re (Nat.le_refl _) (Nat.le_refl _) (rows i hi).1 (fun h => h)
def l1234 : Nat → Nat → Nat := fun i j => ((([[1, 2], [3, 4]] : List (List Nat)).getD i []).getD j 0)
theorem l1234_dt : dt 2 l1234 = 2 := by decide +kernel
theorem l1234_lt (i j : Nat) : l1234 i j < 256 := by
  match i, j with
  | 0, 0 => decide
  | 0, 1 => decide
  | 0, j + 2 => exact Nat.zero_lt_succ _
  | 1, 0 => decide
  | 1, 1 => decide
  | 1, j + 2 => exact Nat.zero_lt_succ _
  | i + 2, j => exact Nat.zero_lt_succ _
/-- the determinant of the first example. -/
theorem det_1234 (w : World) : Calls Try.prog 12 #[.slice (some ⟨w.heap.size + 1 + 1, 0, none⟩) 2 2] (((w.alloc (.cells #[.int .u8 1, .int .u8 2] 5)).alloc (.cells #[.int .u8 3, .int .u8 4] 5)).alloc (.cells #[.slice (some ⟨w.heap.size, 0, none⟩) 2 2, .slice (some ⟨w.heap.size + 1, 0, none⟩) 2 2] 26)) fun e w' => e = .returned (.tuple #[.int .u8 2, .int .i64 0]) ∧ Below w.heap.size w w' := by
  obtain ⟨h1, h2⟩ := lit2_lb (W := w) (a := #[.int .u8 1, .int .u8 2]) (b := #[.int .u8 3, .int .u8 4]) (F := l1234) rfl rfl (fun i j _ _ => l1234_lt i j) (fun i hi => by
      match i, hi with
      | 0, _ => rfl
      | 1, _ => rfl) (fun i hi => by
      match i, hi with
      | 0, _ => rfl
      | 1, _ => rfl)
  have hd := det10_yes _ 2 l1234 _ h1 (by decide) (by decide) l1234_lt
  rw [l1234_dt] at hd
  exact hd.mono fun e w' ⟨a1, a2⟩ => ⟨a1, h2.trans (a2.mono h2.size)⟩
theorem kl_transpose {w W : World} {l : List It} {u : Value} {m n : Nat} {F : Nat → Nat → Nat} (h : Kl w W l) (hu : (⟨u, m, fun _ => n, F⟩ : It) ∈ l) (h1 : 1 ≤ m) (h2 : m ≤ 256) (h3 : 1 ≤ n) (h4 : n ≤ 256) :
    Calls Try.prog 21 #[u] W fun e W' => ∃ x, e = .returned (.tuple #[x, .int .i64 0]) ∧ Kl w W' (⟨x, n, fun _ => m, fun i j => F j i⟩ :: l) :=
  (transpose10_yes u m n F W (h.at_ hu) h1 h2 h3 h4).mono fun e W' ⟨x, a1, a2⟩ => ⟨x, a1, h.ans a2⟩
theorem kl_det_D {w W : World} {l : List It} {u : Value} {n d : Nat} {F : Nat → Nat → Nat} (h : Kl w W l) (hu : (⟨u, n, fun _ => n, F⟩ : It) ∈ l) (h1 : 1 ≤ n) (h2 : n ≤ 256) (hF : ∀ i j, F i j < 256) (hd : D n F = d) :
    Calls Try.prog 12 #[u] W fun e W' => e = .returned (.tuple #[.int .u8 (d : Nat), .int .i64 0]) ∧ Kl w W' l :=
  kl_det_eq h hu h1 h2 hF ((dt_D hF).trans hd)
end Go.Proofs.Ythfpadkihommaaa
