import Derived.Test.YtdnhidachdjgaaaMyc
import Derived.Test.YtdnhidachdjgaaaMxd
import Derived.Test.YtdnhidachdjgaaaMxe
import Derived.Test.YtdnhidachdjgaaaMj8
namespace Go.Proofs.Ytdnhidachdjgaaa
open Go.RowKit Gf2
set_option linter.unusedVariables false

/-- a new row. -/
theorem new_rw {W : World} {cs : Array Value} {N : Nat} {F : Nat → Nat} (hN : cs.size = N) (h2 : N ≤ 1000) (hF : ∀ i, i < N → F i < 256) (hc : ∀ i, i < N → cs[i]? = some (.int .u8 (F i : Nat))) : Rw (W.alloc (.cells cs 5)) W.heap.size N F :=
  ⟨by unfold big; omega, hF, ⟨cs, heap_alloc_new _ _, hN, hc⟩⟩
/-- three rows of three. -/
def lit3 (W : World) (a b c : Array Value) : World := (((W.alloc (.cells a 5)).alloc (.cells b 5)).alloc (.cells c 5)).alloc (.cells #[.slice (some ⟨W.heap.size, 0, none⟩) 3 3, .slice (some ⟨W.heap.size + 1, 0, none⟩) 3 3, .slice (some ⟨W.heap.size + 1 + 1, 0, none⟩) 3 3] 38)
theorem lit3_lb {W : World} {a b c : Array Value} {F : Nat → Nat → Nat} (ha : a.size = 3) (hb : b.size = 3) (hc : c.size = 3) (hF : ∀ i j, i < 3 → j < 3 → F i j < 256)
    (ea : ∀ j, j < 3 → a[j]? = some (.int .u8 (F 0 j : Nat))) (eb : ∀ j, j < 3 → b[j]? = some (.int .u8 (F 1 j : Nat))) (ec : ∀ j, j < 3 → c[j]? = some (.int .u8 (F 2 j : Nat))) :
    Lb (lit3 W a b c) (.slice (some ⟨W.heap.size + 1 + 1 + 1, 0, none⟩) 3 3) 3 (fun _ => 3) F ∧ Below W.heap.size W (lit3 W a b c) := by
  have r0 := new_rw (W := W) (F := F 0) ha (by decide) (fun j hj => hF 0 j (by decide) hj) ea
  have s0 : (W.alloc (.cells a 5)).heap.size = W.heap.size + 1 := by simp
  have b0 : Below W.heap.size W (W.alloc (.cells a 5)) := (Below.refl _ _).alloc (Nat.le_refl _) _
  have r1 := new_rw (W := W.alloc (.cells a 5)) (F := F 1) hb (by decide) (fun j hj => hF 1 j (by decide) hj) eb
  have r0 := rw_alloc r0 (.cells b 5)
  have b1 := b0.alloc (by omega) (.cells b 5)
  have s1 : ((W.alloc (.cells a 5)).alloc (.cells b 5)).heap.size = W.heap.size + 1 + 1 := by simp
  have r2 := new_rw (W := (W.alloc (.cells a 5)).alloc (.cells b 5)) (F := F 2) hc (by decide) (fun j hj => hF 2 j (by decide) hj) ec
  have r0 := rw_alloc r0 (.cells c 5)
  have r1 := rw_alloc r1 (.cells c 5)
  have b2 := b1.alloc (by omega) (.cells c 5)
  have s2 : (((W.alloc (.cells a 5)).alloc (.cells b 5)).alloc (.cells c 5)).heap.size = W.heap.size + 1 + 1 + 1 := by simp
  rw [s0] at r1
  rw [s1] at r2
  have hl : (lit3 W a b c).rowIs (W.heap.size + 1 + 1 + 1) 38 3 (fun i => .slice (some ⟨W.heap.size + i, 0, none⟩) 3 3) := by
    rw [← s2]
    refine ⟨_, heap_alloc_new _ _, rfl, fun i hi => ?_⟩
    match i, hi with
    | 0, _ => rfl
    | 1, _ => rfl
    | 2, _ => rfl
  have r0 := rw_alloc r0 (.cells #[.slice (some ⟨W.heap.size, 0, none⟩) 3 3, .slice (some ⟨W.heap.size + 1, 0, none⟩) 3 3, .slice (some ⟨W.heap.size + 1 + 1, 0, none⟩) 3 3] 38)
  have r1 := rw_alloc r1 (.cells #[.slice (some ⟨W.heap.size, 0, none⟩) 3 3, .slice (some ⟨W.heap.size + 1, 0, none⟩) 3 3, .slice (some ⟨W.heap.size + 1 + 1, 0, none⟩) 3 3] 38)
  have r2 := rw_alloc r2 (.cells #[.slice (some ⟨W.heap.size, 0, none⟩) 3 3, .slice (some ⟨W.heap.size + 1, 0, none⟩) 3 3, .slice (some ⟨W.heap.size + 1 + 1, 0, none⟩) 3 3] 38)
  have rows : ∀ i, i < 3 → Rw (lit3 W a b c) (W.heap.size + i) 3 (F i) := fun i hi => by
    match i, hi with
    | 0, _ => exact r0
    | 1, _ => exact r1
    | 2, _ => exact r2
  refine ⟨⟨fun i => .slice (some ⟨W.heap.size + i, 0, none⟩) 3 3, ⟨by decide, _, _, rfl, Nat.le_refl _, by decide, fun _ => ⟨_, _, rfl, ⟨hl.lt, fun h => h⟩, fun i hi => ?_⟩⟩, fun i hi => ?_⟩, b2.alloc (by omega) _⟩
  · rw [Nat.zero_add]; exact hl.cell hi
  · exact (rows i hi).re (Nat.le_refl _) (Nat.le_refl _) (rows i hi).1 (fun h => h)
/-- the answers of awake. -/
def awv : Nat → Nat → Nat := fun i j => ((([[1, 0, 0], [1, 1, 1], [1, 2, 4]] : List (List Nat)).getD i []).getD j 0)
theorem awv_all : ∀ i, i < 3 → ∀ j, j < 3 → vdm i j = awv i j ∧ awv i j < 256 := by decide +kernel
def awc : Nat → Nat → Nat := fun _ j => ([142, 244] : List Nat).getD j 0
theorem awc_all : ∀ i, i < 1 → ∀ j, j < 2 → cau 2 i j = awc i j ∧ awc i j < 256 := by decide +kernel
set_option maxHeartbeats 2000000 in
set_option maxRecDepth 100000 in
theorem awake10 (w : World) : Calls Try.prog 7 #[] w fun e w' => e = .returned (.bool true) ∧ Below w.heap.size w w' := by
  have c1 : Calls Try.prog 19 #[.int .i64 1, .int .i64 2] w fun e w' => ∃ v, e = .returned (.tuple #[v, .int .i64 0]) ∧ Ans w w' v 1 2 (cau 2) := cauchy10_yes 1 2 w (by decide) (by decide) (by decide)
  have c2 : Hid (∀ w1 v, Ans w w1 v 1 2 (cau 2) → Calls Try.prog 14 #[v, .slice (some ⟨w1.heap.size + 1, 0, none⟩) 1 1] ((w1.alloc (.cells #[.int .u8 142, .int .u8 244] 5)).alloc (.cells #[.slice (some ⟨w1.heap.size, 0, none⟩) 2 2] 38)) fun e w' => e = .returned (.bool true) ∧ Below w.heap.size w w') := fun w1 v hv => by
    obtain ⟨h1, h2⟩ := lit_row (W := w1) (cs := #[.int .u8 142, .int .u8 244]) (N := 2) (F := awc 0) rfl (by decide) (by decide) (fun i hi => (awc_all 0 (by decide) i hi).2) (fun i hi => by
      match i, hi with
      | 0, _ => rfl
      | 1, _ => rfl)
    refine (same10_true v _ 1 (fun _ => 2) (cau 2) (fun _ => awc 0) _ (hv.lb.below h2) h1 (fun r hr i hi => by
      obtain rfl : r = 0 := by omega
      exact (awc_all 0 (by decide) i hi).1)).mono ?_
    rintro e w' ⟨h3, q, rfl⟩
    exact ⟨h3, below_drewN (hv.2.trans (h2.mono hv.2.size)) q⟩
  have c3 : Hid (∀ w2, Below w.heap.size w w2 → Calls Try.prog 20 #[.int .i64 3, .int .i64 3] w2 fun e w' => ∃ v, e = .returned (.tuple #[v, .int .i64 0]) ∧ Below w.heap.size w w' ∧ Calls Try.prog 14 #[v, .slice (some ⟨w'.heap.size + 1 + 1 + 1, 0, none⟩) 3 3] (lit3 w' #[.int .u8 1, .int .u8 0, .int .u8 0] #[.int .u8 1, .int .u8 1, .int .u8 1] #[.int .u8 1, .int .u8 2, .int .u8 4]) fun e w' => e = .returned (.bool true) ∧ Below w.heap.size w w') := fun w2 hb => by
    refine Calls.mono (show Calls Try.prog 20 #[.int .i64 3, .int .i64 3] w2 fun e w' => ∃ v, e = .returned (.tuple #[v, .int .i64 0]) ∧ Ans w2 w' v 3 3 vdm from vander10_yes 3 3 w2 (by decide) (by decide) (by decide) (by decide)) ?_
    rintro e w3 ⟨v, rfl, hv⟩
    have hb3 := hb.trans (hv.2.mono hb.size)
    refine ⟨v, rfl, hb3, ?_⟩
    obtain ⟨h1, h2⟩ := lit3_lb (W := w3) (a := #[.int .u8 1, .int .u8 0, .int .u8 0]) (b := #[.int .u8 1, .int .u8 1, .int .u8 1]) (c := #[.int .u8 1, .int .u8 2, .int .u8 4]) (F := awv) rfl rfl rfl (fun i j hi hj => (awv_all i hi j hj).2) (fun i hi => by
      match i, hi with
      | 0, _ => rfl
      | 1, _ => rfl
      | 2, _ => rfl) (fun i hi => by
      match i, hi with
      | 0, _ => rfl
      | 1, _ => rfl
      | 2, _ => rfl) (fun i hi => by
      match i, hi with
      | 0, _ => rfl
      | 1, _ => rfl
      | 2, _ => rfl)
    refine (same10_true v _ 3 (fun _ => 3) vdm awv _ (hv.lb.below h2) h1 (fun r hr i hi => (awv_all r hr i hi).1)).mono ?_
    rintro e w' ⟨h3, q, rfl⟩
    exact ⟨h3, below_drewN (hb3.trans (h2.mono hb3.size)) q⟩
  go_enter Try.func7, Try.ntmps7
  go_wp2_with (first
    | (go_at_call 19; (with_reducible refine c1.mono ?_); rintro e w1 ⟨v, rfl, hA⟩; clear c1; have c2 := c2.out w1 v hA; clear hA)
    | (go_at_call 20; (with_reducible refine c3.mono ?_); rintro e w3 ⟨v3, rfl, -, c4⟩; unfold lit3 at c4; clear c3)
    | (go_at_call 14; first
      | ((with_reducible refine c2.mono ?_); rintro e w2 ⟨rfl, hB⟩; have c3 := c3.out w2 hB; clear c2 hB)
      | ((with_reducible refine c4.mono ?_); rintro e w5 ⟨rfl, hB⟩; have HB : Hid _ := hB; clear c4 hB)))
  go_ret
  exact ⟨rfl, HB.out⟩
end Go.Proofs.Ytdnhidachdjgaaa
