import Derived.Test.YtefolifecbhgoaaGreatRows
import Derived.WalkKit
import Derived.WalkSpells
import Derived.WalkLawsBesides
import Derived.Maps.OwnSet
import Derived.Maps.Views
namespace Go.Proofs.YtefolifecbhgoaaGreat
open Go.RowKit Go.Maps
set_option linter.unusedVariables false

def ptrE : Value → Option (DataW Unit × List MemPlace)
  | .pointer none => some (.lit (.int .i64 (-1)), [])
  | .pointer (some ⟨g, 0, none⟩) => some (.lit (.int .i64 (g : Int)), [])
  | _ => none
def cd12 : Option Nat → DataW Unit
  | none => .lit (.int .i64 (-1))
  | some g => .lit (.int .i64 (g : Int))
def pv12 : Option Nat → Value
  | none => .pointer none
  | some g => .pointer (some ⟨g, 0, none⟩)
theorem ptrE_mk (o : Option Nat) : ptrE (pv12 o) = some (cd12 o, []) := by cases o <;> rfl
theorem ptrE_inv {v : Value} {o : Option Nat} {ps : List MemPlace} (h : ptrE v = some (cd12 o, ps)) : v = pv12 o := by
  unfold ptrE at h
  split at h
  · cases o with
    | none => rfl
    | some g => simp [cd12] at h
  · rename_i g
    cases o with
    | none => simp [cd12] at h
    | some g' =>
      simp [cd12] at h
      show _ = Value.pointer (some ⟨g', 0, none⟩)
      rw [Int.ofNat.inj h.1]
  · cases h
theorem law12 : Keyed Tryz.prog 3 := int_keyed Tryz.underlying3
theorem zero12 (w : World) : (zeroValue 111).run Tryz.prog w = .ok (.pointer none) w := by kernel_rfl
def Mp (w : World) (b n s : Nat) (M : Int → Option Nat) : Prop :=
  ∃ D, w.ownsMap Tryz.prog 3 ptrE b n D ∧ (∀ x, D.atKey (.int .i64 x) (cd12 none) = cd12 (M x)) ∧ (∀ x, Maps.has D (.int .i64 x) = (M x).isSome) ∧ Maps.size D = s
theorem Mp.lt {w : World} {b n s : Nat} {M : Int → Option Nat} (h : Mp w b n s M) : b < w.heap.size := by obtain ⟨D, h1, -⟩ := h; exact h1.lt
theorem Mp.of_block {w w' : World} {b n s : Nat} {M : Int → Option Nat} (h : Mp w b n s M) (e : w'.heap[b]? = w.heap[b]?) : Mp w' b n s M := by
  obtain ⟨D, ⟨es, clock, hb, F, hs, hD⟩, h2⟩ := h
  exact ⟨D, ⟨es, clock, e.trans hb, F, hs, hD⟩, h2⟩
theorem mp_made (w : World) : Mp (w.alloc (.map #[] 0)) w.heap.size 0 0 (fun _ => none) :=
  ⟨_, World.ownsMap_made w _ _ _, fun x => rfl, fun x => rfl, rfl⟩
theorem Mp.look {w : World} {b n s : Nat} {M : Int → Option Nat} (h : Mp w b n s M) {x : Int} (hx : (Lit.int .i64 x).wf = true) :
    (Instr.lookup 167 (.map (some b)) (.int .i64 x) false).run Tryz.prog w = .ok (pv12 (M x)) w := by
  obtain ⟨D, h1, h2, -⟩ := h
  obtain ⟨v, ps, hrun, hv⟩ := h1.lookup law12 Tryz.underlying167 (zero12 w) (ptrE_mk none) (keyOf_int_mk Tryz.underlying3 hx)
  rw [h2 x] at hv
  rw [hrun, ptrE_inv hv]
def upd12 (M : Int → Option Nat) (x : Int) (o : Option Nat) : Int → Option Nat := fun y => if y = x then o else M y
theorem ne12 {x y : Int} (h : ¬ y = x) : Lit.int IntKind.i64 y ≠ Lit.int IntKind.i64 x := fun e => h (by cases e; rfl)
theorem Mp.put {w : World} {b n s : Nat} {M : Int → Option Nat} (h : Mp w b n s M) {x : Int} (hx : (Lit.int .i64 x).wf = true) (g : Nat) (hn : n < maxLen) :
    ∃ w', (Instr.mapUpdate 167 (.map (some b)) (.int .i64 x) (.pointer (some ⟨g, 0, none⟩))).run Tryz.prog w = .ok () w' ∧ Mp w' b (n + 1) (if (M x).isSome then s else s + 1) (upd12 M x (some g)) ∧ w.mapTurned w' b := by
  obtain ⟨D, h1, h2, h3, h4⟩ := h
  obtain ⟨w', hrun, ho, ht⟩ := h1.store law12 Tryz.underlying167 hn (keyOf_int_mk Tryz.underlying3 hx) (ptrE_mk (some g))
  refine ⟨w', hrun, ⟨_, ho, fun y => ?_, fun y => ?_, ?_⟩, ht⟩
  · by_cases e : y = x
    · subst e
      rw [atKey_put_same h1.isMap (by trivial)]
      unfold upd12
      rw [if_pos rfl]
    · rw [atKey_put_other (ne12 e), h2]
      unfold upd12
      rw [if_neg e]
  · by_cases e : y = x
    · subst e
      rw [has_put_same h1.isMap (by trivial)]
      unfold upd12
      rw [if_pos rfl]
      rfl
    · rw [has_put_other (ne12 e), h3]
      unfold upd12
      rw [if_neg e]
  · rw [size_put (h1.tidy law12), h3, h4]
theorem Mp.del {w : World} {b n s : Nat} {M : Int → Option Nat} (h : Mp w b n s M) {x : Int} (hx : (Lit.int .i64 x).wf = true) (ty : TypeId) :
    ∃ w', (Builtin.delete_ #[167, 3] ty #[.map (some b), .int .i64 x]).run Tryz.prog w = .ok (.tuple #[]) w' ∧ Mp w' b n (s - (if (M x).isSome then 1 else 0)) (upd12 M x none) ∧ w.mapTurned w' b := by
  obtain ⟨D, h1, h2, h3, h4⟩ := h
  obtain ⟨w', hrun, ho, ht⟩ := h1.drop law12 Tryz.underlying167 (keyOf_int_mk Tryz.underlying3 hx) ty
  refine ⟨w', hrun, ⟨_, ho, fun y => ?_, fun y => ?_, ?_⟩, ht⟩
  · by_cases e : y = x
    · subst e
      rw [atKey_del_same]
      unfold upd12
      rw [if_pos rfl]
    · rw [atKey_del_other (ne12 e), h2]
      unfold upd12
      rw [if_neg e]
  · by_cases e : y = x
    · subst e
      rw [has_del_same]
      unfold upd12
      rw [if_pos rfl]
      rfl
    · rw [has_del_other (ne12 e), h3]
      unfold upd12
      rw [if_neg e]
  · have := size_del (k := Lit.int IntKind.i64 x) (h1.tidy law12)
    rw [h3, h4] at this
    omega
theorem Mp.len {w : World} {b n s : Nat} {M : Int → Option Nat} (h : Mp w b n s M) (ty : TypeId) : (Builtin.len_ #[167] ty #[.map (some b)]).run Tryz.prog w = .ok (.int .i64 (s : Int)) w := by
  obtain ⟨D, h1, -, -, h4⟩ := h
  rw [h1.len Tryz.underlying167 ty, h4]
end Go.Proofs.YtefolifecbhgoaaGreat
