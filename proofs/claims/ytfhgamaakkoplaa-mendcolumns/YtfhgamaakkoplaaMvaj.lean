import Derived.Test.YtfhgamaakkoplaaMvah
import Derived.StillTail
namespace Go.Proofs.Ytfhgamaakkoplaa
open Go.RowKit Gf2
set_option linter.unusedVariables false

theorem region_tail8 {P : Program} {id : Nat} {Q : Exit → Act → World → Prop} {a : Act} {w : World} {l : List Oper} (n : Nat) (hm : P.follows .mixedOrders = true) (hB : Region.lexTailB .any l.toArray n = true)
    (h : wpStill P l.toArray w.drew (fun a' => wpList P l.toArray Q (l.drop n) a' w.drew) (l.take n) a) : (Code.region id l.toArray true).wp P Q a w := wp_region_still_tail n hm hB h

end Go.Proofs.Ytfhgamaakkoplaa
namespace Go.Proofs.Ytfhgamaakkoplaa
open Go.RowKit Gf2
set_option linter.unusedVariables false

theorem Rb.drop {w : World} {b o' n o cx : Nat} {S : Nat → Nat} (h : Rb w (.slice (some ⟨b, o', none⟩) n cx) n S) (ho : o ≤ n) : Rb w (.slice (some ⟨b, o' + o, none⟩) (n - o) (cx - o)) (n - o) (fun i => S (o + i)) := by
  obtain ⟨b1, b2, a, c', b3, b5, b6, b4⟩ := h
  cases b3
  refine ⟨by omega, fun i hi => b2 _ (by omega), _, _, rfl, by omega, by omega, fun h0 => ?_⟩
  obtain ⟨b', p', e, hl, hcl⟩ := b4 (by omega)
  cases e
  exact ⟨b, o' + o, rfl, hl, fun i hi => by rw [Nat.add_assoc]; exact hcl (o + i) (by omega)⟩
/-- a row that is written out. -/
theorem lit_rw (l : List Nat) (W : World) (hl : ∀ x ∈ l, x < 256) (hn : l.length ≤ 1000) : Rw (W.alloc (.cells (l.map (fun n : Nat => Value.int .u8 (n : Int))).toArray 5)) W.heap.size l.length (fun i => l.getD i 0) := by
  refine ⟨by unfold big; omega, fun i hi => ?_, _, heap_alloc_new _ _, by simp, fun i hi => ?_⟩
  · simp only [List.getD_eq_getElem?_getD, List.getElem?_eq_getElem hi, Option.getD_some]
    exact hl _ (List.getElem_mem _)
  · simp [List.getD_eq_getElem?_getD, hi]
theorem rw_below {W W' : World} {g N : Nat} {F : Nat → Nat} (h : Rw W g N F) (hb : Below W.heap.size W W') : Rw W' g N F := h.of_block (hb.block g h.lt)
theorem below_drewN {B : Nat} {W W' : World} (h : Below B W W') (m : Nat) : Below B W (W'.drewN m) := ⟨h.os, h.tape, h.output, h.size, h.block⟩

/-- how the list of src reads while block g turns: at place i it is rd F i, F what the row g holds. -/
def Reads (w : World) (g N n : Nat) (x : Option Addr) (rd : (Nat → Nat) → Nat → Nat) : Prop := ∃ h q, x = some ⟨h, q, none⟩ ∧ ∀ w' F, Only g w w' → Rw w' g N F → ∀ i, i < n → rd F i < 256 ∧ w'.cell? ⟨h, q + i, none⟩ = some (.int .u8 (rd F i : Nat))
/-- the row behind the first k places. -/
def goes (f : Nat → Nat → Nat) (o : Nat) (rd : (Nat → Nat) → Nat → Nat) (F : Nat → Nat) : Nat → Nat → Nat
  | 0, i => F i
  | k + 1, i => if i = o + k then f (goes f o rd F k (o + k)) (rd (goes f o rd F k) k) else goes f o rd F k i
/-- a list that lies apart from block g. -/
def Far (w : World) (g n : Nat) (x : Option Addr) (S : Nat → Nat) : Prop := (∀ i, i < n → S i < 256) ∧ (0 < n → ∃ h q, x = some ⟨h, q, none⟩ ∧ h ≠ g ∧ ∀ i, i < n → w.cell? ⟨h, q + i, none⟩ = some (.int .u8 (S i : Nat)))
theorem Far.reads {w : World} {g N n : Nat} {x : Option Addr} {S : Nat → Nat} (h : Far w g n x S) (h0 : 0 < n) : Reads w g N n x (fun _ => S) := by
  obtain ⟨b, q, e, hne, hc⟩ := h.2 h0
  refine ⟨b, q, e, fun w' F ho hr i hi => ⟨h.1 i hi, ?_⟩⟩
  rw [← hc i hi]
  unfold World.cell?
  rw [ho.2.2 b hne]
theorem Reads.row {w : World} {g N n q : Nat} {x : Option Addr} (e : x = some ⟨g, q, none⟩) (hq : q + n ≤ N) : Reads w g N n x (fun F i => F (q + i)) :=
  ⟨g, q, e, fun w' F ho hr i hi => ⟨hr.2.1 _ (by omega), hr.2.2.cell (i := q + i) (by omega)⟩⟩
/-- a list apart that can be read. -/
theorem Rb.far {w : World} {g n cap : Nat} {x : Option Addr} {S : Nat → Nat} (h : Rbb g w (.slice x n cap) n S) : Far w g n x S := by
  obtain ⟨h1, h2, a, c, h3, h5, h6, h4⟩ := h
  cases h3
  refine ⟨h2, fun h0 => ?_⟩
  obtain ⟨b, o, e, hl, -, hc⟩ := h4 h0
  exact ⟨b, o, e, by omega, hc⟩
theorem Rw.far {w : World} {g k N o n : Nat} {F : Nat → Nat} (h : Rw w k N F) (hne : k ≠ g) (hn : o + n ≤ N) : Far w g n (some ⟨k, o, none⟩) (fun i => F (o + i)) :=
  ⟨fun i hi => h.2.1 _ (by omega), fun _ => ⟨k, o, rfl, hne, fun i hi => h.2.2.cell (i := o + i) (by omega)⟩⟩
end Go.Proofs.Ytfhgamaakkoplaa
