import Derived.Test.YtehbiccpbopkfaaDoorFfac
import Derived.Below
import Derived.Deep.OwnRows
import Derived.Laws.CopyOwn
import Derived.Deep.WholeRow
import Derived.Deep.QuietTactic
import Derived.BigQuiet
namespace Go.Proofs.YtehbiccpbopkfaaDoor
open Go.RowKit Gf2
set_option linter.unusedVariables false

/-- the greatest length. -/
def big : Nat := 9223372036854775807
/-- bytes behind a slice value. -/
def Rb (w : World) (v : Value) (n : Nat) (F : Nat → Nat) : Prop := n ≤ big ∧ (∀ i, i < n → F i < 256) ∧
  ∃ a cap, v = .slice a n cap ∧ n ≤ cap ∧ cap ≤ big ∧ (0 < n → ∃ b o, a = some ⟨b, o, none⟩ ∧ b < w.heap.size ∧ ∀ i, i < n → w.cell? ⟨b, o + i, none⟩ = some (.int .u8 (F i : Nat)))
/-- bytes in a row of its own. -/
def Rw (w : World) (g N : Nat) (F : Nat → Nat) : Prop := N ≤ big ∧ (∀ i, i < N → F i < 256) ∧ w.rowIs g 5 N (fun i => .int .u8 (F i : Nat))

theorem Rb.of {w w' : World} {v : Value} {n : Nat} {F : Nat → Nat} (h : Rb w v n F) (hs : w.heap.size ≤ w'.heap.size) (hc : ∀ b, b < w.heap.size → w'.heap[b]? = w.heap[b]?) : Rb w' v n F := by
  obtain ⟨h1, h2, a, cap, h3, h5, h6, h4⟩ := h
  refine ⟨h1, h2, a, cap, h3, h5, h6, fun h0 => ?_⟩
  obtain ⟨b, o, e, hl, hc'⟩ := h4 h0
  refine ⟨b, o, e, Nat.lt_of_lt_of_le hl hs, fun i hi => ?_⟩
  rw [← hc' i hi]
  unfold World.cell?
  rw [hc b hl]
theorem Rb.below {w w' : World} {v : Value} {n : Nat} {F : Nat → Nat} (h : Rb w v n F) (hb : Below w.heap.size w w') : Rb w' v n F := by
  obtain ⟨h1, h2, a, cap, h3, h5, h6, h4⟩ := h
  refine ⟨h1, h2, a, cap, h3, h5, h6, fun h0 => ?_⟩
  obtain ⟨b, o, e, hl, hc⟩ := h4 h0
  exact ⟨b, o, e, Nat.lt_of_lt_of_le hl hb.size, fun i hi => (hb.cell (p := ⟨b, o + i, none⟩) hl).trans (hc i hi)⟩
theorem Rb.drewN {w : World} {v : Value} {n : Nat} {F : Nat → Nat} (h : Rb w v n F) (m : Nat) : Rb (w.drewN m) v n F := h
theorem Rb.congr {w : World} {v : Value} {n : Nat} {F G : Nat → Nat} (h : Rb w v n F) (e : ∀ i, i < n → F i = G i) : Rb w v n G := by
  obtain ⟨h1, h2, a, cap, h3, h5, h6, h4⟩ := h
  refine ⟨h1, fun i hi => by rw [← e i hi]; exact h2 i hi, a, cap, h3, h5, h6, fun h0 => ?_⟩
  obtain ⟨b, o, e', hl, hc⟩ := h4 h0
  exact ⟨b, o, e', hl, fun i hi => by rw [← e i hi]; exact hc i hi⟩
theorem Rw.rb {w : World} {g N o n cap : Nat} {F : Nat → Nat} (h : Rw w g N F) (hn : o + n ≤ N) (hc : n ≤ cap) (hc2 : cap ≤ big) : Rb w (.slice (some ⟨g, o, none⟩) n cap) n (fun i => F (o + i)) := by
  obtain ⟨h1, h2, h3⟩ := h
  exact ⟨by omega, fun i hi => h2 _ (by omega), _, _, rfl, hc, hc2, fun _ => ⟨g, o, rfl, h3.lt, fun i hi => h3.cell (i := o + i) (by omega)⟩⟩
theorem Rw.rb0 {w : World} {g N : Nat} {F : Nat → Nat} (h : Rw w g N F) : Rb w (.slice (some ⟨g, 0, none⟩) N N) N F := by
  have h1 := h.1
  exact (h.rb (o := 0) (n := N) (cap := N) (by omega) (Nat.le_refl _) (by omega)).congr (fun i _ => by rw [Nat.zero_add])
theorem Rw.lt {w : World} {g N : Nat} {F : Nat → Nat} (h : Rw w g N F) : g < w.heap.size := h.2.2.lt
theorem Rw.of_block {w w' : World} {g N : Nat} {F : Nat → Nat} (h : Rw w g N F) (e : w'.heap[g]? = w.heap[g]?) : Rw w' g N F := ⟨h.1, h.2.1, h.2.2.of_block e⟩
theorem Rw.drewN {w : World} {g N : Nat} {F : Nat → Nat} (h : Rw w g N F) (m : Nat) : Rw (w.drewN m) g N F := h
theorem Rw.congr {w : World} {g N : Nat} {F G : Nat → Nat} (h : Rw w g N F) (e : ∀ i, i < N → F i = G i) : Rw w g N G :=
  ⟨h.1, fun i hi => by rw [← e i hi]; exact h.2.1 i hi, h.2.2.congr (fun i hi => by rw [e i hi])⟩

/-- nothing but block g has turned, and nothing is new. -/
def Only (g : Nat) (w w' : World) : Prop := Below 0 w w' ∧ w'.heap.size = w.heap.size ∧ ∀ b, b ≠ g → w'.heap[b]? = w.heap[b]?

theorem wrap_succ8 {j : Nat} (h : j < big) : wrap64 ((j : Int) + 1) = (j : Int) + 1 := by unfold big at h; unfold wrap64; omega
theorem meas_lt8 {l k : Nat} (h : k < l) : l - (intOf (Value.int .i64 ((k : Int) + 1))).toNat < l - (intOf (Value.int .i64 (k : Int))).toNat := by
  simp [intOf]; omega

theorem info_u8m : (Tryd.prog.info? 5).map (fun i => (i.zero, i.size, i.bytes)) = some (some (Value.int .u8 0), 1, 1) := by kernel_rfl
theorem info_u8s : (Tryd.prog.info? 5).map (·.size) = some 1 := by kernel_rfl
theorem make_u8 (n : Nat) (hn : n ≤ 140737488355328) (w : World) : (Instr.makeSlice 27 (.int .i64 (n : Int)) (.int .i64 (n : Int))).run Tryd.prog w = .ok (.slice (some ⟨w.heap.size, 0, none⟩) n n) (w.alloc (.cells (madeCells #[.int .u8 0] n) 5)) :=
  run_make_row' (P := Tryd.prog) 27 5 (.int .u8 0) 1 Tryd.underlying27 info_u8m rfl .i64 .i64 n (by omega) (by omega) w
theorem made_rw (n : Nat) (hn : n ≤ 140737488355328) (w : World) : Rw (w.alloc (.cells (madeCells #[.int .u8 0] n) 5)) w.heap.size n (fun _ => 0) :=
  ⟨by unfold big; omega, fun _ _ => Nat.zero_lt_succ _, World.rowIs_made w (.int .u8 0) n 5⟩

end Go.Proofs.YtehbiccpbopkfaaDoor
