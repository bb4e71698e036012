import Derived.Test.YtjoaagkhanbhiaaSbc
namespace Go.Proofs.Ytjoaagkhanbhiaa
open Go.RowKit Gf2
set_option linter.unusedVariables false

theorem Rv.below {w w' : World} {g N : Nat} {F : Nat → Nat} (h : Rv w g N F) (hb : Below w.heap.size w w') : Rv w' g N F := ⟨h.1, h.2.1, h.2.2.of_block (hb.block g h.2.2.lt)⟩
theorem Rv.kp {w w' : World} {g k N : Nat} {F : Nat → Nat} (h : Rv w g N F) (hk : Kp k w w') (hne : g ≠ k) : Rv w' g N F := ⟨h.1, h.2.1, h.2.2.of_block (hk.2 g h.2.2.lt hne)⟩
theorem Rv.drewN {w : World} {g N : Nat} {F : Nat → Nat} (h : Rv w g N F) (m : Nat) : Rv (w.drewN m) g N F := ⟨h.1, h.2.1, h.2.2.of_block rfl⟩
theorem Rv.rq {w : World} {g N n cap : Nat} {F T : Nat → Nat} (h : Rv w g N F) (hn : n ≤ N) (hc : n ≤ cap) (hc2 : cap ≤ big) (e : ∀ i, i < n → F i = T i) : Rq w (.slice (some ⟨g, 0, none⟩) n cap) n T :=
  ⟨by have := h.1; omega, fun i hi => by rw [← e i hi]; exact h.2.1 i (by omega), _, _, rfl, hc, hc2, fun _ => ⟨g, 0, rfl, h.2.2.lt, fun i hi => by rw [Nat.zero_add, ← e i hi]; exact h.2.2.cell (by omega)⟩⟩
theorem Rq.below {w w' : World} {v : Value} {n : Nat} {F : Nat → Nat} (h : Rq w v n F) (hb : Below w.heap.size w w') : Rq w' v n F := by
  obtain ⟨h1, h2, a, cap, h3, h5, h6, h4⟩ := h
  refine ⟨h1, h2, a, cap, h3, h5, h6, fun h0 => ?_⟩
  obtain ⟨b, o, e, hl, hc⟩ := h4 h0
  exact ⟨b, o, e, Nat.lt_of_lt_of_le hl hb.size, fun i hi => (hb.cell (p := ⟨b, o + i, none⟩) hl).trans (hc i hi)⟩
/-- sixty-four bytes as an array. -/
def a64 (S : Nat → Nat) : Array Value := ((List.range 64).map fun i => Value.int .u8 ((S i : Nat) : Int)).toArray
theorem a64_size (S : Nat → Nat) : (a64 S).size = 64 := by simp [a64]
theorem a64_get (S : Nat → Nat) {i : Nat} (h : i < 64) : (a64 S)[i]? = some (.int .u8 ((S i : Nat) : Int)) := by simp [a64, h]
/-- an array that was boxed reads as a list. -/
theorem a64_rb {w : World} {g : Nat} {t : TypeId} {S : Nat → Nat} (h : w.heap[g]? = some (.cells (a64 S) t (0, 0))) (hS : ∀ i, i < 64 → S i < 256) : Rb w (.slice (some ⟨g, 0, none⟩) 64 64) 64 S :=
  ⟨by decide, hS, _, _, rfl, Nat.le_refl _, by decide, fun _ => ⟨g, 0, rfl, (Array.getElem?_eq_some_iff.1 h).1, fun i hi => by rw [Nat.zero_add, cell_of_row w g i _ _ _ h, a64_get S hi]⟩⟩
theorem sk_at {W W' : World} {p : Addr} {lo hi B : Nat} (h : Sk W p lo hi) (hb : Below B W W') (hB : hi ≤ B) : Sk W' p lo hi :=
  h.keep (Nat.le_trans h.hi hb.size) (fun b h1 h2 => hb.block b (by omega))
/-- a row's beginning as a list. -/
theorem head7 {w : World} {g N n : Nat} {F T : Nat → Nat} (hr : Rw w g N F) (hn : n ≤ N) (e : ∀ i, i < n → F i = T i) : Rb w (.slice (some ⟨g, 0, none⟩) n N) n T :=
  (hr.rb (o := 0) (n := n) (cap := N) (by omega) hn hr.1).congr (fun i hi => by rw [Nat.zero_add]; exact e i hi)
/-- a row's piece, apart from another block. -/
theorem far7 {w : World} {h N o n g : Nat} {F S : Nat → Nat} (hr : Rw w h N F) (hne : h ≠ g) (hn : o + n ≤ N) (e : ∀ i, i < n → F (o + i) = S i) : Fk w g n (some ⟨h, o, none⟩) S :=
  ⟨fun i hi => by rw [← e i hi]; exact hr.2.1 _ (by omega), fun h0 => ⟨h, o, rfl, hne, hr.lt, fun i hi => by rw [← e i hi]; exact hr.2.2.cell (i := o + i) (by omega)⟩⟩
end Go.Proofs.Ytjoaagkhanbhiaa
