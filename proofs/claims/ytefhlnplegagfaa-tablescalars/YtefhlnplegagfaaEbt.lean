import Derived.Test.YtefhlnplegagfaaEbn
import Derived.Test.YtefhlnplegagfaaEbr
import Derived.Test.YtefhlnplegagfaaEbs
namespace Go.Proofs.Ytefhlnplegagfaa
open Go.RowKit Gf2
set_option linter.unusedVariables false

/-- a step of a script, as a value. -/
def opv (kind : Int) (c b : Nat) (xd : Option Addr) (nd cd : Nat) (xs : Option Addr) (ns cs : Nat) (same nil : Bool) (ahead behind : Int) : Array Value :=
  #[.int .i64 kind, .int .u8 (c : Int), .int .u8 (b : Int), .slice xd nd cd, .slice xs ns cs, .bool same, .bool nil, .int .i64 ahead, .int .i64 behind]

/-- the step in its box, and the two arrays laid. -/
def SX (w W : World) (box : Array Value) (gS NS gD ND : Nat) (FS FD : Nat → Nat) : Prop :=
  Below w.heap.size w W ∧ W.heap[w.heap.size]? = some (.cells box 43 (0, 0)) ∧ w.heap.size < gS ∧ gS < gD ∧ Rw W gS NS FS ∧ Rw W gD ND FD
theorem SX.cell {w W : World} {box : Array Value} {gS NS gD ND : Nat} {FS FD : Nat → Nat} (h : SX w W box gS NS gD ND FS FD) (i : Nat) {v : Value} (hv : box[i]? = some v) : W.cell? ⟨w.heap.size, i, none⟩ = some v := by
  rw [cell_of_row W w.heap.size i box _ _ h.2.1]; exact hv
theorem SX.cells {w W : World} {kind : Int} {c b : Nat} {xd : Option Addr} {nd cd : Nat} {xs : Option Addr} {ns cs : Nat} {same nil : Bool} {ahead behind : Int} {gS NS gD ND : Nat} {FS FD : Nat → Nat} (h : SX w W (opv kind c b xd nd cd xs ns cs same nil ahead behind) gS NS gD ND FS FD) :
    W.cell? ⟨w.heap.size, 0, none⟩ = some (.int .i64 kind) ∧ W.cell? ⟨w.heap.size, 1, none⟩ = some (.int .u8 (c : Int)) ∧ W.cell? ⟨w.heap.size, 3, none⟩ = some (.slice xd nd cd) ∧ W.cell? ⟨w.heap.size, 4, none⟩ = some (.slice xs ns cs) ∧
    W.cell? ⟨w.heap.size, 5, none⟩ = some (.bool same) ∧ W.cell? ⟨w.heap.size, 7, none⟩ = some (.int .i64 ahead) ∧ W.cell? ⟨w.heap.size, 8, none⟩ = some (.int .i64 behind) :=
  ⟨h.cell 0 rfl, h.cell 1 rfl, h.cell 3 rfl, h.cell 4 rfl, h.cell 5 rfl, h.cell 7 rfl, h.cell 8 rfl⟩
theorem SX.below {w W W' : World} {box : Array Value} {gS NS gD ND : Nat} {FS FD : Nat → Nat} (h : SX w W box gS NS gD ND FS FD) (hb : Below W.heap.size W W') : SX w W' box gS NS gD ND FS FD := by
  obtain ⟨h1, h2, h3, h4, h5, h6⟩ := h
  have l5 := h5.lt
  refine ⟨h1.trans (hb.mono h1.size), (hb.block _ (by omega)).trans h2, h3, h4, rw_below h5 hb, rw_below h6 hb⟩
theorem SX.drewN {w W : World} {box : Array Value} {gS NS gD ND : Nat} {FS FD : Nat → Nat} (h : SX w W box gS NS gD ND FS FD) (m : Nat) : SX w (W.drewN m) box gS NS gD ND FS FD := ⟨below_drewN h.1 m, h.2.1, h.2.2.1, h.2.2.2.1, h.2.2.2.2.1.drewN m, h.2.2.2.2.2.drewN m⟩
theorem SX.turnD {w W W' : World} {box : Array Value} {gS NS gD ND : Nat} {FS FD FD' : Nat → Nat} (h : SX w W box gS NS gD ND FS FD) (ho : Only gD W W') (hr : Rw W' gD ND FD') : SX w W' box gS NS gD ND FS FD' := by
  obtain ⟨h1, h2, h3, h4, h5, h6⟩ := h
  exact ⟨h1.trans (ho.below (by omega)), (ho.2.2 _ (by omega)).trans h2, h3, h4, ho.rw_ h5 (by omega), hr⟩
theorem SX.turnS {w W W' : World} {box : Array Value} {gS NS gD ND : Nat} {FS FD FS' : Nat → Nat} (h : SX w W box gS NS gD ND FS FD) (ho : Only gS W W') (hr : Rw W' gS NS FS') : SX w W' box gS NS gD ND FS' FD := by
  obtain ⟨h1, h2, h3, h4, h5, h6⟩ := h
  exact ⟨h1.trans (ho.below (by omega)), (ho.2.2 _ (by omega)).trans h2, h3, h4, hr, ho.rw_ h6 (by omega)⟩
theorem rb_at {W : World} {g o N n cap : Nat} {a : Option Addr} {F S : Nat → Nat} (h : Rw W g N F) (ha : 0 < n → a = some ⟨g, o, none⟩) (hn : o + n ≤ N) (hc : n ≤ cap) (hc2 : cap ≤ big) (e : ∀ i, i < n → F (o + i) = S i) : Rb W (.slice a n cap) n S := by
  by_cases h0 : 0 < n
  · rw [ha h0]; exact (h.rb hn hc hc2).congr e
  · exact ⟨by omega, fun i hi => absurd hi (by omega), _, _, rfl, hc, hc2, fun h => absurd h h0⟩
theorem far_at {W : World} {g k o N n : Nat} {a : Option Addr} {F S : Nat → Nat} (h : Rw W k N F) (hne : k ≠ g) (ha : 0 < n → a = some ⟨k, o, none⟩) (hn : o + n ≤ N) (e : ∀ i, i < n → F (o + i) = S i) : Far W g n a S := by
  refine ⟨fun i hi => by rw [← e i hi]; exact h.2.1 _ (by omega), fun h0 => ⟨k, o, ha h0, hne, fun i hi => ?_⟩⟩
  rw [← e i hi]
  exact h.2.2.cell (i := o + i) (by omega)

/-- laid, in letters. -/
theorem laid_l (x : Option Addr) (n cx : Nat) (S : Nat → Nat) (ahead behind : Int) (M N C p : Nat) (w : World) (h : Rb w (.slice x n cx) n S) (hn : n ≤ 140737488351232) (hM : M < 256) (hp : p = rm ahead) (hN : N = rm ahead + n + rm behind) (hC : C = n + rm behind) :
    Calls Try.prog 36 #[.slice x n cx, .int .i64 ahead, .int .i64 behind, .int .u8 (M : Int)] w fun e w' =>
      ∃ a, e = .returned (.tuple #[.slice (some ⟨w.heap.size, 0, none⟩) N N, .slice a n C]) ∧ (0 < n → a = some ⟨w.heap.size, p, none⟩) ∧ Rw w' w.heap.size N (pl (mk8 M) p n S) ∧ Below w.heap.size w w' ∧ w'.heap.size = w.heap.size + 1 := by
  refine (laid5_any (.slice x n cx) n S ahead behind M w h (by omega) hM).mono fun e w' ⟨⟨a, h1, h2⟩, h3, h4, h5⟩ => ?_
  subst hp hN hC
  exact ⟨a, h1, h2, h3, h4, h5⟩

/-- what is behind both arrays' laying. -/
theorem SX.mk {w w0 w1 w2 : World} {box : Array Value} {NS ND : Nat} {FS FD : Nat → Nat} (e0 : w0 = w.alloc (.cells box 43)) (r1 : Rw w1 w0.heap.size NS FS) (b1 : Below w0.heap.size w0 w1) (s1 : w1.heap.size = w0.heap.size + 1) (r2 : Rw w2 w1.heap.size ND FD) (b2 : Below w1.heap.size w1 w2) :
    SX w w2 box w0.heap.size NS w1.heap.size ND FS FD := by
  have s0 : w0.heap.size = w.heap.size + 1 := by rw [e0]; simp
  have b0 : Below w.heap.size w w0 := by rw [e0]; exact (Below.refl _ _).alloc (Nat.le_refl _) _
  have q0 : w0.heap[w.heap.size]? = some (.cells box 43 (0, 0)) := by rw [e0]; exact heap_alloc_new _ _
  refine ⟨(b0.trans (b1.mono (by omega))).trans (b2.mono (by omega)), ((b2.block _ (by omega)).trans (b1.block _ (by omega))).trans q0, by omega, by omega, rw_below r1 b2, r2⟩
theorem SX.mk2 {w w1 w2 : World} {box : Array Value} {NS ND : Nat} {FS FD : Nat → Nat} (r1 : Rw w1 (w.heap.size + 1) NS FS) (b1 : Below (w.heap.size + 1) (w.alloc (.cells box 43)) w1) (s1 : w1.heap.size = w.heap.size + 1 + 1) (r2 : Rw w2 w1.heap.size ND FD) (b2 : Below w1.heap.size w1 w2) :
    SX w w2 box (w.heap.size + 1) NS w1.heap.size ND FS FD := by
  have s0 : (w.alloc (.cells box 43)).heap.size = w.heap.size + 1 := by simp
  have := SX.mk (w := w) (box := box) rfl (by rw [s0]; exact r1) (by rw [s0]; exact b1) (by rw [s0]; exact s1) r2 b2
  rw [s0] at this
  exact this
end Go.Proofs.Ytefhlnplegagfaa
