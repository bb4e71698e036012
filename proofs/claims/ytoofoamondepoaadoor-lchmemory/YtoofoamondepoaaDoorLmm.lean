import Derived.Test.YtoofoamondepoaaDoorLar
import Derived.Test.YtoofoamondepoaaDoorLtb
import Derived.Test.YtoofoamondepoaaDoorLev
namespace Go.Proofs.YtoofoamondepoaaDoor
open Go.RowKit Gf2
set_option linter.unusedVariables false

set_option maxHeartbeats 2000000 in
set_option maxRecDepth 100000 in
theorem asked13_7 (v u : Value) (er : Int) (w : World) (Q : World → Prop) (c1 : Calls Tryd.prog 9 #[v] w fun e w' => e = .returned (.tuple #[u, .int .i64 er]) ∧ Q w') :
    Calls Tryd.prog 21 #[.int .i64 7, v] w fun e w' => e = .returned (.tuple #[u, .int .i64 er]) ∧ Q w' := by
  go_enter Tryd.func21, Tryd.ntmps21
  go_wp2_with (go_at_call 9; ((with_reducible refine (c1).mono ?_); (rintro e w9 ⟨rfl, hq⟩)))
  go_ret2
  exact ⟨rfl, hq⟩
set_option maxHeartbeats 2000000 in
set_option maxRecDepth 100000 in
theorem asked13_8 (v u : Value) (er : Int) (w : World) (Q : World → Prop) (c1 : Calls Tryd.prog 10 #[v] w fun e w' => e = .returned (.tuple #[u, .int .i64 er]) ∧ Q w') :
    Calls Tryd.prog 21 #[.int .i64 8, v] w fun e w' => e = .returned (.tuple #[u, .int .i64 er]) ∧ Q w' := by
  go_enter Tryd.func21, Tryd.ntmps21
  go_wp2_with (go_at_call 10; ((with_reducible refine (c1).mono ?_); (rintro e w9 ⟨rfl, hq⟩)))
  go_ret2
  exact ⟨rfl, hq⟩
theorem gv_row {w W : World} {g n : Nat} {T : Nat → Nat} (hb : Below w.heap.size w W) (hg : w.heap.size ≤ g) (h : R6 W g n T) : Gv w W (.slice (some ⟨g, 0, none⟩) n n) n T := ⟨hb, .inr ⟨g, n, T, rfl, Nat.le_refl _, hg, h, fun _ _ => rfl⟩⟩
theorem gv_none (w : World) (T : Nat → Nat) : Gv w w (.slice none 0 0) 0 T := Gv.start w T
/-- what asked answers: as long, the same words and the same error, whenever the list holds the same. -/
theorem asked13 (kind : Int) (n : Nat) (F : Nat → Nat) (hk : 6 ≤ kind ∧ kind ≤ 8) (hn : n ≤ 300) :
    ∃ (m : Nat) (T : Nat → Nat) (er : Int), m ≤ 300 ∧ ∀ (W : World) (v : Value), Q6 W v n F → Tzt W → Calls Tryd.prog 21 #[.int .i64 kind, v] W fun e w' => ∃ A, e = .returned (.tuple #[A, .int .i64 er]) ∧ Gv W w' A m T := by
  have h16 : ∀ k, n = 2 ^ k → k ≤ 16 := fun k h => by
    apply Decidable.byContradiction
    intro h9
    have : 2 ^ 17 ≤ 2 ^ k := Nat.pow_le_pow_right (by decide) (by omega)
    omega
  by_cases h6 : kind = 6
  · subst h6
    by_cases hp : pw2 n 65536
    · obtain ⟨k, hk1, hk2⟩ := hp
      exact ⟨n, dvs k F, 0, hn, fun W v hq hT => (asked13_6 _ _ _ _ _ (derivative13_yes v k n F hk1 (h16 k hk1) W hq hT)).mono fun e w' ⟨he, h1, h2⟩ => ⟨_, he, gv_row h2 (Nat.le_refl _) h1⟩⟩
    · exact ⟨0, fun _ => 0, 130, by omega, fun W v hq hT => (asked13_6 _ _ _ _ _ (derivative13_no v n F W hq hp)).mono fun e w' ⟨he, h1⟩ => ⟨_, he, by rw [h1]; exact gv_none _ _⟩⟩
  · by_cases h7 : kind = 7
    · subst h7
      by_cases hp : pw2 n 256
      · obtain ⟨k, hk1, hk2⟩ := hp
        exact ⟨n, tol n k F, 0, hn, fun W v hq hT => (asked13_7 _ _ _ _ _ (tomono13_yes v k n F hk1 hk2 W hq hT)).mono fun e w' ⟨he, h1, h2⟩ => ⟨_, he, gv_row h2 (Nat.le_refl _) h1⟩⟩
      · exact ⟨0, fun _ => 0, 130, by omega, fun W v hq hT => (asked13_7 _ _ _ _ _ (tomono13_no v n F W hq hp)).mono fun e w' ⟨he, h1⟩ => ⟨_, he, by rw [h1]; exact gv_none _ _⟩⟩
    · obtain rfl : kind = 8 := by omega
      by_cases hp : pw2 n 256
      · obtain ⟨k, hk1, hk2⟩ := hp
        exact ⟨n, fol n k k F, 0, hn, fun W v hq hT => (asked13_8 _ _ _ _ _ (frommono13_yes v k n F hk1 hk2 W hq hT)).mono fun e w' ⟨he, h1, h2⟩ => ⟨_, he, gv_row h2 (Nat.le_refl _) h1⟩⟩
      · exact ⟨0, fun _ => 0, 130, by omega, fun W v hq hT => (asked13_8 _ _ _ _ _ (frommono13_no v n F W hq hp)).mono fun e w' ⟨he, h1⟩ => ⟨_, he, by rw [h1]; exact gv_none _ _⟩⟩
/-- a list of its own, apart from block g. -/
def Lst (w X : World) (g : Nat) (v : Value) (m : Nat) (T : Nat → Nat) : Prop := Gv w X v m T ∧ ¬ In13 v g
theorem Lst.kp {w X Y : World} {g m : Nat} {v : Value} {T : Nat → Nat} (h : Lst w X g v m T) (hk : Kp g X Y) (hb : Below w.heap.size w Y) : Lst w Y g v m T :=
  ⟨h.1.keep hb (fun b hi => hk.2 b (h.1.lt13 hi) (fun e => h.2 (by rw [← e]; exact hi))), h.2⟩
/-- a new one. -/
theorem lst_new {w X Y : World} {g m : Nat} {v : Value} {T : Nat → Nat} (hw : Below w.heap.size w X) (hg : g < X.heap.size) (h : Gv X Y v m T) : Lst w Y g v m T ∧ (∀ b, In13 v b → X.heap.size ≤ b) ∧ Kp g X Y ∧ Below w.heap.size w Y := by
  have hlo : ∀ b, In13 v b → X.heap.size ≤ b := fun b hi => by obtain ⟨C, F, -, -, h3, -, -⟩ := h.own hi; exact h3
  have hb : Below w.heap.size w Y := bthen13 hw h.1
  refine ⟨⟨⟨hb, ?_⟩, fun hi => by have := hlo g hi; omega⟩, hlo, kp_below h.1 g, hb⟩
  rcases h.2 with h2 | ⟨k, C, F, a1, a2, a3, a4, a5⟩
  · exact .inl h2
  · exact .inr ⟨k, C, F, a1, a2, Nat.le_trans hw.size a3, a4, a5⟩
theorem Lst.q6 {w X : World} {g m : Nat} {v : Value} {T : Nat → Nat} (h : Lst w X g v m T) : Q6 X v m T := h.1.rb
theorem dif_ages {w X : World} {g m : Nat} {v u : Value} {T : Nat → Nat} (h : Lst w X g v m T) (hu : ∀ b, In13 u b → X.heap.size ≤ b) : Dif v u := dif_of (fun b h1 h2 => by have := h.1.lt13 h1; have := hu b h2; omega)
/-- the whole list in its block. -/
structure Whl (w X : World) (g C n : Nat) (G : Nat → Nat) : Prop where
  bel : Below w.heap.size w X
  lo : w.heap.size ≤ g
  row : R6 X g C G
  le : n + 8 ≤ C
theorem Whl.q8 {w X : World} {g C n : Nat} {G : Nat → Nat} (h : Whl w X g C n G) : Q6 X (.slice (some ⟨g, 0, none⟩) (n + 8) C) (n + 8) G := h.row.q6 h.le h.le h.row.1 (fun _ _ => rfl)
theorem Whl.q {w X : World} {g C n : Nat} {G : Nat → Nat} (h : Whl w X g C n G) : Q6 X (.slice (some ⟨g, 0, none⟩) n C) n G := by
  have := h.le
  exact h.row.q6 (by omega) (by omega) h.row.1 (fun _ _ => rfl)
theorem Whl.below {w X Y : World} {g C n : Nat} {G : Nat → Nat} (h : Whl w X g C n G) (hb : Below X.heap.size X Y) : Whl w Y g C n G := ⟨bthen13 h.bel hb, h.lo, h.row.below hb, h.le⟩
theorem Whl.lt {w X : World} {g C n : Nat} {G : Nat → Nat} (h : Whl w X g C n G) : g < X.heap.size := h.row.lt
end Go.Proofs.YtoofoamondepoaaDoor
