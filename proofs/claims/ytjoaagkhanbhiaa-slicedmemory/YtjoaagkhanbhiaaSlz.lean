import Derived.Test.YtjoaagkhanbhiaaSke
import Derived.Test.YtjoaagkhanbhiaaSkj
namespace Go.Proofs.Ytjoaagkhanbhiaa
open Go.RowKit Gf2
set_option linter.unusedVariables false

theorem scols_any (c : Nat) (w : World) (hc : c < 256) :
    Calls Try.prog 9 #[.int .u8 (c : Int)] w fun e w' => ∃ (b : Nat) (F : Nat → Nat), e = .returned (.slice (some ⟨b, 0, none⟩) 8 cC) ∧ w.heap.size ≤ b ∧ Rw w' b cC F ∧ (∀ i, i < 8 → F i = fm 285 c (2 ^ i)) ∧ Below w.heap.size w w' :=
  (scols7 c w hc).mono fun e w' ⟨h1, h2, h3⟩ => ⟨_, _, h1, Nat.le_refl _, h2, fun _ _ => rfl, h3⟩
theorem splanes_ok (v : Value) (S : Nat → Nat) (w : World) (hv : Rb w v 64 S) :
    Calls Try.prog 4 #[v] w fun e w' => ∃ (b : Nat) (F : Nat → Nat), e = .returned (.tuple #[.slice (some ⟨b, 0, none⟩) 8 pC, .int .i64 0]) ∧ w.heap.size ≤ b ∧ Rv w' b pC F ∧ (∀ i, i < 8 → F i = pln S i 64) ∧ Below w.heap.size w w' := by
  obtain ⟨x, cx, rfl⟩ : ∃ x cx, v = .slice x 64 cx := by obtain ⟨_, _, a, cap, h, _⟩ := hv; exact ⟨a, cap, h⟩
  exact (splanes7_ok x cx S w hv).mono fun e w' ⟨h1, h2, h3⟩ => ⟨_, _, h1, Nat.le_refl _, h2, fun _ _ => rfl, h3⟩
theorem splanes_lens (a : Option Addr) (n ca : Nat) (w : World) (hn : n ≠ 64) :
    Calls Try.prog 4 #[.slice a n ca] w fun e w' => ∃ x cx, e = .returned (.tuple #[.slice x 0 cx, .int .i64 6]) ∧ cx ≤ big ∧ Below w.heap.size w w' :=
  (splanes7_lens a n ca w hn).mono fun e w' ⟨h1, h2⟩ => ⟨_, _, h1, by decide, h2 ▸ Below.refl _ _⟩
theorem sblock_ok (v : Value) (S : Nat → Nat) (w : World) (hv : Rq w v 8 S) :
    Calls Try.prog 7 #[v] w fun e w' => ∃ (b : Nat) (F : Nat → Nat), e = .returned (.tuple #[.slice (some ⟨b, 0, none⟩) 64 bC, .int .i64 0]) ∧ w.heap.size ≤ b ∧ Rw w' b bC F ∧ (∀ i, i < 64 → F i = pln S i 8) ∧ Below w.heap.size w w' := by
  obtain ⟨x, cx, rfl⟩ : ∃ x cx, v = .slice x 8 cx := by obtain ⟨_, _, a, cap, h, _⟩ := hv; exact ⟨a, cap, h⟩
  exact (sblock7_ok x cx S w hv).mono fun e w' ⟨h1, h2, h3⟩ => ⟨_, _, h1, Nat.le_refl _, h2, fun _ _ => rfl, h3⟩
theorem sblock_lens (a : Option Addr) (n ca : Nat) (w : World) (hn : n ≠ 8) :
    Calls Try.prog 7 #[.slice a n ca] w fun e w' => ∃ x cx, e = .returned (.tuple #[.slice x 0 cx, .int .i64 6]) ∧ cx ≤ big ∧ Below w.heap.size w w' :=
  (sblock7_lens a n ca w hn).mono fun e w' ⟨h1, h2⟩ => ⟨_, _, h1, by decide, h2 ▸ Below.refl _ _⟩
end Go.Proofs.Ytjoaagkhanbhiaa
