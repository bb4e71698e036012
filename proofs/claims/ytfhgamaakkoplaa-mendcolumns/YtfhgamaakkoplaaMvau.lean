import Derived.Test.YtfhgamaakkoplaaMval
import Derived.Test.YtfhgamaakkoplaaMvae
import Derived.Test.YtfhgamaakkoplaaMvat
namespace Go.Proofs.Ytfhgamaakkoplaa
open Go.RowKit Gf2
set_option linter.unusedVariables false

section
variable {lo hi m k : Nat} {w w' : World} {v : Value} {B : Nat → Nat} {S T : Nat → Nat → Nat}
end
/-- a matrix has form. -/
def Fm (m : Nat) (n : Nat → Nat) : Prop := 1 ≤ m ∧ m ≤ 256 ∧ 1 ≤ n 0 ∧ n 0 ≤ 512 ∧ ∀ i, i < m → n i = n 0

end Go.Proofs.Ytfhgamaakkoplaa
namespace Go.Proofs.Ytfhgamaakkoplaa
open Go.RowKit Gf2
set_option linter.unusedVariables false

set_option maxHeartbeats 2000000 in
set_option maxRecDepth 100000 in
theorem rcheck10 (v : Value) (m : Nat) (n : Nat → Nat) (S : Nat → Nat → Nat) (w : World) (h : Lb w v m n S) :
    Calls Try.prog 59 #[v] w fun e w' => (∃ e0 : Nat, e = .returned (.int .i64 (e0 : Nat)) ∧ (e0 = 0 ∧ Fm m n ∨ e0 = 100 ∧ ¬ Fm m n)) ∧ ∃ q, w' = w.drewN q := by
  obtain ⟨V, ⟨hn, a, cap, rfl, -, -, h4⟩, hV⟩ := h
  by_cases h1 : 1 ≤ m
  case neg =>
    have nF : ¬ Fm m n := fun f => h1 f.1
    have i1 : (m : Int) < 1 := by omega
    go_enter Try.func59, Try.ntmps59
    go_wp2
    go_ret
    first | exact ⟨rfl, 0, rfl⟩ | exact ⟨⟨100, rfl, .inr ⟨rfl, nF⟩⟩, 0, rfl⟩
  case pos =>
  have i1 : ¬ (m : Int) < 1 := by omega
  by_cases h1b : m ≤ 256
  case neg =>
    have nF : ¬ Fm m n := fun f => h1b f.2.1
    have i2 : (256 : Int) < (m : Int) := by omega
    go_enter Try.func59, Try.ntmps59
    go_wp2
    go_ret
    first | exact ⟨rfl, 0, rfl⟩ | exact ⟨⟨100, rfl, .inr ⟨rfl, nF⟩⟩, 0, rfl⟩
  case pos =>
    have i2 : ¬ (256 : Int) < (m : Int) := by omega
    obtain ⟨b, o, rfl, hbl, hc⟩ := h4 (by omega)
    clear h4
    have sl : ∀ i, i < m → ∃ x y, w.cell? ⟨b, o + i, none⟩ = some (.slice x (n i) y) := fun i hi => by
      obtain ⟨_, _, x, y, e, _⟩ := hV i hi
      exact ⟨x, y, by rw [hc i hi, e]⟩
    obtain ⟨x0, y0, z0⟩ := sl 0 (by omega)
    rw [Nat.add_zero] at z0
    clear hc hV
    have i0 : (0 : Int) < (m : Int) := by omega
    by_cases h2 : 1 ≤ n 0
    case neg =>
      have i3 : (n 0 : Int) < 1 := by omega
      have nF : ¬ Fm m n := fun f => h2 f.2.2.1
      clear sl
      go_enter Try.func59, Try.ntmps59
      go_wp2
      go_ret
      first | exact ⟨rfl, 0, rfl⟩ | exact ⟨⟨100, rfl, .inr ⟨rfl, nF⟩⟩, 0, rfl⟩
    case pos =>
    have i3 : ¬ (n 0 : Int) < 1 := by omega
    by_cases h2b : n 0 ≤ 512
    case neg =>
      have i4 : (512 : Int) < (n 0 : Int) := by omega
      have nF : ¬ Fm m n := fun f => h2b f.2.2.2.1
      clear sl
      go_enter Try.func59, Try.ntmps59
      go_wp2
      go_ret
      first | exact ⟨rfl, 0, rfl⟩ | exact ⟨⟨100, rfl, .inr ⟨rfl, nF⟩⟩, 0, rfl⟩
    case pos =>
      have i4 : ¬ (512 : Int) < (n 0 : Int) := by omega
      go_enter Try.func59, Try.ntmps59
      go_wp2
      go_loopw [3] (fun i wr => ∃ k q : Nat, k ≤ m ∧ i = .int .i64 k ∧ (∀ i, i < k → n i = n 0) ∧ wr = w.drewN q) (fun i _ => m - (intOf i).toNat)
      case atStart => exact ⟨0, 0, Nat.zero_le _, rfl, fun i hi => absurd hi (Nat.not_lt_zero _), rfl⟩
      case round =>
        obtain ⟨k, q, hk, rfl, hE, hw⟩ := hrel
        by_cases hlt : k < m
        · obtain ⟨xk, yk, zk⟩ := sl k hlt
          have zk : wr.cell? ⟨b, o + k, none⟩ = some (.slice xk (n k) yk) := by rw [hw]; exact zk
          have z0 : wr.cell? ⟨b, o, none⟩ = some (.slice x0 (n 0) y0) := by rw [hw]; exact z0
          have ib : ((k : Nat) : Int) < (m : Int) := by omega
          have W1 := wrap_succ8 (j := k) (by unfold big; omega)
          have HE : Hid ((∀ i, i < k → n i = n 0) ∧ wr = w.drewN q) := ⟨hE, hw⟩
          by_cases hnk : n k = n 0
          · have Hn : Hid (n k = n 0) := hnk
            rw [hnk] at zk
            clear sl hE hnk hw
            go_wp2
            go_quiet (fail)
            go_wp2
            go_roundw
            case rel =>
              refine ⟨k + 1, q + nq, hlt, by first | rfl | (rw [W1]; rfl), fun i hi => ?_, by rw [HE.out.2, World.drewN_drewN]⟩
              by_cases e : i = k
              · rw [e]; exact Hn.out
              · exact HE.out.1 i (by omega)
            case measure => first | exact meas_lt8 hlt | (rw [W1]; exact meas_lt8 hlt)
          · have hI : ¬ ((n k : Nat) : Int) = ((n 0 : Nat) : Int) := by omega
            have nF : ¬ Fm m n := fun f => hnk (f.2.2.2.2 k hlt)
            clear sl hE hnk hw
            go_wp2
            go_quiet (fail)
            go_wp2
            go_ret
            exact ⟨⟨100, rfl, .inr ⟨rfl, nF⟩⟩, q + nq, by rw [HE.out.2, World.drewN_drewN]⟩
        · have hkn : k = m := by omega
          subst hkn
          clear sl
          subst hw
          go_wp2
          go_ret
          exact ⟨⟨0, rfl, .inl ⟨rfl, h1, h1b, h2, h2b, hE⟩⟩, _, rfl⟩
end Go.Proofs.Ytfhgamaakkoplaa
