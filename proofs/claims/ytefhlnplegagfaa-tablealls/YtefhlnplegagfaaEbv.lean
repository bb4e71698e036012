import Derived.Test.YtefhlnplegagfaaEbu
import Derived.Test.YtefhlnplegagfaaEbo
namespace Go.Proofs.Ytefhlnplegagfaa
open Go.ChangeShapes Go.WideShapes Go.ChangeAt Go.RowKit Go.Deep
set_option linter.unusedVariables false

/-- one step of a script in memory: its nine cells. -/
def OpAt5 (w : World) (b o : Nat) (kind : Int) (c d : Nat) (xd : Option Addr) (nd cd : Nat) (xs : Option Addr) (ns cs : Nat) (same nl : Bool) (ahead behind : Int) : Prop :=
  w.cell? ⟨b, o, none⟩ = some (.int .i64 kind) ∧ w.cell? ⟨b, o + 1, none⟩ = some (.int .u8 (c : Int)) ∧ w.cell? ⟨b, o + 2, none⟩ = some (.int .u8 (d : Int)) ∧ w.cell? ⟨b, o + 3, none⟩ = some (.slice xd nd cd) ∧ w.cell? ⟨b, o + 4, none⟩ = some (.slice xs ns cs) ∧
  w.cell? ⟨b, o + 5, none⟩ = some (.bool same) ∧ w.cell? ⟨b, o + 6, none⟩ = some (.bool nl) ∧ w.cell? ⟨b, o + 7, none⟩ = some (.int .i64 ahead) ∧ w.cell? ⟨b, o + 8, none⟩ = some (.int .i64 behind) ∧ OpIn w c d xd nd cd xs ns cs
/-- a script that came in. -/
def IsOps5 (w : World) (a : Option Addr) (len cap : Nat) : Prop :=
  len ≤ maxLen ∧ (len = 0 ∨ ∃ b off, a = some ⟨b, off, none⟩ ∧ len ≤ cap ∧ cap ≤ maxLen ∧ b < w.heap.size ∧ ∀ i, i < len → ∃ kind c d xd nd cd xs ns cs same nl ahead behind, OpAt5 w b (off + i * 9) kind c d xd nd cd xs ns cs same nl ahead behind)

set_option maxHeartbeats 8000000 in
set_option maxRecDepth 100000 in
theorem plays5_any (lo hi : Int) (a : Option Addr) (len cap : Nat) (w : World) (h : IsOps5 w a len cap) :
    Calls Try.prog 9 #[.slice a len cap, .int .i64 lo, .int .i64 hi] w fun e w' => e = .returned (.bool true) ∧ Below w.heap.size w w' := by
  obtain ⟨hml, h⟩ := h
  unfold maxLen at hml
  have c0 := awake5_any w
  go_enter Try.func9, Try.ntmps9
  go_wp2_with (go_at_call 10; ((with_reducible refine (c0).mono ?_); rintro e w1 ⟨p, hk, rfl, hk1, hb1⟩))
  go_loopw [9] (fun x wr => ∃ i : Nat, i ≤ len ∧ x = .int .i64 i ∧ Below w.heap.size w wr ∧ Ker wr p w.heap.size hk) (fun x _ => len - (intOf x).toNat)
  case atStart => exact ⟨0, Nat.zero_le _, rfl, hb1, hk1⟩
  case round =>
    obtain ⟨i, hi2, rfl, hb, hkr⟩ := hrel
    by_cases hlt : i < len
    · rcases h with h | ⟨b, off, rfl, hlc, hcm, hbs, hops⟩
      · omega
      · obtain ⟨kind, c, d, xd, nd, cd, xs, ns, cs, same, nl, ahead, behind, z0, z1, z2, z3, z4, z5, z6, z7, z8, hop⟩ := hops i hlt
        have y0 := (hb.cell (p := ⟨b, off + i * 9, none⟩) hbs).trans z0
        have y1 := (hb.cell (p := ⟨b, off + i * 9 + 1, none⟩) hbs).trans z1
        have y2 := (hb.cell (p := ⟨b, off + i * 9 + 2, none⟩) hbs).trans z2
        have y3 := (hb.cell (p := ⟨b, off + i * 9 + 3, none⟩) hbs).trans z3
        have y4 := (hb.cell (p := ⟨b, off + i * 9 + 4, none⟩) hbs).trans z4
        have y5 := (hb.cell (p := ⟨b, off + i * 9 + 5, none⟩) hbs).trans z5
        have y6 := (hb.cell (p := ⟨b, off + i * 9 + 6, none⟩) hbs).trans z6
        have y7 := (hb.cell (p := ⟨b, off + i * 9 + 7, none⟩) hbs).trans z7
        have y8 := (hb.cell (p := ⟨b, off + i * 9 + 8, none⟩) hbs).trans z8
        clear z0 z1 z2 z3 z4 z5 z6 z7 z8 hops c0 hb1 hk1
        have hil : ((i : Nat) : Int) < (len : Int) := by omega
        have bA : ∀ o, Below w.heap.size w (wr.alloc o) := fun o => hb.alloc hb.size o
        have kA : ∀ o, Ker (wr.alloc o) p w.heap.size hk := fun o => ker_alloc hkr o
        have c1 := fun o => one5_ker p w.heap.size hk kind c d xd nd cd xs ns cs same nl ahead behind (wr.alloc o) (kA o) (hop.below (bA o))
        have c2 := fun o => one5_nil kind c d xd nd cd xs ns cs same nl ahead behind (wr.alloc o) (hop.below (bA o))
        by_cases h1 : kind < lo
        · have D1 : decide (kind < lo) = true := by simpa using h1
          go_wp2
          go_roundw
          case rel => exact ⟨i + 1, by omega, by go_num, bA _, kA _⟩
          case measure => simp [intOf]; omega
        · have D1 : decide (kind < lo) = false := by simpa using h1
          by_cases h2 : hi < kind
          · have D2 : decide (hi < kind) = true := by simpa using h2
            go_wp2
            go_roundw
            case rel => exact ⟨i + 1, by omega, by go_num, bA _, kA _⟩
            case measure => simp [intOf]; omega
          · have D2 : decide (hi < kind) = false := by simpa using h2
            cases nl
            · go_wp2_with (go_at_call 22; ((with_reducible refine (c1 _).mono ?_); (rintro e w2 ⟨rfl, hb2⟩; have hb3 := (bA _).trans (hb2.mono (bA _).size); have hk3 := ker_below (kA _) hb2)))
              go_roundw
              case rel => exact ⟨i + 1, by omega, by go_num, hb3, hk3⟩
              case measure => simp [intOf]; omega
            · go_wp2_with (go_at_call 22; ((with_reducible refine (c2 _).mono ?_); (rintro e w2 ⟨rfl, hb2⟩; have hb3 := (bA _).trans (hb2.mono (bA _).size); have hk3 := ker_below (kA _) hb2)))
              go_roundw
              case rel => exact ⟨i + 1, by omega, by go_num, hb3, hk3⟩
              case measure => simp [intOf]; omega
    · clear h c0 hb1 hk1
      have hil : ¬ ((i : Nat) : Int) < (len : Int) := by omega
      go_wp2
      go_ret
      exact ⟨rfl, hb⟩
end Go.Proofs.Ytefhlnplegagfaa
