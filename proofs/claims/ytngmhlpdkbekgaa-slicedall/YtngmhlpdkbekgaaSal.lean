import Derived.Test.YtngmhlpdkbekgaaSpl
import Derived.Test.YtngmhlpdkbekgaaEbo
namespace Go.Proofs.Ytngmhlpdkbekgaa
open Go.ChangeShapes Go.WideShapes Go.ChangeAt Go.RowKit Go.Deep
set_option linter.unusedVariables false

/-- one step of a script in memory: its seven cells. -/
def OpAt7 (w : World) (b o : Nat) (kind : Int) (c : Nat) (xD : Option Addr) (nD cD : Nat) (xS : Option Addr) (nS cS wv : Nat) (xW : Option Addr) (nW cW : Nat) (self : Bool) : Prop :=
  w.cell? ⟨b, o, none⟩ = some (.int .i64 kind) ∧ w.cell? ⟨b, o + 1, none⟩ = some (.int .u8 (c : Int)) ∧ w.cell? ⟨b, o + 2, none⟩ = some (.slice xD nD cD) ∧ w.cell? ⟨b, o + 3, none⟩ = some (.slice xS nS cS) ∧
  w.cell? ⟨b, o + 4, none⟩ = some (.int .u64 (wv : Int)) ∧ w.cell? ⟨b, o + 5, none⟩ = some (.slice xW nW cW) ∧ w.cell? ⟨b, o + 6, none⟩ = some (.bool self) ∧ In7 w c xD nD cD xS nS cS wv xW nW cW
/-- a script that came in. -/
def IsOps7 (w : World) (a : Option Addr) (len cap : Nat) : Prop :=
  len ≤ maxLen ∧ (len = 0 ∨ ∃ b off, a = some ⟨b, off, none⟩ ∧ len ≤ cap ∧ cap ≤ maxLen ∧ b < w.heap.size ∧ ∀ i, i < len → ∃ kind c xD nD cD xS nS cS wv xW nW cW self, OpAt7 w b (off + i * 7) kind c xD nD cD xS nS cS wv xW nW cW self)

set_option maxHeartbeats 8000000 in
set_option maxRecDepth 100000 in
theorem all7_any (lo hi : Int) (a : Option Addr) (len cap : Nat) (w : World) (h : IsOps7 w a len cap) :
    Calls Try.prog 9 #[.slice a len cap, .int .i64 lo, .int .i64 hi] w fun e w' => e = .returned (.bool true) ∧ Below w.heap.size w w' := by
  obtain ⟨hml, h⟩ := h
  unfold maxLen at hml
  have c0 := snew_any w
  go_enter Try.func9, Try.ntmps9
  go_wp2_with (first
    | (go_at_call 11; (with_reducible refine c0.mono ?_); rintro e w1 ⟨p, rfl, hk1, hb1⟩; have cA := awake7_any w1 p _ _ hk1)
    | (go_at_call 10; (with_reducible refine cA.mono ?_); rintro e w2 ⟨rfl, hb2⟩))
  have hb3 := hb1.trans (hb2.mono hb1.size)
  have hk3 := sk_below hk1 hb2
  clear c0 cA hb1 hk1
  go_loopw [16] (fun x wr => ∃ i : Nat, i ≤ len ∧ x = .int .i64 i ∧ Below w.heap.size w wr ∧ Sk wr p w.heap.size w1.heap.size) (fun x _ => len - (intOf x).toNat)
  case atStart => exact ⟨0, Nat.zero_le _, rfl, hb3, hk3⟩
  case round =>
    obtain ⟨i, hi2, rfl, hb, hkr⟩ := hrel
    by_cases hlt : i < len
    · rcases h with h | ⟨b, off, rfl, hlc, hcm, hbs, hops⟩
      · omega
      · obtain ⟨kind, c, xD, nD, cD, xS, nS, cS, wv, xW, nW, cW, self, z0, z1, z2, z3, z4, z5, z6, hop⟩ := hops i hlt
        have y0 := (hb.cell (p := ⟨b, off + i * 7, none⟩) hbs).trans z0
        have y1 := (hb.cell (p := ⟨b, off + i * 7 + 1, none⟩) hbs).trans z1
        have y2 := (hb.cell (p := ⟨b, off + i * 7 + 2, none⟩) hbs).trans z2
        have y3 := (hb.cell (p := ⟨b, off + i * 7 + 3, none⟩) hbs).trans z3
        have y4 := (hb.cell (p := ⟨b, off + i * 7 + 4, none⟩) hbs).trans z4
        have y5 := (hb.cell (p := ⟨b, off + i * 7 + 5, none⟩) hbs).trans z5
        have y6 := (hb.cell (p := ⟨b, off + i * 7 + 6, none⟩) hbs).trans z6
        clear z0 z1 z2 z3 z4 z5 z6 hops hb3 hk3
        have hil : ((i : Nat) : Int) < (len : Int) := by omega
        have bA : ∀ o, Below w.heap.size w (wr.alloc o) := fun o => hb.alloc hb.size o
        have kA : ∀ o, Sk (wr.alloc o) p w.heap.size w1.heap.size := fun o => sk_below hkr ((Below.refl _ _).alloc (Nat.le_refl _) o)
        have c1 : ∀ o, Calls Try.prog 19 #[.pointer (some p), .agg #[.int .i64 kind, .int .u8 (c : Int), .slice xD nD cD, .slice xS nS cS, .int .u64 (wv : Int), .slice xW nW cW, .bool self]] (wr.alloc o) fun e w' => e = .returned (.bool true) ∧ Below (wr.alloc o).heap.size (wr.alloc o) w' := fun o => plays7_any p w.heap.size w1.heap.size kind c xD nD cD xS nS cS wv xW nW cW self (wr.alloc o) (kA o) (hop.below (bA o))
        by_cases h1 : kind < lo
        · have D1 : decide (kind < lo) = true := by simpa using h1
          have D2 : decide (lo ≤ kind) = false := by simp; omega
          go_wp2
          go_roundw
          case rel => exact ⟨i + 1, by omega, by go_num, bA _, kA _⟩
          case measure => simp [intOf]; omega
        · have D1 : decide (kind < lo) = false := by simpa using h1
          have D3 : decide (lo ≤ kind) = true := by simp; omega
          by_cases h2 : hi < kind
          · have D2 : decide (hi < kind) = true := by simpa using h2
            have D4 : decide (kind ≤ hi) = false := by simp; omega
            go_wp2
            go_roundw
            case rel => exact ⟨i + 1, by omega, by go_num, bA _, kA _⟩
            case measure => simp [intOf]; omega
          · have D2 : decide (hi < kind) = false := by simpa using h2
            have D4 : decide (kind ≤ hi) = true := by simp; omega
            go_wp2_with (go_at_call 19; ((with_reducible refine (c1 _).mono ?_); (rintro e w2 ⟨rfl, hb2⟩; have hb3 := (bA _).trans (hb2.mono (bA _).size); have hk3 := sk_below (kA _) hb2)))
            go_roundw
            case rel => exact ⟨i + 1, by omega, by go_num, hb3, hk3⟩
            case measure => simp [intOf]; omega
    · clear h hb3 hk3
      have hil : ¬ ((i : Nat) : Int) < (len : Int) := by omega
      go_wp2
      go_ret
      exact ⟨rfl, hb⟩
end Go.Proofs.Ytngmhlpdkbekgaa
