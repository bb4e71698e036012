import Derived.Test.YtaepcecjblojjabDoorDops
import Derived.WalkSpells
import Derived.WalkLawsBesides
namespace Go.Proofs.YtaepcecjblojjabDoor
open Go.RowKit

theorem ret_bool' {a b : Bool} (h : a = b) : Ending.returned (.bool a) = .returned (.bool b) := by rw [h]

/-- what is asked of 'plays': true at every step of a kind from lo to hi. -/
def PlaysOk (lo hi : Int) : Prop := ∀ (k : Int) (x y z : Nat) (s : ByteArray) (w : World), lo ≤ k → k ≤ hi → x < 18446744073709551616 → y < 18446744073709551616 → z < 18446744073709551616 → s.size ≤ maxLen →
  Calls Tryd.prog 10 #[.agg #[.int .i64 k, .int .u64 (x : Int), .int .u64 (y : Int), .int .u64 (z : Int), .string s]] w fun e w' => e = .returned (.bool true) ∧ Below w.heap.size w w'

theorem OpAt.below {w w1 : World} {b o : Nat} {k : Int} {x y z : Nat} {s : ByteArray} (h : OpAt w b o k x y z s) (hb : Below w.heap.size w w1) (hl : b < w.heap.size) : OpAt w1 b o k x y z s := by
  obtain ⟨z0, z1, z2, z3, z4, r⟩ := h
  exact ⟨(hb.cell (p := ⟨b, o, none⟩) hl).trans z0, (hb.cell (p := ⟨b, o + 1, none⟩) hl).trans z1, (hb.cell (p := ⟨b, o + 2, none⟩) hl).trans z2, (hb.cell (p := ⟨b, o + 3, none⟩) hl).trans z3, (hb.cell (p := ⟨b, o + 4, none⟩) hl).trans z4, r⟩
theorem IsOps.below {w w1 : World} {a : Option Addr} {len cap : Nat} (h : IsOps w a len cap) (hb : Below w.heap.size w w1) : IsOps w1 a len cap := by
  obtain ⟨h1, h2⟩ := h
  refine ⟨h1, ?_⟩
  rcases h2 with h2 | ⟨b, off, e, h3, h4, h5, h6⟩
  · exact .inl h2
  · refine .inr ⟨b, off, e, h3, h4, Nat.lt_of_lt_of_le h5 hb.size, fun i hi => ?_⟩
    obtain ⟨k, x, y, z, s, h⟩ := h6 i hi
    exact ⟨k, x, y, z, s, h.below hb h5⟩

set_option maxHeartbeats 2000000 in
theorem all_any (lo hi : Int) (hp : PlaysOk lo hi) (a : Option Addr) (len cap : Nat) (w : World) (h : IsOps w a len cap) :
    Calls Tryd.prog 5 #[.slice a len cap, .int .i64 lo, .int .i64 hi] w fun e w' => e = .returned (.bool true) ∧ Below w.heap.size w w' := by
  obtain ⟨hml, h⟩ := h
  unfold maxLen at hml
  unfold PlaysOk at hp
  by_cases h0 : len = 0
  · subst h0
    go_enter Tryd.func5, Tryd.ntmps5
    go_wp2
    go_loopw [11] (fun x wr => x = .int .i64 0 ∧ wr = w) (fun _ _ => 0)
    case atStart => exact ⟨rfl, rfl⟩
    case round =>
      obtain ⟨rfl, rfl⟩ := hrel
      go_wp2
      go_ret
      exact ⟨rfl, Below.refl _ _⟩
  · rcases h with h | ⟨b, off, rfl, hlc, hcm, hbs, hops⟩
    · exact absurd h h0
    · go_enter Tryd.func5, Tryd.ntmps5
      go_wp2
      go_loopw [11] (fun x wr => ∃ i : Nat, i ≤ len ∧ x = .int .i64 i ∧ Below w.heap.size w wr) (fun x _ => len - (intOf x).toNat)
      case atStart => exact ⟨0, Nat.zero_le _, rfl, Below.refl _ _⟩
      case round =>
        obtain ⟨i, hi2, rfl, hb⟩ := hrel
        by_cases hlt : i < len
        · obtain ⟨k, x, y, z, s, z0, z1, z2, z3, z4, bx, by', bz, bs⟩ := hops i hlt
          have y0 := (hb.cell (p := ⟨b, off + i * 5, none⟩) hbs).trans z0
          have y1 := (hb.cell (p := ⟨b, off + i * 5 + 1, none⟩) hbs).trans z1
          have y2 := (hb.cell (p := ⟨b, off + i * 5 + 2, none⟩) hbs).trans z2
          have y3 := (hb.cell (p := ⟨b, off + i * 5 + 3, none⟩) hbs).trans z3
          have y4 := (hb.cell (p := ⟨b, off + i * 5 + 4, none⟩) hbs).trans z4
          clear z0 z1 z2 z3 z4
          have hil : ((i : Nat) : Int) < (len : Int) := by omega
          by_cases h1 : lo ≤ k
          · by_cases h2 : k ≤ hi
            · have D1 : decide (lo ≤ k) = true := by simpa using h1
              have D2 : decide (k ≤ hi) = true := by simpa using h2
              have c1 := fun w => hp k x y z s w h1 h2 bx by' bz bs
              clear hp hops
              go_wp2_with (go_at_call 10; with_reducible refine (c1 _).mono ?_; rintro e w1 ⟨rfl, hb1⟩)
              go_roundw
              case rel => exact ⟨i + 1, by omega, by go_num, (hb.alloc hb.size _).trans (hb1.mono (by have := hb.size; simp; omega))⟩
              case measure => simp [intOf]; omega
            · have D1 : decide (lo ≤ k) = true := by simpa using h1
              have D2 : decide (k ≤ hi) = false := by simpa using h2
              clear hp hops
              go_wp2
              go_roundw
              case rel => exact ⟨i + 1, by omega, by go_num, hb.alloc hb.size _⟩
              case measure => simp [intOf]; omega
          · have D1 : decide (lo ≤ k) = false := by simpa using h1
            clear hp hops
            go_wp2
            go_roundw
            case rel => exact ⟨i + 1, by omega, by go_num, hb.alloc hb.size _⟩
            case measure => simp [intOf]; omega
        · go_wp2
          go_ret
          exact ⟨rfl, hb⟩
end Go.Proofs.YtaepcecjblojjabDoor
