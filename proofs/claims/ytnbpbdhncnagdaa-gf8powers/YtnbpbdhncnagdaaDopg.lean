import Derived.Test.YtnbpbdhncnagdaaRows
import Derived.Test.YtnbpbdhncnagdaaDgfp
import Derived.WalkKit
import Derived.ProofKit
import Derived.OpenShut
import Derived.ShutString
import Derived.ChangeOld
import Derived.Below
import Derived.Deep.Slices
import Derived.ChangeSame
namespace Go.Proofs.Ytnbpbdhncnagdaa
open Go.ChangeShapes Go.WideShapes Go.ChangeAt Go.RowKit Go.Deep

/-- one step of a script in memory: its five cells. -/
def OpAtG (w : World) (b o : Nat) (k on : Int) (x y : Nat) (n : Int) : Prop :=
  w.cell? ⟨b, o, none⟩ = some (.int .i64 k) ∧ w.cell? ⟨b, o + 1, none⟩ = some (.int .i64 on) ∧ w.cell? ⟨b, o + 2, none⟩ = some (.int .u8 (x : Int)) ∧
  w.cell? ⟨b, o + 3, none⟩ = some (.int .u8 (y : Int)) ∧ w.cell? ⟨b, o + 4, none⟩ = some (.int .i64 n) ∧ x < 256 ∧ y < 256

def OpAtG' (w : World) (a : Addr) (k on : Int) (x y : Nat) (n : Int) : Prop :=
  w.cell? (a.add 0) = some (.int .i64 k) ∧ w.cell? (a.add 1) = some (.int .i64 on) ∧ w.cell? (a.add 2) = some (.int .u8 (x : Int)) ∧
  w.cell? (a.add 3) = some (.int .u8 (y : Int)) ∧ w.cell? (a.add 4) = some (.int .i64 n) ∧ x < 256 ∧ y < 256

/-- a script that came in. -/
def IsOpsG (w : World) (a : Option Addr) (len cap : Nat) : Prop :=
  len ≤ maxLen ∧ (len = 0 ∨ ∃ b off, a = some ⟨b, off, none⟩ ∧ len ≤ cap ∧ cap ≤ maxLen ∧ b < w.heap.size ∧ ∀ i, i < len → ∃ k on x y n, OpAtG w b (off + i * 5) k on x y n)

theorem cell_ltG {w : World} {a : Addr} {v : Value} (h : w.cell? a = some v) : a.block < w.heap.size := by
  unfold World.cell? at h
  cases hh : w.heap[a.block]? with
  | none => rw [hh] at h; cases h
  | some o => exact (Array.getElem?_eq_some_iff.1 hh).1

theorem open_opsG {H : Type} {enc : TypeId × Value → H} {W : World} {base : Nat} {spare : Nat → Bool} {held : Bool} {fuel : Nat} {a : Option Addr} {len cap : Nat} {x : DataW H × List MemPlace}
    (h : DataW.trod enc Try.prog W base spare held fuel 22 [.slice a len cap] = some x) : IsOpsG W a len cap := by
  rcases open_slice Try.underlying22 h with ⟨hcs, _⟩ | ⟨a', len', cap', m, n, D, Pl, hcs, hb, hl, hm, hmm, -, hx⟩
  · simp at hcs
    obtain ⟨rfl, rfl, rfl⟩ := hcs
    exact ⟨by unfold maxLen; omega, .inl rfl⟩
  · simp at hcs
    obtain ⟨rfl, rfl, rfl⟩ := hcs
    refine ⟨by omega, ?_⟩
    have hlm : len ≤ m := by rw [hmm]; split <;> omega
    have c26 : Try.prog.cellsOf 44 = 5 := by kernel_rfl
    have c3 : Try.prog.cellsOf 3 = 1 := by kernel_rfl
    have c5 : Try.prog.cellsOf 5 = 1 := by kernel_rfl
    have each : ∀ i, i < len → ∃ k on x y n, OpAtG' W (a'.add (i * 5)) k on x y n := by
      intro i hi
      obtain ⟨cs', h1, h2⟩ := hx i (by omega)
      rw [c26] at h1
      obtain ⟨_, hlen, hcell⟩ := World.cells?_some h1
      obtain ⟨xs, k, hk, hxy, _, hxl, hf⟩ := DataW.trod_struct Try.underlying44 h2
      match xs, hxl, cs', hlen with
      | [y0, y1, y2, y3, y4], _, [v0, v1, v2, v3, v4], _ =>
        have g0 := hf 0 _ rfl
        have g1 := hf 1 _ rfl
        have g2 := hf 2 _ rfl
        have g3 := hf 3 _ rfl
        have g4 := hf 4 _ rfl
        simp [c3, c5] at g0 g1 g2 g3 g4
        obtain ⟨k0, e0, -, w0⟩ := DataW.trod_int Try.underlying3 g0
        obtain ⟨k1, e1, -, w1⟩ := DataW.trod_int Try.underlying3 g1
        obtain ⟨k2, e2, -, w2⟩ := DataW.trod_int Try.underlying5 g2
        obtain ⟨k3, e3, -, w3⟩ := DataW.trod_int Try.underlying5 g3
        obtain ⟨k4, e4, -, w4⟩ := DataW.trod_int Try.underlying3 g4
        simp at e0 e1 e2 e3 e4
        subst e0 e1 e2 e3 e4
        have b2 := bounds_u8 w2
        have b3 := bounds_u8 w3
        have t2 : ((k2.toNat : Nat) : Int) = k2 := by omega
        have t3 : ((k3.toNat : Nat) : Int) = k3 := by omega
        have z0 := hcell 0 (by omega)
        have z1 := hcell 1 (by omega)
        have z2 := hcell 2 (by omega)
        have z3 := hcell 3 (by omega)
        have z4 := hcell 4 (by omega)
        exact ⟨k0, k1, k2.toNat, k3.toNat, k4, by simpa using z0, by simpa using z1, by rw [t2]; simpa using z2, by rw [t3]; simpa using z3, by simpa using z4, by omega, by omega⟩
    by_cases h0 : len = 0
    · exact .inl h0
    · right
      obtain ⟨b, off, spot⟩ := a'
      have hspot : spot = none := by
        obtain ⟨k, on, x, y, n, z0, -⟩ := each 0 (by omega)
        simpa [Addr.add] using World.cell?_spot z0
      subst hspot
      refine ⟨b, off, rfl, hl, hm, ?_, ?_⟩
      · obtain ⟨k, on, x, y, n, z0, -⟩ := each 0 (by omega)
        have := cell_ltG z0
        simpa [Addr.add] using this
      · intro i hi
        obtain ⟨k, on, x, y, n, z0, z1, z2, z3, z4, r⟩ := each i hi
        simp only [add_plain] at z0 z1 z2 z3 z4
        exact ⟨k, on, x, y, n, z0, z1, z2, z3, z4, r⟩

theorem last_mul (t : Nat) (w : World) (ht : Tab8 w t) :
    Calls Try.prog 22 #[.pointer (some ⟨t, 0, none⟩), .agg #[.int .i64 5, .int .i64 0, .int .u8 77, .int .u8 200, .int .i64 0]] w fun e w' => e = .returned (.bool true) ∧ Below w.heap.size w w' :=
  byTables_any t 5 0 77 200 0 w ht (by decide) (by decide)
theorem last_log (t : Nat) (w : World) (ht : Tab8 w t) :
    Calls Try.prog 22 #[.pointer (some ⟨t, 0, none⟩), .agg #[.int .i64 9, .int .i64 0, .int .u8 29, .int .u8 0, .int .i64 0]] w fun e w' => e = .returned (.bool true) ∧ Below w.heap.size w w' :=
  byTables_any t 9 0 29 0 0 w ht (by decide) (by decide)

set_option maxHeartbeats 4000000 in
set_option maxRecDepth 100000 in
theorem playsG_any (lo hi : Int) (a : Option Addr) (len cap : Nat) (w : World) (h : IsOpsG w a len cap) :
    Calls Try.prog 9 #[.slice a len cap, .int .i64 lo, .int .i64 hi] w fun e w' => e = .returned (.bool true) ∧ Below w.heap.size w w' := by
  obtain ⟨hml, h⟩ := h
  unfold maxLen at hml
  have c0 := new_any w
  have c1 := fun w => awake2_any w
  go_enter Try.func9, Try.ntmps9
  go_wp2_with (first | (go_at_call 16; ((with_reducible refine (c0).mono ?_); rintro e w' ⟨rfl, hs0, ht, hb0⟩)) | (go_at_call 10; ((with_reducible refine (c1 _).mono ?_); (rintro e w' ⟨rfl, hw'⟩; have hw' := hw'.symm; subst hw'))))
  go_loopw [8] (fun x wr => ∃ i : Nat, i ≤ len ∧ x = .int .i64 i ∧ Below w.heap.size w wr ∧ Tab8 wr w.heap.size ∧ w.heap.size + 1 ≤ wr.heap.size) (fun x _ => len - (intOf x).toNat)
  case atStart => exact ⟨0, Nat.zero_le _, rfl, hb0, ht, by omega⟩
  case round =>
    obtain ⟨i, hi2, rfl, hb, htr, hsz⟩ := hrel
    by_cases hlt : i < len
    · rcases h with h | ⟨b, off, rfl, hlc, hcm, hbs, hops⟩
      · omega
      · obtain ⟨k, on, x, y, n, z0, z1, z2, z3, z4, bx, by'⟩ := hops i hlt
        have y0 := (hb.cell (p := ⟨b, off + i * 5, none⟩) hbs).trans z0
        have y1 := (hb.cell (p := ⟨b, off + i * 5 + 1, none⟩) hbs).trans z1
        have y2 := (hb.cell (p := ⟨b, off + i * 5 + 2, none⟩) hbs).trans z2
        have y3 := (hb.cell (p := ⟨b, off + i * 5 + 3, none⟩) hbs).trans z3
        have y4 := (hb.cell (p := ⟨b, off + i * 5 + 4, none⟩) hbs).trans z4
        clear z0 z1 z2 z3 z4 hops c0 hb0
        have hil : ((i : Nat) : Int) < (len : Int) := by omega
        have c2 := fun w => plain_any k on x y n w bx by'
        have c3 := fun w => ofNil_any k on x y n w
        have c4 := fun W hT => byTables_any w.heap.size k on x y n W hT bx by'
        have htA : ∀ o, Tab8 (wr.alloc o) w.heap.size := fun o => htr.of_heap (Below.heap_alloc wr o _ htr.lt)
        have bA : ∀ o, Below w.heap.size w (wr.alloc o) := fun o => hb.alloc hb.size o
        by_cases h1 : lo ≤ k
        · by_cases h2 : k ≤ hi
          · have D1 : decide (lo ≤ k) = true := by simpa using h1
            have D2 : decide (k ≤ hi) = true := by simpa using h2
            by_cases ho : on = 0
            · subst ho
              go_wp2_with (first | (go_at_call 20; ((with_reducible refine (c2 _).mono ?_); (rintro e w1 ⟨rfl, hb1⟩; have ht1 : Tab8 w1 w.heap.size := (htA _).of_heap (hb1.block _ (by simp; omega)); have p0 := hb1.cell (p := ⟨wr.heap.size, 0, none⟩) (by simp); have p1 := hb1.cell (p := ⟨wr.heap.size, 1, none⟩) (by simp); have p2 := hb1.cell (p := ⟨wr.heap.size, 2, none⟩) (by simp); have p3 := hb1.cell (p := ⟨wr.heap.size, 3, none⟩) (by simp); have p4 := hb1.cell (p := ⟨wr.heap.size, 4, none⟩) (by simp)))) | (go_at_call 22; ((with_reducible refine (c4 _ ht1).mono ?_); rintro e w2 ⟨rfl, hb2⟩)))
              go_roundw
              case rel =>
                have s1 := hb1.size
                have s2 := hb2.size
                simp at s1
                refine ⟨i + 1, by omega, by go_num, ((bA _).trans (hb1.mono (by simp; omega))).trans (hb2.mono (by omega)), ht1.of_heap (hb2.block _ ht1.lt), by omega⟩
              case measure => simp [intOf]; omega
            · have T0 : (on == 0) = false := by simpa using ho
              clear ho
              go_wp2_with (first | (go_at_call 20; ((with_reducible refine (c2 _).mono ?_); (rintro e w1 ⟨rfl, hb1⟩; have ht1 : Tab8 w1 w.heap.size := (htA _).of_heap (hb1.block _ (by simp; omega)); have p0 := hb1.cell (p := ⟨wr.heap.size, 0, none⟩) (by simp); have p1 := hb1.cell (p := ⟨wr.heap.size, 1, none⟩) (by simp); have p2 := hb1.cell (p := ⟨wr.heap.size, 2, none⟩) (by simp); have p3 := hb1.cell (p := ⟨wr.heap.size, 3, none⟩) (by simp); have p4 := hb1.cell (p := ⟨wr.heap.size, 4, none⟩) (by simp)))) | (go_at_call 21; ((with_reducible refine (c3 _).mono ?_); rintro e w2 ⟨rfl, hb2⟩)))
              go_roundw
              case rel =>
                have s1 := hb1.size
                have s2 := hb2.size
                simp at s1
                refine ⟨i + 1, by omega, by go_num, ((bA _).trans (hb1.mono (by simp; omega))).trans (hb2.mono (by omega)), ht1.of_heap (hb2.block _ ht1.lt), by omega⟩
              case measure => simp [intOf]; omega
          · have D1 : decide (lo ≤ k) = true := by simpa using h1
            have D2 : decide (k ≤ hi) = false := by simpa using h2
            go_wp2
            go_roundw
            case rel => exact ⟨i + 1, by omega, by go_num, bA _, htA _, by simp; omega⟩
            case measure => simp [intOf]; omega
        · have D1 : decide (lo ≤ k) = false := by simpa using h1
          go_wp2
          go_roundw
          case rel => exact ⟨i + 1, by omega, by go_num, bA _, htA _, by simp; omega⟩
          case measure => simp [intOf]; omega
    · clear h c0 hb0 ht
      have hil : ¬ ((i : Nat) : Int) < (len : Int) := by omega
      go_wp2_with (go_at_call 22; first | ((with_reducible refine (last_mul _ _ htr).mono ?_); (rintro e w1 ⟨rfl, hb1⟩; have ht1 := htr.of_heap (hb1.block _ htr.lt))) | ((with_reducible refine (last_log _ _ ht1).mono ?_); rintro e w2 ⟨rfl, hb2⟩))
      go_ret
      have s1 := hb1.size
      exact ⟨rfl, (hb.trans (hb1.mono (by omega))).trans (hb2.mono (by omega))⟩
end Go.Proofs.Ytnbpbdhncnagdaa
