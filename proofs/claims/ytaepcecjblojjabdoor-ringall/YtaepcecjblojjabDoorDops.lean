import Derived.Test.YtaepcecjblojjabDoorRows
import Derived.WalkKit
import Derived.ProofKit
import Derived.OpenShut
import Derived.ShutString
import Derived.ChangeOld
import Derived.Below
import Derived.Deep.Slices
import Derived.ChangeSame
namespace Go.Proofs.YtaepcecjblojjabDoor
open Go.ChangeShapes Go.WideShapes Go.ChangeAt Go.RowKit Go.Deep
open Go.ChangeMaps (open_string shut_string)

/-- one step of a script in memory: its five cells. -/
def OpAt (w : World) (b o : Nat) (k : Int) (x y z : Nat) (s : ByteArray) : Prop :=
  w.cell? ⟨b, o, none⟩ = some (.int .i64 k) ∧ w.cell? ⟨b, o + 1, none⟩ = some (.int .u64 (x : Int)) ∧ w.cell? ⟨b, o + 2, none⟩ = some (.int .u64 (y : Int)) ∧
  w.cell? ⟨b, o + 3, none⟩ = some (.int .u64 (z : Int)) ∧ w.cell? ⟨b, o + 4, none⟩ = some (.string s) ∧
  x < 18446744073709551616 ∧ y < 18446744073709551616 ∧ z < 18446744073709551616 ∧ s.size ≤ maxLen

def OpAt' (w : World) (a : Addr) (k : Int) (x y z : Nat) (s : ByteArray) : Prop :=
  w.cell? (a.add 0) = some (.int .i64 k) ∧ w.cell? (a.add 1) = some (.int .u64 (x : Int)) ∧ w.cell? (a.add 2) = some (.int .u64 (y : Int)) ∧
  w.cell? (a.add 3) = some (.int .u64 (z : Int)) ∧ w.cell? (a.add 4) = some (.string s) ∧
  x < 18446744073709551616 ∧ y < 18446744073709551616 ∧ z < 18446744073709551616 ∧ s.size ≤ maxLen

/-- a script that came in. -/
def IsOps (w : World) (a : Option Addr) (len cap : Nat) : Prop :=
  len ≤ maxLen ∧ (len = 0 ∨ ∃ b off, a = some ⟨b, off, none⟩ ∧ len ≤ cap ∧ cap ≤ maxLen ∧ b < w.heap.size ∧ ∀ i, i < len → ∃ k x y z s, OpAt w b (off + i * 5) k x y z s)

theorem cell_lt {w : World} {a : Addr} {v : Value} (h : w.cell? a = some v) : a.block < w.heap.size := by
  unfold World.cell? at h
  cases hh : w.heap[a.block]? with
  | none => rw [hh] at h; cases h
  | some o => exact (Array.getElem?_eq_some_iff.1 hh).1

theorem open_ops {H : Type} {enc : TypeId × Value → H} {W : World} {base : Nat} {spare : Nat → Bool} {held : Bool} {fuel : Nat} {a : Option Addr} {len cap : Nat} {x : DataW H × List MemPlace}
    (h : DataW.trod enc Tryd.prog W base spare held fuel 22 [.slice a len cap] = some x) : IsOps W a len cap := by
  rcases open_slice Tryd.underlying22 h with ⟨hcs, _⟩ | ⟨a', len', cap', m, n, D, Pl, hcs, hb, hl, hm, hmm, -, hx⟩
  · simp at hcs
    obtain ⟨rfl, rfl, rfl⟩ := hcs
    exact ⟨by unfold maxLen; omega, .inl rfl⟩
  · simp at hcs
    obtain ⟨rfl, rfl, rfl⟩ := hcs
    refine ⟨by omega, ?_⟩
    have hlm : len ≤ m := by rw [hmm]; split <;> omega
    have c26 : Tryd.prog.cellsOf 36 = 5 := by kernel_rfl
    have c3 : Tryd.prog.cellsOf 3 = 1 := by kernel_rfl
    have c24 : Tryd.prog.cellsOf 26 = 1 := by kernel_rfl
    have c9 : Tryd.prog.cellsOf 9 = 1 := by kernel_rfl
    have each : ∀ i, i < len → ∃ k x y z s, OpAt' W (a'.add (i * 5)) k x y z s := by
      intro i hi
      obtain ⟨cs', h1, h2⟩ := hx i (by omega)
      rw [c26] at h1
      obtain ⟨_, hlen, hcell⟩ := World.cells?_some h1
      obtain ⟨xs, k, hk, hxy, _, hxl, hf⟩ := DataW.trod_struct Tryd.underlying36 h2
      match xs, hxl, cs', hlen with
      | [y0, y1, y2, y3, y4], _, [v0, v1, v2, v3, v4], _ =>
        have g0 := hf 0 _ rfl
        have g1 := hf 1 _ rfl
        have g2 := hf 2 _ rfl
        have g3 := hf 3 _ rfl
        have g4 := hf 4 _ rfl
        simp [c3, c24, c9] at g0 g1 g2 g3 g4
        obtain ⟨k0, e0, -, w0⟩ := DataW.trod_int Tryd.underlying3 g0
        obtain ⟨k1, e1, -, w1⟩ := DataW.trod_int Tryd.underlying26 g1
        obtain ⟨k2, e2, -, w2⟩ := DataW.trod_int Tryd.underlying26 g2
        obtain ⟨k3, e3, -, w3⟩ := DataW.trod_int Tryd.underlying26 g3
        obtain ⟨s, e4, -, w4⟩ := DataW.trod_string Tryd.underlying9 g4
        simp at e0 e1 e2 e3 e4
        subst e0 e1 e2 e3 e4
        have b1 := bounds_u64 w1
        have b2 := bounds_u64 w2
        have b3 := bounds_u64 w3
        have t1 : ((k1.toNat : Nat) : Int) = k1 := by omega
        have t2 : ((k2.toNat : Nat) : Int) = k2 := by omega
        have t3 : ((k3.toNat : Nat) : Int) = k3 := by omega
        have z0 := hcell 0 (by omega)
        have z1 := hcell 1 (by omega)
        have z2 := hcell 2 (by omega)
        have z3 := hcell 3 (by omega)
        have z4 := hcell 4 (by omega)
        exact ⟨k0, k1.toNat, k2.toNat, k3.toNat, s, by simpa using z0, by rw [t1]; simpa using z1, by rw [t2]; simpa using z2, by rw [t3]; simpa using z3, by simpa using z4, by omega, by omega, by omega, w4⟩
    by_cases h0 : len = 0
    · exact .inl h0
    · right
      obtain ⟨b, off, spot⟩ := a'
      have hspot : spot = none := by
        obtain ⟨k, x, y, z, s, z0, -⟩ := each 0 (by omega)
        simpa [Addr.add] using World.cell?_spot z0
      subst hspot
      refine ⟨b, off, rfl, hl, hm, ?_, ?_⟩
      · obtain ⟨k, x, y, z, s, z0, -⟩ := each 0 (by omega)
        have := cell_lt z0
        simpa [Addr.add] using this
      · intro i hi
        obtain ⟨k, x, y, z, s, z0, z1, z2, z3, z4, r⟩ := each i hi
        simp only [add_plain] at z0 z1 z2 z3 z4
        exact ⟨k, x, y, z, s, z0, z1, z2, z3, z4, r⟩
end Go.Proofs.YtaepcecjblojjabDoor
