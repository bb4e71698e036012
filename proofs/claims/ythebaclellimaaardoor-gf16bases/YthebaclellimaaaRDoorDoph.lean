import Derived.Test.YthebaclellimaaaRDoorRows
import Derived.Test.YthebaclellimaaaRDoorWhfi
import Derived.WalkKit
import Derived.ProofKit
import Derived.OpenShut
import Derived.ShutString
import Derived.ChangeOld
import Derived.Below
import Derived.Deep.Slices
import Derived.ChangeSame
namespace Go.Proofs.YthebaclellimaaaRDoor
open Go.ChangeShapes Go.WideShapes Go.ChangeAt Go.RowKit Go.Deep

/-- one step of a script in memory: its four cells. -/
def OpAtH (w : World) (b o : Nat) (k : Int) (x y : Nat) (n : Int) : Prop :=
  w.cell? ⟨b, o, none⟩ = some (.int .i64 k) ∧ w.cell? ⟨b, o + 1, none⟩ = some (.int .u16 (x : Int)) ∧
  w.cell? ⟨b, o + 2, none⟩ = some (.int .u16 (y : Int)) ∧ w.cell? ⟨b, o + 3, none⟩ = some (.int .i64 n) ∧ x < 65536 ∧ y < 65536

def OpAtH' (w : World) (a : Addr) (k : Int) (x y : Nat) (n : Int) : Prop :=
  w.cell? (a.add 0) = some (.int .i64 k) ∧ w.cell? (a.add 1) = some (.int .u16 (x : Int)) ∧
  w.cell? (a.add 2) = some (.int .u16 (y : Int)) ∧ w.cell? (a.add 3) = some (.int .i64 n) ∧ x < 65536 ∧ y < 65536

/-- a script that came in. -/
def IsOpsH (w : World) (a : Option Addr) (len cap : Nat) : Prop :=
  len ≤ maxLen ∧ (len = 0 ∨ ∃ b off, a = some ⟨b, off, none⟩ ∧ len ≤ cap ∧ cap ≤ maxLen ∧ b < w.heap.size ∧ ∀ i, i < len → ∃ k x y n, OpAtH w b (off + i * 4) k x y n)

theorem cell_ltH {w : World} {a : Addr} {v : Value} (h : w.cell? a = some v) : a.block < w.heap.size := by
  unfold World.cell? at h
  cases hh : w.heap[a.block]? with
  | none => rw [hh] at h; cases h
  | some o => exact (Array.getElem?_eq_some_iff.1 hh).1

theorem open_opsH {H : Type} {enc : TypeId × Value → H} {W : World} {base : Nat} {spare : Nat → Bool} {held : Bool} {fuel : Nat} {a : Option Addr} {len cap : Nat} {x : DataW H × List MemPlace}
    (h : DataW.trod enc Tryd.prog W base spare held fuel 22 [.slice a len cap] = some x) : IsOpsH W a len cap := by
  rcases open_slice Tryd.underlying22 h with ⟨hcs, _⟩ | ⟨a', len', cap', m, n, D, Pl, hcs, hb, hl, hm, hmm, -, hx⟩
  · simp at hcs
    obtain ⟨rfl, rfl, rfl⟩ := hcs
    exact ⟨by unfold maxLen; omega, .inl rfl⟩
  · simp at hcs
    obtain ⟨rfl, rfl, rfl⟩ := hcs
    refine ⟨by omega, ?_⟩
    have hlm : len ≤ m := by rw [hmm]; split <;> omega
    have c26 : Tryd.prog.cellsOf 27 = 4 := by kernel_rfl
    have c3 : Tryd.prog.cellsOf 3 = 1 := by kernel_rfl
    have c5 : Tryd.prog.cellsOf 24 = 1 := by kernel_rfl
    have each : ∀ i, i < len → ∃ k x y n, OpAtH' W (a'.add (i * 4)) k x y n := by
      intro i hi
      obtain ⟨cs', h1, h2⟩ := hx i (by omega)
      rw [c26] at h1
      obtain ⟨_, hlen, hcell⟩ := World.cells?_some h1
      obtain ⟨xs, k, hk, hxy, _, hxl, hf⟩ := DataW.trod_struct Tryd.underlying27 h2
      match xs, hxl, cs', hlen with
      | [y0, y1, y2, y3], _, [v0, v1, v2, v3], _ =>
        have g0 := hf 0 _ rfl
        have g1 := hf 1 _ rfl
        have g2 := hf 2 _ rfl
        have g3 := hf 3 _ rfl
        simp [c3, c5] at g0 g1 g2 g3
        obtain ⟨k0, e0, -, w0⟩ := DataW.trod_int Tryd.underlying3 g0
        obtain ⟨k2, e2, -, w2⟩ := DataW.trod_int Tryd.underlying24 g1
        obtain ⟨k3, e3, -, w3⟩ := DataW.trod_int Tryd.underlying24 g2
        obtain ⟨k4, e4, -, w4⟩ := DataW.trod_int Tryd.underlying3 g3
        simp at e0 e2 e3 e4
        subst e0 e2 e3 e4
        have b2 := bounds_u16 w2
        have b3 := bounds_u16 w3
        have t2 : ((k2.toNat : Nat) : Int) = k2 := by omega
        have t3 : ((k3.toNat : Nat) : Int) = k3 := by omega
        have z0 := hcell 0 (by omega)
        have z1 := hcell 1 (by omega)
        have z2 := hcell 2 (by omega)
        have z3 := hcell 3 (by omega)
        exact ⟨k0, k2.toNat, k3.toNat, k4, by simpa using z0, by rw [t2]; simpa using z1, by rw [t3]; simpa using z2, by simpa using z3, by omega, by omega⟩
    by_cases h0 : len = 0
    · exact .inl h0
    · right
      obtain ⟨b, off, spot⟩ := a'
      have hspot : spot = none := by
        obtain ⟨k, x, y, n, z0, -⟩ := each 0 (by omega)
        simpa [Addr.add] using World.cell?_spot z0
      subst hspot
      refine ⟨b, off, rfl, hl, hm, ?_, ?_⟩
      · obtain ⟨k, x, y, n, z0, -⟩ := each 0 (by omega)
        have := cell_ltH z0
        simpa [Addr.add] using this
      · intro i hi
        obtain ⟨k, x, y, n, z0, z1, z2, z3, r⟩ := each i hi
        simp only [add_plain] at z0 z1 z2 z3
        exact ⟨k, x, y, n, z0, z1, z2, z3, r⟩
end Go.Proofs.YthebaclellimaaaRDoor
