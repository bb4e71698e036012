import Derived.Test.YtdnjddnjaekgeaaEbo
import Derived.Test.YtdnjddnjaekgeaaNba
namespace Go.Proofs.Ytdnjddnjaekgeaa
open Go.ChangeShapes Go.WideShapes Go.ChangeAt Go.RowKit Go.Deep
set_option linter.unusedVariables false

theorem weightsAll_mem6 {H : Type} {P : Program} {e : TypeId} {d : DataW H} {n : Nat} (hn : n ∈ d.weights P e) : ∀ {l : List (DataW H)}, d ∈ l → n ∈ DataW.weightsAll P e l
  | d0 :: l, h => by
    rw [DataW.weightsAll, List.mem_append]
    rcases List.mem_cons.1 h with rfl | h
    · exact .inl hn
    · exact .inr (weightsAll_mem6 hn h)
theorem shape_slice6 {H : Type} {enc : TypeId × Value → H} {W : World} {base : Nat} {held : Bool} {fuel : Nat} {v : Value} {x : DataW H × List MemPlace}
    (h : DataW.trod enc Try.prog W base (fun _ => true) held fuel 22 [v] = some x) : ∃ a len cap, v = .slice a len cap := by
  rcases open_slice Try.underlying22 h with ⟨hcs, _⟩ | ⟨a', len', cap', m, n, D, Pl, hcs, _⟩
  · simp at hcs; exact ⟨_, _, _, hcs⟩
  · simp at hcs; exact ⟨_, _, _, hcs⟩
theorem open_bytesW6 {H : Type} {enc : TypeId × Value → H} {W : World} {base : Nat} {held : Bool} {fuel : Nat} {a : Option Addr} {len cap : Nat} {x : DataW H × List MemPlace}
    (h : DataW.trod enc Try.prog W base (fun _ => true) held fuel 22 [.slice a len cap] = some x) (hsz : ∀ n ∈ x.1.weights Try.prog 22, n ≤ reachBytes) : Rbm W a len cap :=
  open_bytes5 h (fun el sp he => by
    refine hsz _ ?_
    rw [he]
    simp [DataW.weights, Try.underlying22])

/-- lists of bytes that came in as a list. -/
def IsL6 (w : World) (a : Option Addr) (len cap : Nat) : Prop :=
  len ≤ 5864062014634 ∧ (len = 0 ∨ ∃ b off, a = some ⟨b, off, none⟩ ∧ len ≤ cap ∧ b < w.heap.size ∧ ∀ i, i < len → ∃ ai ni ci, w.cell? ⟨b, off + i, none⟩ = some (.slice ai ni ci) ∧ Rbm w ai ni ci)
theorem bytes_l6 : Try.prog.bytesOf 22 = 24 := by kernel_rfl

set_option maxHeartbeats 2000000 in
theorem open_lists6 {H : Type} {enc : TypeId × Value → H} {W : World} {base : Nat} {held : Bool} {fuel : Nat} {a : Option Addr} {len cap : Nat} {x : DataW H × List MemPlace}
    (h : DataW.trod enc Try.prog W base (fun _ => true) held fuel 37 [.slice a len cap] = some x) (hsz : ∀ n ∈ x.1.weights Try.prog 37, n ≤ reachBytes) : IsL6 W a len cap := by
  rcases open_slice Try.underlying37 h with ⟨hcs, _⟩ | ⟨a', len', cap', m, n, D, Pl, hcs, hb, hl, hm, hmm, hxe, hx⟩
  · simp at hcs
    obtain ⟨rfl, rfl, rfl⟩ := hcs
    exact ⟨by omega, .inl rfl⟩
  · simp at hcs
    obtain ⟨rfl, rfl, rfl⟩ := hcs
    have hlm : len ≤ m := by rw [hmm]; split <;> omega
    have c25 : Try.prog.cellsOf 22 = 1 := by kernel_rfl
    have hlen : len ≤ 5864062014634 := by
      obtain ⟨sp, hx1⟩ : ∃ sp, x.1 = .slice ((List.range len).map D) sp := ⟨_, by rw [hxe]⟩
      have h1 := hsz ((((List.range len).map D).length + sp.length) * Try.prog.bytesOf 22) (by
        rw [hx1]
        simp only [DataW.weights, Try.underlying37]
        exact List.mem_cons_self)
      rw [bytes_l6, List.length_map, List.length_range] at h1
      unfold reachBytes at h1
      omega
    have each : ∀ i, i < len → ∃ ai ni ci, W.cell? (a'.add i) = some (.slice ai ni ci) ∧ Rbm W ai ni ci := by
      intro i hi
      obtain ⟨cs', h1, h2⟩ := hx i (by omega)
      rw [c25] at h1
      obtain ⟨_, hlen', hcell⟩ := World.cells?_some h1
      match cs', hlen' with
      | [v0], _ =>
        obtain ⟨ai, ni, ci, rfl⟩ := shape_slice6 h2
        have mD : D i ∈ (List.range len).map D := List.mem_map.2 ⟨i, List.mem_range.2 hi, rfl⟩
        have b3 := open_bytesW6 h2 (fun n hn => hsz n (by
          rw [hxe]
          simp only [DataW.weights, Try.underlying37]
          exact List.mem_cons_of_mem _ (List.mem_append.2 (.inl (weightsAll_mem6 hn mD)))))
        have z0 := hcell 0 (by omega)
        refine ⟨ai, ni, ci, ?_, b3⟩
        have ea : (a'.add i).add 0 = a'.add i := by unfold Addr.add; split <;> simp_all
        rw [← ea]
        simpa using z0
    refine ⟨hlen, ?_⟩
    by_cases h0 : len = 0
    · exact .inl h0
    · right
      obtain ⟨b, off, spot⟩ := a'
      have hspot : spot = none := by
        obtain ⟨ai, ni, ci, z0, -⟩ := each 0 (by omega)
        simpa [Addr.add] using World.cell?_spot z0
      subst hspot
      refine ⟨b, off, rfl, hl, ?_, ?_⟩
      · obtain ⟨ai, ni, ci, z0, -⟩ := each 0 (by omega)
        have := cell_lt5 z0
        simpa [Addr.add] using this
      · intro i hi
        obtain ⟨ai, ni, ci, z0, r⟩ := each i hi
        simp only [add_plain] at z0
        exact ⟨ai, ni, ci, z0, r⟩

/-- one call of a script. -/
def OpAt6 (w : World) (b o : Nat) (add : Bool) (c : Nat) (x y : Int) : Prop :=
  w.cell? ⟨b, o, none⟩ = some (.bool add) ∧ w.cell? ⟨b, o + 1, none⟩ = some (.int .u8 (c : Int)) ∧ w.cell? ⟨b, o + 2, none⟩ = some (.int .i64 x) ∧ w.cell? ⟨b, o + 3, none⟩ = some (.int .i64 y) ∧ c < 256 ∧
    (-9223372036854775808 ≤ x ∧ x < 9223372036854775808) ∧ (-9223372036854775808 ≤ y ∧ y < 9223372036854775808)
def OpAt6' (w : World) (a : Addr) (add : Bool) (c : Nat) (x y : Int) : Prop :=
  w.cell? (a.add 0) = some (.bool add) ∧ w.cell? (a.add 1) = some (.int .u8 (c : Int)) ∧ w.cell? (a.add 2) = some (.int .i64 x) ∧ w.cell? (a.add 3) = some (.int .i64 y) ∧ c < 256 ∧
    (-9223372036854775808 ≤ x ∧ x < 9223372036854775808) ∧ (-9223372036854775808 ≤ y ∧ y < 9223372036854775808)
def IsOps6 (w : World) (a : Option Addr) (len cap : Nat) : Prop :=
  len ≤ maxLen ∧ (len = 0 ∨ ∃ b off, a = some ⟨b, off, none⟩ ∧ len ≤ cap ∧ cap ≤ maxLen ∧ b < w.heap.size ∧ ∀ i, i < len → ∃ add c x y, OpAt6 w b (off + i * 4) add c x y)
theorem shape_bool6 {H : Type} {enc : TypeId × Value → H} {W : World} {base : Nat} {spare : Nat → Bool} {held : Bool} {fuel : Nat} {v : Value} {x : DataW H × List MemPlace}
    (h : DataW.trod enc Try.prog W base spare held fuel 4 [v] = some x) : ∃ b, v = .bool b := by
  obtain ⟨b, h1, -⟩ := DataW.trod_bool Try.underlying4 h
  exact ⟨b, by simpa using h1⟩

set_option maxHeartbeats 2000000 in
theorem open_ops6 {H : Type} {enc : TypeId × Value → H} {W : World} {base : Nat} {spare : Nat → Bool} {held : Bool} {fuel : Nat} {a : Option Addr} {len cap : Nat} {x : DataW H × List MemPlace}
    (h : DataW.trod enc Try.prog W base spare held fuel 38 [.slice a len cap] = some x) : IsOps6 W a len cap := by
  rcases open_slice Try.underlying38 h with ⟨hcs, _⟩ | ⟨a', len', cap', m, n, D, Pl, hcs, hb, hl, hm, hmm, -, hx⟩
  · simp at hcs
    obtain ⟨rfl, rfl, rfl⟩ := hcs
    exact ⟨by unfold maxLen; omega, .inl rfl⟩
  · simp at hcs
    obtain ⟨rfl, rfl, rfl⟩ := hcs
    refine ⟨by omega, ?_⟩
    have hlm : len ≤ m := by rw [hmm]; split <;> omega
    have c4' : Try.prog.cellsOf 41 = 4 := by kernel_rfl
    have c3 : Try.prog.cellsOf 3 = 1 := by kernel_rfl
    have c4 : Try.prog.cellsOf 4 = 1 := by kernel_rfl
    have c5 : Try.prog.cellsOf 5 = 1 := by kernel_rfl
    have each : ∀ i, i < len → ∃ add c x y, OpAt6' W (a'.add (i * 4)) add c x y := by
      intro i hi
      obtain ⟨cs', h1, h2⟩ := hx i (by omega)
      rw [c4'] at h1
      obtain ⟨_, hlen, hcell⟩ := World.cells?_some h1
      obtain ⟨xs, k, hk, hxy, _, hxl, hf⟩ := DataW.trod_struct Try.underlying41 h2
      match xs, hxl, cs', hlen with
      | [y0, y1, y2, y3], _, [v0, v1, v2, v3], _ =>
        have g0 := hf 0 _ rfl
        have g1 := hf 1 _ rfl
        have g2 := hf 2 _ rfl
        have g3 := hf 3 _ rfl
        simp [c3, c4, c5] at g0 g1 g2 g3
        obtain ⟨o0, rfl⟩ := shape_bool6 g0
        obtain ⟨k2, e2, -, w2⟩ := DataW.trod_int Try.underlying5 g1
        obtain ⟨k3, e3, -, w3⟩ := DataW.trod_int Try.underlying3 g2
        obtain ⟨k4, e4, -, w4⟩ := DataW.trod_int Try.underlying3 g3
        simp at e2 e3 e4
        subst e2 e3 e4
        have b2 := bounds_u8 w2
        have b3 := bounds_i64 w3
        have b4 := bounds_i64 w4
        have t2 : ((k2.toNat : Nat) : Int) = k2 := by omega
        have z0 := hcell 0 (by omega)
        have z1 := hcell 1 (by omega)
        have z2 := hcell 2 (by omega)
        have z3 := hcell 3 (by omega)
        exact ⟨o0, k2.toNat, k3, k4, by simpa using z0, by rw [t2]; simpa using z1, by simpa using z2, by simpa using z3, by omega, by omega, by omega⟩
    by_cases h0 : len = 0
    · exact .inl h0
    · right
      obtain ⟨b, off, spot⟩ := a'
      have hspot : spot = none := by
        obtain ⟨_, _, _, _, z0, -⟩ := each 0 (by omega)
        simpa [Addr.add] using World.cell?_spot z0
      subst hspot
      refine ⟨b, off, rfl, hl, hm, ?_, ?_⟩
      · obtain ⟨_, _, _, _, z0, -⟩ := each 0 (by omega)
        have := cell_lt5 z0
        simpa [Addr.add] using this
      · intro i hi
        obtain ⟨add, c, x, y, z0, z1, z2, z3, r⟩ := each i hi
        simp only [add_plain] at z0 z1 z2 z3
        exact ⟨add, c, x, y, z0, z1, z2, z3, r⟩
end Go.Proofs.Ytdnjddnjaekgeaa
