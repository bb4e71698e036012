import Derived.Test.YtefhlnplegagfaaEbv
namespace Go.Proofs.Ytefhlnplegagfaa
open Go.ChangeShapes Go.WideShapes Go.ChangeAt Go.RowKit Go.Deep
set_option linter.unusedVariables false

theorem weightsAll_mem {H : Type} {P : Program} {e : TypeId} {d : DataW H} {n : Nat} (hn : n ∈ d.weights P e) : ∀ {l : List (DataW H)}, d ∈ l → n ∈ DataW.weightsAll P e l
  | d0 :: l, h => by
    rw [DataW.weightsAll, List.mem_append]
    rcases List.mem_cons.1 h with rfl | h
    · exact .inl hn
    · exact .inr (weightsAll_mem hn h)

/-- the shape of a slice's cell. -/
theorem shape_slice {H : Type} {enc : TypeId × Value → H} {W : World} {base : Nat} {held : Bool} {fuel : Nat} {v : Value} {x : DataW H × List MemPlace}
    (h : DataW.trod enc Try.prog W base (fun _ => true) held fuel 25 [v] = some x) : ∃ a len cap, v = .slice a len cap := by
  rcases open_slice Try.underlying25 h with ⟨hcs, _⟩ | ⟨a', len', cap', m, n, D, Pl, hcs, _⟩
  · simp at hcs; exact ⟨_, _, _, hcs⟩
  · simp at hcs; exact ⟨_, _, _, hcs⟩

theorem shape_bool {H : Type} {enc : TypeId × Value → H} {W : World} {base : Nat} {spare : Nat → Bool} {held : Bool} {fuel : Nat} {v : Value} {x : DataW H × List MemPlace}
    (h : DataW.trod enc Try.prog W base spare held fuel 4 [v] = some x) : ∃ b, v = .bool b := by
  obtain ⟨b, h1, -⟩ := DataW.trod_bool Try.underlying4 h
  exact ⟨b, by simpa using h1⟩
theorem open_bytesW {H : Type} {enc : TypeId × Value → H} {W : World} {base : Nat} {held : Bool} {fuel : Nat} {a : Option Addr} {len cap : Nat} {x : DataW H × List MemPlace}
    (h : DataW.trod enc Try.prog W base (fun _ => true) held fuel 25 [.slice a len cap] = some x) (hsz : ∀ n ∈ x.1.weights Try.prog 25, n ≤ reachBytes) : Rbm W a len cap :=
  open_bytes5 h (fun el sp he => by
    refine hsz _ ?_
    rw [he]
    simp [DataW.weights, Try.underlying25])

def OpAt5' (w : World) (a : Addr) (kind : Int) (c d : Nat) (xd : Option Addr) (nd cd : Nat) (xs : Option Addr) (ns cs : Nat) (same nl : Bool) (ahead behind : Int) : Prop :=
  w.cell? (a.add 0) = some (.int .i64 kind) ∧ w.cell? (a.add 1) = some (.int .u8 (c : Int)) ∧ w.cell? (a.add 2) = some (.int .u8 (d : Int)) ∧ w.cell? (a.add 3) = some (.slice xd nd cd) ∧ w.cell? (a.add 4) = some (.slice xs ns cs) ∧
  w.cell? (a.add 5) = some (.bool same) ∧ w.cell? (a.add 6) = some (.bool nl) ∧ w.cell? (a.add 7) = some (.int .i64 ahead) ∧ w.cell? (a.add 8) = some (.int .i64 behind) ∧ OpIn w c d xd nd cd xs ns cs

set_option maxHeartbeats 2000000 in
theorem open_ops5 {H : Type} {enc : TypeId × Value → H} {W : World} {base : Nat} {held : Bool} {fuel : Nat} {a : Option Addr} {len cap : Nat} {x : DataW H × List MemPlace}
    (h : DataW.trod enc Try.prog W base (fun _ => true) held fuel 22 [.slice a len cap] = some x) (hsz : ∀ n ∈ x.1.weights Try.prog 22, n ≤ reachBytes) : IsOps5 W a len cap := by
  rcases open_slice Try.underlying22 h with ⟨hcs, _⟩ | ⟨a', len', cap', m, n, D, Pl, hcs, hb, hl, hm, hmm, hxe, hx⟩
  · simp at hcs
    obtain ⟨rfl, rfl, rfl⟩ := hcs
    exact ⟨by unfold maxLen; omega, .inl rfl⟩
  · simp at hcs
    obtain ⟨rfl, rfl, rfl⟩ := hcs
    refine ⟨by omega, ?_⟩
    have hlm : len ≤ m := by rw [hmm]; split <;> omega
    have c9 : Try.prog.cellsOf 43 = 9 := by kernel_rfl
    have c3 : Try.prog.cellsOf 3 = 1 := by kernel_rfl
    have c4 : Try.prog.cellsOf 4 = 1 := by kernel_rfl
    have c5 : Try.prog.cellsOf 5 = 1 := by kernel_rfl
    have c25 : Try.prog.cellsOf 25 = 1 := by kernel_rfl
    have each : ∀ i, i < len → ∃ kind c d xd nd cd xs ns cs same nl ahead behind, OpAt5' W (a'.add (i * 9)) kind c d xd nd cd xs ns cs same nl ahead behind := by
      intro i hi
      obtain ⟨cs', h1, h2⟩ := hx i (by omega)
      rw [c9] at h1
      obtain ⟨_, hlen, hcell⟩ := World.cells?_some h1
      obtain ⟨xs, k, hk, hxy, _, hxl, hf⟩ := DataW.trod_struct Try.underlying43 h2
      have hD : D i = .agg (xs.map (·.1)) := congrArg Prod.fst hxy
      have mD : D i ∈ (List.range len).map D := List.mem_map.2 ⟨i, List.mem_range.2 hi, rfl⟩
      have wts : ∀ n ∈ (D i).weights Try.prog 43, n ≤ reachBytes := fun n hn => hsz n (by
        rw [hxe]
        simp only [DataW.weights, Try.underlying22]
        exact List.mem_cons_of_mem _ (List.mem_append.2 (.inl (weightsAll_mem hn mD))))
      rw [hD] at wts
      simp only [DataW.weights, Try.underlying43] at wts
      obtain ⟨y0, y1, y2, y3, y4, y5, y6, y7, y8, hxs⟩ : ∃ y0 y1 y2 y3 y4 y5 y6 y7 y8, xs = [y0, y1, y2, y3, y4, y5, y6, y7, y8] := by
        match xs, hxl with
        | [y0, y1, y2, y3, y4, y5, y6, y7, y8], _ => exact ⟨_, _, _, _, _, _, _, _, _, rfl⟩
      obtain ⟨v0, v1, v2, v3, v4, v5, v6, v7, v8, hcs'⟩ : ∃ v0 v1 v2 v3 v4 v5 v6 v7 v8, cs' = [v0, v1, v2, v3, v4, v5, v6, v7, v8] := by
        match cs', hlen with
        | [v0, v1, v2, v3, v4, v5, v6, v7, v8], _ => exact ⟨_, _, _, _, _, _, _, _, _, rfl⟩
      subst hxs hcs'
      have g0 := hf 0 _ rfl
      have g1 := hf 1 _ rfl
      have g2 := hf 2 _ rfl
      have g3 := hf 3 _ rfl
      have g4 := hf 4 _ rfl
      have g5 := hf 5 _ rfl
      have g6 := hf 6 _ rfl
      have g7 := hf 7 _ rfl
      have g8 := hf 8 _ rfl
      simp [c3, c4, c5, c25] at g0 g1 g2 g3 g4 g5 g6 g7 g8
      obtain ⟨k0, e0, -, w0⟩ := DataW.trod_int Try.underlying3 g0
      obtain ⟨k1, e1, -, w1⟩ := DataW.trod_int Try.underlying5 g1
      obtain ⟨k2, e2, -, w2⟩ := DataW.trod_int Try.underlying5 g2
      obtain ⟨a3, n3, q3, rfl⟩ := shape_slice g3
      obtain ⟨a4, n4, q4, rfl⟩ := shape_slice g4
      obtain ⟨k7, e7, -, w7⟩ := DataW.trod_int Try.underlying3 g7
      obtain ⟨k8, e8, -, w8⟩ := DataW.trod_int Try.underlying3 g8
      obtain ⟨o5, rfl⟩ := shape_bool g5
      obtain ⟨o6, rfl⟩ := shape_bool g6
      have b3 := open_bytesW g3 (fun n hn => wts n (DataW.weights_mem_each (j := 3) rfl rfl n hn))
      have b4 := open_bytesW g4 (fun n hn => wts n (DataW.weights_mem_each (j := 4) rfl rfl n hn))
      simp at e0 e1 e2 e7 e8
      subst e0 e1 e2 e7 e8
      have d1 := bounds_u8 w1
      have d2 := bounds_u8 w2
      have t1 : ((k1.toNat : Nat) : Int) = k1 := by omega
      have t2 : ((k2.toNat : Nat) : Int) = k2 := by omega
      have z0 := hcell 0 (by omega)
      have z1 := hcell 1 (by omega)
      have z2 := hcell 2 (by omega)
      have z3 := hcell 3 (by omega)
      have z4 := hcell 4 (by omega)
      have z5 := hcell 5 (by omega)
      have z6 := hcell 6 (by omega)
      have z7 := hcell 7 (by omega)
      have z8 := hcell 8 (by omega)
      exact ⟨k0, k1.toNat, k2.toNat, a3, n3, q3, a4, n4, q4, o5, o6, k7, k8, by simpa using z0, by rw [t1]; simpa using z1, by rw [t2]; simpa using z2, by simpa using z3, by simpa using z4, by simpa using z5, by simpa using z6, by simpa using z7, by simpa using z8, by omega, by omega, b3.1, b4.1, b3.2, b4.2⟩
    by_cases h0 : len = 0
    · exact .inl h0
    · right
      obtain ⟨b, off, spot⟩ := a'
      have hspot : spot = none := by
        obtain ⟨_, _, _, _, _, _, _, _, _, _, _, _, _, z0, -⟩ := each 0 (by omega)
        simpa [Addr.add] using World.cell?_spot z0
      subst hspot
      refine ⟨b, off, rfl, hl, hm, ?_, ?_⟩
      · obtain ⟨_, _, _, _, _, _, _, _, _, _, _, _, _, z0, -⟩ := each 0 (by omega)
        have := cell_lt5 z0
        simpa [Addr.add] using this
      · intro i hi
        obtain ⟨kind, c, d, xd, nd, cd, xs, ns, cs, same, nl, ahead, behind, z0, z1, z2, z3, z4, z5, z6, z7, z8, r⟩ := each i hi
        simp only [add_plain] at z0 z1 z2 z3 z4 z5 z6 z7 z8
        exact ⟨kind, c, d, xd, nd, cd, xs, ns, cs, same, nl, ahead, behind, z0, z1, z2, z3, z4, z5, z6, z7, z8, r⟩
end Go.Proofs.Ytefhlnplegagfaa
