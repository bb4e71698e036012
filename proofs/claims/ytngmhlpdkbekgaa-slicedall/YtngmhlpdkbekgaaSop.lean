import Derived.Test.YtngmhlpdkbekgaaSal
namespace Go.Proofs.Ytngmhlpdkbekgaa
open Go.ChangeShapes Go.WideShapes Go.ChangeAt Go.RowKit Go.Deep
set_option linter.unusedVariables false

theorem weightsAll_mem7 {H : Type} {P : Program} {e : TypeId} {d : DataW H} {n : Nat} (hn : n ∈ d.weights P e) : ∀ {l : List (DataW H)}, d ∈ l → n ∈ DataW.weightsAll P e l
  | d0 :: l, h => by
    rw [DataW.weightsAll, List.mem_append]
    rcases List.mem_cons.1 h with rfl | h
    · exact .inl hn
    · exact .inr (weightsAll_mem7 hn h)

/-- the shape of a slice's cell. -/
theorem shape_slice7 {H : Type} {enc : TypeId × Value → H} {W : World} {base : Nat} {held : Bool} {fuel : Nat} {v : Value} {x : DataW H × List MemPlace}
    (h : DataW.trod enc Try.prog W base (fun _ => true) held fuel 25 [v] = some x) : ∃ a len cap, v = .slice a len cap := by
  rcases open_slice Try.underlying25 h with ⟨hcs, _⟩ | ⟨a', len', cap', m, n, D, Pl, hcs, _⟩
  · simp at hcs; exact ⟨_, _, _, hcs⟩
  · simp at hcs; exact ⟨_, _, _, hcs⟩

theorem shape_bool7 {H : Type} {enc : TypeId × Value → H} {W : World} {base : Nat} {spare : Nat → Bool} {held : Bool} {fuel : Nat} {v : Value} {x : DataW H × List MemPlace}
    (h : DataW.trod enc Try.prog W base spare held fuel 4 [v] = some x) : ∃ b, v = .bool b := by
  obtain ⟨b, h1, -⟩ := DataW.trod_bool Try.underlying4 h
  exact ⟨b, by simpa using h1⟩
theorem open_bytesW7 {H : Type} {enc : TypeId × Value → H} {W : World} {base : Nat} {held : Bool} {fuel : Nat} {a : Option Addr} {len cap : Nat} {x : DataW H × List MemPlace}
    (h : DataW.trod enc Try.prog W base (fun _ => true) held fuel 25 [.slice a len cap] = some x) (hsz : ∀ n ∈ x.1.weights Try.prog 25, n ≤ reachBytes) : Rbm W a len cap :=
  open_bytes5 h (fun el sp he => by
    refine hsz _ ?_
    rw [he]
    simp [DataW.weights, Try.underlying25])

theorem shape_words7 {H : Type} {enc : TypeId × Value → H} {W : World} {base : Nat} {held : Bool} {fuel : Nat} {v : Value} {x : DataW H × List MemPlace}
    (h : DataW.trod enc Try.prog W base (fun _ => true) held fuel 41 [v] = some x) : ∃ a len cap, v = .slice a len cap := by
  rcases open_slice Try.underlying41 h with ⟨hcs, _⟩ | ⟨a', len', cap', m, n, D, Pl, hcs, _⟩
  · simp at hcs; exact ⟨_, _, _, hcs⟩
  · simp at hcs; exact ⟨_, _, _, hcs⟩
theorem bytes_u64 : Try.prog.bytesOf 40 = 8 := by kernel_rfl
theorem open_words7 {H : Type} {enc : TypeId × Value → H} {W : World} {base : Nat} {held : Bool} {fuel : Nat} {a : Option Addr} {len cap : Nat} {x : DataW H × List MemPlace}
    (h : DataW.trod enc Try.prog W base (fun _ => true) held fuel 41 [.slice a len cap] = some x)
    (hsz : ∀ n ∈ x.1.weights Try.prog 41, n ≤ reachBytes) : len * 8 ≤ 140737488351232 ∧ ∃ F, Rq W (.slice a len cap) len F := by
  have hsz2 : ∀ elems spare, x.1 = .slice elems spare → (elems.length + spare.length) * Try.prog.bytesOf 40 ≤ reachBytes := fun el sp he => by
    refine hsz _ ?_
    rw [he]
    simp [DataW.weights, Try.underlying41]
  rcases open_slice Try.underlying41 h with ⟨hcs, _⟩ | ⟨a', len', cap', m, n, D, Pl, hcs, hb, hl, hm, hmm, hxe, hx⟩
  · simp at hcs
    obtain ⟨rfl, rfl, rfl⟩ := hcs
    exact ⟨by omega, fun _ => 0, by unfold big; omega, fun i hi => absurd hi (Nat.not_lt_zero _), _, _, rfl, by omega, by unfold big; omega, fun h => absurd h (Nat.lt_irrefl _)⟩
  · simp at hcs
    obtain ⟨rfl, rfl, rfl⟩ := hcs
    have hm' : cap * 8 ≤ 140737488351232 := by
      have := hsz2 _ _ (by rw [hxe])
      rw [bytes_u64] at this
      simp only [List.length_map, List.length_range, reachBytes] at this
      simp at hmm
      omega
    have hlm : len ≤ m := by rw [hmm]; split <;> omega
    have c5 : Try.prog.cellsOf 40 = 1 := by kernel_rfl
    have each : ∀ i, i < len → ∃ v : Nat, v < 18446744073709551616 ∧ W.cell? ((a'.add i).add 0) = some (.int .u64 (v : Nat)) := by
      intro i hi
      obtain ⟨cs', h1, h2⟩ := hx i (by omega)
      rw [c5] at h1
      obtain ⟨_, hlen, hcell⟩ := World.cells?_some h1
      match cs', hlen with
      | [v0], _ =>
        obtain ⟨k0, e0, -, w0⟩ := DataW.trod_int Try.underlying40 h2
        simp at e0
        subst e0
        have b0 := bounds_u64 w0
        have t0 : ((k0.toNat : Nat) : Int) = k0 := by omega
        have z0 := hcell 0 (by omega)
        exact ⟨k0.toNat, by omega, by rw [t0]; simpa using z0⟩
    by_cases h0 : len = 0
    · subst h0
      exact ⟨by omega, fun _ => 0, by unfold big; omega, fun i hi => absurd hi (Nat.not_lt_zero _), _, _, rfl, by omega, by unfold big; omega, fun h => absurd h (Nat.lt_irrefl _)⟩
    · obtain ⟨b, off, spot⟩ := a'
      have hspot : spot = none := by
        obtain ⟨v, -, z0⟩ := each 0 (by omega)
        simpa [Addr.add] using World.cell?_spot z0
      subst hspot
      have each' : ∀ i, i < len → ∃ v : Nat, v < 18446744073709551616 ∧ W.cell? ⟨b, off + i, none⟩ = some (.int .u64 (v : Nat)) := by
        intro i hi
        obtain ⟨v, hv, z⟩ := each i hi
        simp only [add_plain, Nat.add_zero] at z
        exact ⟨v, hv, z⟩
      refine ⟨by omega, fun i => if h : i < len then (each' i h).choose else 0, by unfold big; omega, fun i hi => ?_, _, _, rfl, hl, by unfold big; omega, fun _ => ⟨b, off, rfl, ?_, fun i hi => ?_⟩⟩
      · simp only [dif_pos hi]
        exact (each' i hi).choose_spec.1
      · obtain ⟨v, -, z0⟩ := each' 0 (by omega)
        exact cell_lt5 z0
      · simp only [dif_pos hi]
        exact (each' i hi).choose_spec.2

def OpAt7' (w : World) (a : Addr) (kind : Int) (c : Nat) (xD : Option Addr) (nD cD : Nat) (xS : Option Addr) (nS cS wv : Nat) (xW : Option Addr) (nW cW : Nat) (self : Bool) : Prop :=
  w.cell? (a.add 0) = some (.int .i64 kind) ∧ w.cell? (a.add 1) = some (.int .u8 (c : Int)) ∧ w.cell? (a.add 2) = some (.slice xD nD cD) ∧ w.cell? (a.add 3) = some (.slice xS nS cS) ∧ w.cell? (a.add 4) = some (.int .u64 (wv : Int)) ∧
  w.cell? (a.add 5) = some (.slice xW nW cW) ∧ w.cell? (a.add 6) = some (.bool self) ∧ In7 w c xD nD cD xS nS cS wv xW nW cW

set_option maxHeartbeats 2000000 in
theorem open_ops7 {H : Type} {enc : TypeId × Value → H} {W : World} {base : Nat} {held : Bool} {fuel : Nat} {a : Option Addr} {len cap : Nat} {x : DataW H × List MemPlace}
    (h : DataW.trod enc Try.prog W base (fun _ => true) held fuel 22 [.slice a len cap] = some x) (hsz : ∀ n ∈ x.1.weights Try.prog 22, n ≤ reachBytes) : IsOps7 W a len cap := by
  rcases open_slice Try.underlying22 h with ⟨hcs, _⟩ | ⟨a', len', cap', m, n, D, Pl, hcs, hb, hl, hm, hmm, hxe, hx⟩
  · simp at hcs
    obtain ⟨rfl, rfl, rfl⟩ := hcs
    exact ⟨by unfold maxLen; omega, .inl rfl⟩
  · simp at hcs
    obtain ⟨rfl, rfl, rfl⟩ := hcs
    refine ⟨by omega, ?_⟩
    have hlm : len ≤ m := by rw [hmm]; split <;> omega
    have c7 : Try.prog.cellsOf 43 = 7 := by kernel_rfl
    have c3 : Try.prog.cellsOf 3 = 1 := by kernel_rfl
    have c4 : Try.prog.cellsOf 4 = 1 := by kernel_rfl
    have c5 : Try.prog.cellsOf 5 = 1 := by kernel_rfl
    have c40 : Try.prog.cellsOf 40 = 1 := by kernel_rfl
    have c25 : Try.prog.cellsOf 25 = 1 := by kernel_rfl
    have c41 : Try.prog.cellsOf 41 = 1 := by kernel_rfl
    have each : ∀ i, i < len → ∃ kind c xD nD cD xS nS cS wv xW nW cW self, OpAt7' W (a'.add (i * 7)) kind c xD nD cD xS nS cS wv xW nW cW self := by
      intro i hi
      obtain ⟨cs', h1, h2⟩ := hx i (by omega)
      rw [c7] at h1
      obtain ⟨_, hlen, hcell⟩ := World.cells?_some h1
      obtain ⟨xs, k, hk, hxy, _, hxl, hf⟩ := DataW.trod_struct Try.underlying43 h2
      have hD : D i = .agg (xs.map (·.1)) := congrArg Prod.fst hxy
      have mD : D i ∈ (List.range len).map D := List.mem_map.2 ⟨i, List.mem_range.2 hi, rfl⟩
      have wts : ∀ n ∈ (D i).weights Try.prog 43, n ≤ reachBytes := fun n hn => hsz n (by
        rw [hxe]
        simp only [DataW.weights, Try.underlying22]
        exact List.mem_cons_of_mem _ (List.mem_append.2 (.inl (weightsAll_mem7 hn mD))))
      rw [hD] at wts
      simp only [DataW.weights, Try.underlying43] at wts
      obtain ⟨y0, y1, y2, y3, y4, y5, y6, hxs⟩ : ∃ y0 y1 y2 y3 y4 y5 y6, xs = [y0, y1, y2, y3, y4, y5, y6] := by
        match xs, hxl with
        | [y0, y1, y2, y3, y4, y5, y6], _ => exact ⟨_, _, _, _, _, _, _, rfl⟩
      obtain ⟨v0, v1, v2, v3, v4, v5, v6, hcs'⟩ : ∃ v0 v1 v2 v3 v4 v5 v6, cs' = [v0, v1, v2, v3, v4, v5, v6] := by
        match cs', hlen with
        | [v0, v1, v2, v3, v4, v5, v6], _ => exact ⟨_, _, _, _, _, _, _, rfl⟩
      subst hxs hcs'
      have g0 := hf 0 _ rfl
      have g1 := hf 1 _ rfl
      have g2 := hf 2 _ rfl
      have g3 := hf 3 _ rfl
      have g4 := hf 4 _ rfl
      have g5 := hf 5 _ rfl
      have g6 := hf 6 _ rfl
      simp [c3, c4, c5, c25, c40, c41] at g0 g1 g2 g3 g4 g5 g6
      obtain ⟨k0, e0, -, w0⟩ := DataW.trod_int Try.underlying3 g0
      obtain ⟨k1, e1, -, w1⟩ := DataW.trod_int Try.underlying5 g1
      obtain ⟨a2, n2, q2, rfl⟩ := shape_slice7 g2
      obtain ⟨a3, n3, q3, rfl⟩ := shape_slice7 g3
      obtain ⟨k4, e4, -, w4⟩ := DataW.trod_int Try.underlying40 g4
      obtain ⟨a5, n5, q5, rfl⟩ := shape_words7 g5
      obtain ⟨o6, rfl⟩ := shape_bool7 g6
      have b2 := open_bytesW7 g2 (fun n hn => wts n (DataW.weights_mem_each (j := 2) rfl rfl n hn))
      have b3 := open_bytesW7 g3 (fun n hn => wts n (DataW.weights_mem_each (j := 3) rfl rfl n hn))
      have b5 := open_words7 g5 (fun n hn => wts n (DataW.weights_mem_each (j := 5) rfl rfl n hn))
      simp at e0 e1 e4
      subst e0 e1 e4
      have d1 := bounds_u8 w1
      have d4 := bounds_u64 w4
      have t1 : ((k1.toNat : Nat) : Int) = k1 := by omega
      have t4 : ((k4.toNat : Nat) : Int) = k4 := by omega
      have z0 := hcell 0 (by omega)
      have z1 := hcell 1 (by omega)
      have z2 := hcell 2 (by omega)
      have z3 := hcell 3 (by omega)
      have z4 := hcell 4 (by omega)
      have z5 := hcell 5 (by omega)
      have z6 := hcell 6 (by omega)
      exact ⟨k0, k1.toNat, a2, n2, q2, a3, n3, q3, k4.toNat, a5, n5, q5, o6, by simpa using z0, by rw [t1]; simpa using z1, by simpa using z2, by simpa using z3, by rw [t4]; simpa using z4, by simpa using z5, by simpa using z6, by omega, by omega, b2.1, b3.1, b5.1, b2.2, b3.2, b5.2⟩
    by_cases h0 : len = 0
    · exact .inl h0
    · right
      obtain ⟨b, off, spot⟩ := a'
      have hspot : spot = none := by
        obtain ⟨_, _, _, _, _, _, _, _, _, _, _, _, _, z0, -⟩ := each 0 (by omega)
        simpa [Addr.add] using World.cell?_spot z0
      subst hspot
      refine ⟨b, off, rfl, hl, hm, ?_, ?_⟩
      · obtain ⟨_, _, _, _, _, _, _, _, _, _, _, _, _, z0, -⟩ := each 0 (by omega)
        have := cell_lt5 z0
        simpa [Addr.add] using this
      · intro i hi
        obtain ⟨kind, c, xD, nD, cD, xS, nS, cS, wv, xW, nW, cW, self, z0, z1, z2, z3, z4, z5, z6, r⟩ := each i hi
        simp only [add_plain] at z0 z1 z2 z3 z4 z5 z6
        exact ⟨kind, c, xD, nD, cD, xS, nS, cS, wv, xW, nW, cW, self, z0, z1, z2, z3, z4, z5, z6, r⟩
end Go.Proofs.Ytngmhlpdkbekgaa
