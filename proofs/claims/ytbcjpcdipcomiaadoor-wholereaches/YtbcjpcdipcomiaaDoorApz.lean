import Derived.Test.YtbcjpcdipcomiaaDoorLca
import Derived.Deep.AppendSrc
namespace Go.Proofs.YtbcjpcdipcomiaaDoor
open Go.RowKit Gf2
set_option linter.unusedVariables false

-- noughts appended: append(x, make([]uint16, n)...)
theorem run_zeros_room {P : Program} (w : World) (t tn ty e : TypeId) (i : TypeInfo) (z : Value) (k kn : IntKind) (ht : P.underlying t = some (.slice e)) (htn : P.underlying tn = some (.int kn)) (hi : P.info? e = some i) (hz : i.zero = some z)
    (b off sLen sCap n : Nat) (news : List Value) (hnews : Builtin.zeroCells z.cells n = news.toArray) (one : ∀ u ∈ news, u.oneCell' = true) (h0 : 0 < n) (hs : 0 < i.size) (h63 : (n : Int) ≤ 9223372036854775807) (h48 : n * i.bytes ≤ 281474976710656)
    (hroom : sLen + n ≤ sCap) (hc : ∀ j, j < news.length → (w.cell? ⟨b, off + sLen * i.size + j, none⟩).isSome = true) (hf : ∀ j, j < news.length → w.frozen? ⟨b, off + sLen * i.size + j, none⟩ = false) :
    (Builtin.append_ #[t, tn] ty #[.slice (some ⟨b, off, none⟩) sLen sCap, .int k n]).run P w = .ok (.slice (some ⟨b, off, none⟩) (sLen + n) sCap) (w.setCells b (off + sLen * i.size) news) := by
  have hn : n ≠ 0 := by omega
  have hw : IntKind.i64.wrap (n : Int) = n := by rw [IntKind.wrap_i64]; omega
  have h48i : ¬ (281474976710656 < (n : Int) * (i.bytes : Int)) := by
    rw [← Int.natCast_mul]
    omega
  have hneg : ¬ ((n : Int) < 0) := by omega
  have hns : ¬ (n * i.size = 0) := Nat.mul_ne_zero hn (by omega)
  have hst := run_storeCells_cells (P := P) b (off + sLen * i.size) news 0 w (by simpa using hc) (by simpa using hf) one
  simp only [Nat.add_zero] at hst
  simp [Builtin.append_, run_underlying ht, run_underlying htn, sizeOf, typeInfo, zeroValue, hi, hz, asInt, asIntOf, hw, hneg, hns, h48i, hroom, hnews, Addr.add_lit, hst]
theorem run_zeros_grow {P : Program} (w : World) (t tn ty e : TypeId) (i : TypeInfo) (z : Value) (k kn : IntKind) (ht : P.underlying t = some (.slice e)) (htn : P.underlying tn = some (.int kn)) (hi : P.info? e = some i) (hz : i.zero = some z)
    (base : Option Addr) (sLen sCap n : Nat) (olds news : List Value) (hold : (Builtin.firstCells i.size sLen (.slice base sLen sCap)).run P w.drew = .ok olds.toArray w.drew) (hnews : Builtin.zeroCells z.cells n = news.toArray) (h0 : 0 < n) (hs : 0 < i.size)
    (h63 : ((sLen + n : Nat) : Int) ≤ 9223372036854775807) (h48 : n * i.bytes ≤ 281474976710656) (hg : sCap < sLen + n) (hfit : Builtin.nextslicecap (sLen + n) sCap * i.bytes ≤ 281474976710656) :
    (Builtin.append_ #[t, tn] ty #[.slice base sLen sCap, .int k n]).run P w =
      .ok (.slice (some ⟨w.heap.size, 0, none⟩) (sLen + n) (grownCap w (sLen + n) sCap e))
        (w.drew.alloc (.cells ((olds ++ news).toArray ++ Builtin.zeroCells z.cells (grownCap w (sLen + n) sCap e - (sLen + n))) e)) := by
  have hn0 : n ≠ 0 := by omega
  have hw : IntKind.i64.wrap (n : Int) = n := by rw [IntKind.wrap_i64]; omega
  have h48i : ¬ (281474976710656 < (n : Int) * (i.bytes : Int)) := by
    rw [← Int.natCast_mul]
    omega
  have hneg : ¬ ((n : Int) < 0) := by omega
  have hns : ¬ (n * i.size = 0) := Nat.mul_ne_zero hn0 (by omega)
  have hn : ¬ (sLen + n ≤ sCap) := by omega
  have h63' : ¬ (9223372036854775807 < ((sLen : Int) + (n : Int))) := by omega
  have h48' : ¬ (281474976710656 < Builtin.nextslicecap (sLen + n) sCap * i.bytes) := by omega
  simp [Builtin.append_, run_underlying ht, run_underlying htn, sizeOf, typeInfo, zeroValue, hi, hz, asInt, asIntOf, hw, hneg, hns, h48i, hn, h63', h48', Question.forced, hold, hnews, newRow, grownCap]
  all_goals (congr 2; apply Array.ext'; simp [List.append_assoc])
theorem zeros_bh : ∀ n, Builtin.zeroCells (Value.int .u16 0).cells n = (bh n (fun _ => 0)).toArray := by
  intro n
  apply Array.ext_getElem?
  intro j
  by_cases h : j < n
  · have e : (bh n (fun _ => 0)).toArray[j]? = some (Value.int .u16 ((0 : Nat) : Int)) := by rw [List.getElem?_toArray]; exact bh_get _ _ _ h
    rw [e]
    simp [Builtin.zeroCells, Value.cells, h, Nat.mod_one]
  · have e : (bh n (fun _ => 0)).toArray[j]? = none := by rw [List.getElem?_toArray]; exact List.getElem?_eq_none (by rw [bh_len]; omega)
    rw [e]
    exact Array.getElem?_eq_none (by rw [size_zeroCells]; show n * 1 ≤ j; omega)
/-- n noughts more behind the first L of a row. -/
theorem app0 (w : World) {g C L : Nat} {F : Nat → Nat} (hr : R6 w g C F) (hL : L ≤ C) {n : Nat} (h0 : 0 < n) (hn : (L + n) * 2 ≤ 140737488355328) :
    ∃ w' g' C' F', (Builtin.append_ #[22, 3] 22 #[.slice (some ⟨g, 0, none⟩) L C, .int .i64 (n : Int)]).run Tryd.prog w = .ok (.slice (some ⟨g', 0, none⟩) (L + n) C') w' ∧
      L + n ≤ C' ∧ R6 w' g' C' F' ∧ (∀ i, i < L → F' i = F i) ∧ (∀ i, i < n → F' (L + i) = 0) ∧ ((g' = g ∧ Only g w w') ∨ (g' = w.heap.size ∧ w'.heap.size = w.heap.size + 1 ∧ Below w.heap.size w w')) := by
  obtain ⟨ti, hi, hz, hs1, hb1⟩ := info_w6a
  have hint : Tryd.prog.underlying 3 = some (.int .i64) := by kernel_rfl
  have hS : ∀ i, i < n → (fun _ => 0 : Nat → Nat) i < 65536 := fun _ _ => Nat.zero_lt_succ _
  by_cases hroom : L + n ≤ C
  · obtain ⟨k1, k2⟩ := setCells_r6 n (fun _ => 0) L w F hr hroom hS
    have hrun := run_zeros_room w 22 3 22 26 ti (Value.int .u16 0) .i64 .i64 Tryd.underlying22 hint hi hz g 0 L C n (bh n (fun _ => 0)) (zeros_bh n) bh_one h0 (by omega) (by omega) (by rw [hb1]; omega) hroom
      (fun j hj => by rw [bh_len] at hj; rw [hs1, Nat.mul_one, Nat.zero_add, hr.2.2.cell (i := L + j) (by omega)]; rfl)
      (fun j hj => by rw [hs1, Nat.mul_one, Nat.zero_add]; exact hr.2.2.frozen _)
    rw [hs1, Nat.mul_one, Nat.zero_add] at hrun
    exact ⟨_, g, C, _, hrun, hroom, k1, fun i hi => pl_out (by omega), fun i hi => pl_in hi, .inl ⟨rfl, k2⟩⟩
  · have hold : (Builtin.firstCells ti.size L (.slice (some ⟨g, 0, none⟩) L C)).run Tryd.prog w.drew = .ok (bh L F).toArray w.drew := by
      refine run_firstCells_some w.drew ti.size L ⟨g, 0, none⟩ L C (bh L F) (by rw [bh_len, hs1, Nat.mul_one]) (fun j u hu => ?_)
      have hj : j < L := by
        rcases Nat.lt_or_ge j L with h9 | h9
        · exact h9
        · rw [List.getElem?_eq_none (by rw [bh_len]; exact h9)] at hu; cases hu
      rw [bh_get L F j hj] at hu
      cases hu
      rw [Addr.add_lit, Nat.zero_add]
      exact hr.2.2.cell (i := j) (by omega)
    have hrun := run_zeros_grow w 22 3 22 26 ti (Value.int .u16 0) .i64 .i64 Tryd.underlying22 hint hi hz (some ⟨g, 0, none⟩) L C n (bh L F) (bh n (fun _ => 0)) hold (zeros_bh n) h0 (by omega) (by omega) (by rw [hb1]; omega) (by omega) (growslice_fits (by omega) (by rw [hb1]; exact hn))
    have hge := grownCap_ge w (L + n) C 26
    have hcm := grownCap_le_maxLen w (L + n) C 26 (by unfold maxLen; omega)
    obtain ⟨C', hC'⟩ : ∃ C', C' = grownCap w (L + n) C 26 := ⟨_, rfl⟩
    rw [← hC'] at hrun hge hcm
    have hF0 : ∀ i, i < L → F i < 65536 := fun i hi => hr.2.1 i (by omega)
    refine ⟨_, w.heap.size, C', fun i => if i < L then F i else if i < L + n then 0 else 0, hrun, hge, ⟨by unfold big; unfold maxLen at hcm; exact hcm, fun i hi => ?_, _, heap_alloc_new _ _, ?_, fun i hi => ?_⟩, fun i hi => if_pos hi, fun i hi => ?_, .inr ⟨rfl, by simp, ?_⟩⟩
    · dsimp only
      split
      · exact hF0 i (by assumption)
      · split <;> decide
    · rw [Array.size_append, List.size_toArray, List.length_append, bh_len, bh_len, size_zeroCells]
      show L + n + (C' - (L + n)) * 1 = C'
      omega
    · show _ = some (Value.int .u16 (((if i < L then F i else if i < L + n then 0 else 0) : Nat) : Int))
      by_cases e1 : i < L
      · rw [if_pos e1, Array.getElem?_append_left (by simp [bh_len]; omega), List.getElem?_toArray, List.getElem?_append_left (by rw [bh_len]; exact e1), bh_get _ _ _ e1]
      · by_cases e2 : i < L + n
        · rw [if_neg e1, if_pos e2, Array.getElem?_append_left (by simp [bh_len]; omega), List.getElem?_toArray, List.getElem?_append_right (by rw [bh_len]; omega), bh_len, bh_get _ _ _ (by omega)]
        · rw [if_neg e1, if_neg e2, Array.getElem?_append_right (by simp [bh_len]; omega)]
          have hk : i - ((bh L F ++ bh n (fun _ => 0)).toArray).size < C' - (L + n) := by simp [bh_len]; omega
          generalize i - ((bh L F ++ bh n (fun _ => 0)).toArray).size = k at hk
          simp [Builtin.zeroCells, Value.cells, hk, Nat.mod_one]
    · show (if L + i < L then F (L + i) else if L + i < L + n then 0 else 0) = 0
      rw [if_neg (by omega)]
      split <;> rfl
    · exact ((Below.refl w.heap.size w).drew).alloc (by simp) _
theorem r6_lit14 (w : World) : R6 (w.alloc (.cells #[] 26)) w.heap.size 0 (fun _ => 0) :=
  ⟨by decide, fun i hi => absurd hi (Nat.not_lt_zero _), _, heap_alloc_new _ _, rfl, fun i hi => absurd hi (Nat.not_lt_zero _)⟩
/-- append([]uint16{}, x...). -/
theorem app_lit14 (w : World) {x : Option Addr} {n cx : Nat} {S : Nat → Nat} (h : Q6 w (.slice x n cx) n S) (hn : n * 2 ≤ 140737488355328) :
    ∃ w' g C F, (Builtin.append_ #[22, 22] 22 #[.slice (some ⟨w.heap.size, 0, none⟩) 0 0, .slice x n cx]).run Tryd.prog (w.alloc (.cells #[] 26)) = .ok (.slice (some ⟨g, 0, none⟩) n C) w' ∧
      n ≤ C ∧ w.heap.size ≤ g ∧ R6 w' g C F ∧ (∀ i, i < n → F i = S i) ∧ Below w.heap.size w w' := by
  have hb0 : Below w.heap.size w (w.alloc (.cells #[] 26)) := (Below.refl _ _).alloc (Nat.le_refl _) _
  obtain ⟨-, hS, a, cap, e, -, -, h4⟩ := h
  cases e
  obtain ⟨w', g, C, F, hrun, hC, hR, -, hF, hcase⟩ := app16 (w.alloc (.cells #[] 26)) (g := w.heap.size) (C := 0) (L := 0) (r6_lit14 w) (Nat.le_refl _) (x := x) (n := n) (cx := cx) (S := S) hS (fun h0 => by
    obtain ⟨b, o, e, hl, hc⟩ := h4 h0
    exact ⟨b, o, e, fun i hi => (hb0.cell (p := ⟨b, o + i, none⟩) hl).trans (hc i hi)⟩) (by omega)
  have hs : (w.alloc (.cells #[] 26)).heap.size = w.heap.size + 1 := by simp
  rw [Nat.zero_add] at hrun hC
  refine ⟨w', g, C, F, hrun, hC, ?_, hR, fun i hi => by rw [← hF i hi, Nat.zero_add], ?_⟩
  · rcases hcase with ⟨rfl, -⟩ | ⟨rfl, -, -⟩ <;> omega
  · rcases hcase with ⟨rfl, ho⟩ | ⟨rfl, -, hb⟩
    · exact hb0.trans (ho.below (Nat.le_refl _))
    · exact hb0.trans (hb.mono (by omega))
end Go.Proofs.YtbcjpcdipcomiaaDoor
