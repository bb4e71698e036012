import Derived.Test.YtefolifecbhgoaaGreatMbat
namespace Go.Proofs.YtefolifecbhgoaaGreat
open Go.RowKit Gf2
set_option linter.unusedVariables false

theorem shl_int (m j : Nat) (hm : m < 256) (hj : j < 8) : IntKind.u64.wrap ((m : Int) * ((256 ^ j : Nat) : Int)) = ((m * 256 ^ j : Nat) : Int) := by
  have p := pow256 j hj
  have hmm : m * 256 ^ j ≤ 255 * 256 ^ j := Nat.mul_le_mul_right _ (by omega)
  have : 0 < 256 ^ j := Nat.pow_pos (by decide)
  rw [show (m : Int) * ((256 ^ j : Nat) : Int) = ((m * 256 ^ j : Nat) : Int) from (Int.natCast_mul _ _).symm, IntKind.wrap_u64]; omega
theorem or_int (a m j : Nat) (ha : a < 256 ^ j) (hm : m < 256) (hj : j < 8) : bits .or .u64 (a : Int) ((m * 256 ^ j : Nat) : Int) = ((a + m * 256 ^ j : Nat) : Int) := by
  have p := pow256 j hj
  have hmm : m * 256 ^ j ≤ 255 * 256 ^ j := Nat.mul_le_mul_right _ (by omega)
  have : 0 < 256 ^ j := Nat.pow_pos (by decide)
  rw [u64_or_nat _ _ (by omega) (by omega), or_top ha]

set_option maxHeartbeats 4000000 in
set_option maxRecDepth 100000 in
theorem load_nat (h q n cx : Nat) (S : Nat → Nat) (w : World) (hn : 8 ≤ n) (hS : ∀ i, i < 8 → S i < 256) (hc : ∀ i, i < 8 → w.cell? ⟨h, q + i, none⟩ = some (.int .u8 (S i : Nat))) :
    Calls Tryz.prog 199 #[.slice (some ⟨h, q, none⟩) n cx] w fun e w' => e = .returned (.int .u64 (wbs S 8 : Nat)) ∧ w' = w.drew := by
  have q0 := hc 0 (by decide)
  have l0 := hS 0 (by decide)
  have i0 : (0 : Int) < (n : Int) := by omega
  have C0 : IntKind.u64.wrap ((S 0 : Nat) : Int) = ((S 0 : Nat) : Int) := by rw [IntKind.wrap_u64]; omega
  have q1 := hc 1 (by decide)
  have l1 := hS 1 (by decide)
  have i1 : (1 : Int) < (n : Int) := by omega
  have C1 : IntKind.u64.wrap ((S 1 : Nat) : Int) = ((S 1 : Nat) : Int) := by rw [IntKind.wrap_u64]; omega
  have M1 : IntKind.u64.wrap (((S 1 : Nat) : Int) * 256) = ((S 1 * 256 ^ 1 : Nat) : Int) := shl_int (S 1) 1 l1 (by decide)
  have O1 := or_int (wbs S 1) (S 1) 1 (wbs_lt (fun i hi => hS i (by omega))) l1 (by decide)
  rw [show wbs S 1 + S 1 * 256 ^ 1 = wbs S 2 from rfl] at O1
  have q2 := hc 2 (by decide)
  have l2 := hS 2 (by decide)
  have i2 : (2 : Int) < (n : Int) := by omega
  have C2 : IntKind.u64.wrap ((S 2 : Nat) : Int) = ((S 2 : Nat) : Int) := by rw [IntKind.wrap_u64]; omega
  have M2 : IntKind.u64.wrap (((S 2 : Nat) : Int) * 65536) = ((S 2 * 256 ^ 2 : Nat) : Int) := shl_int (S 2) 2 l2 (by decide)
  have O2 := or_int (wbs S 2) (S 2) 2 (wbs_lt (fun i hi => hS i (by omega))) l2 (by decide)
  rw [show wbs S 2 + S 2 * 256 ^ 2 = wbs S 3 from rfl] at O2
  have q3 := hc 3 (by decide)
  have l3 := hS 3 (by decide)
  have i3 : (3 : Int) < (n : Int) := by omega
  have C3 : IntKind.u64.wrap ((S 3 : Nat) : Int) = ((S 3 : Nat) : Int) := by rw [IntKind.wrap_u64]; omega
  have M3 : IntKind.u64.wrap (((S 3 : Nat) : Int) * 16777216) = ((S 3 * 256 ^ 3 : Nat) : Int) := shl_int (S 3) 3 l3 (by decide)
  have O3 := or_int (wbs S 3) (S 3) 3 (wbs_lt (fun i hi => hS i (by omega))) l3 (by decide)
  rw [show wbs S 3 + S 3 * 256 ^ 3 = wbs S 4 from rfl] at O3
  have q4 := hc 4 (by decide)
  have l4 := hS 4 (by decide)
  have i4 : (4 : Int) < (n : Int) := by omega
  have C4 : IntKind.u64.wrap ((S 4 : Nat) : Int) = ((S 4 : Nat) : Int) := by rw [IntKind.wrap_u64]; omega
  have M4 : IntKind.u64.wrap (((S 4 : Nat) : Int) * 4294967296) = ((S 4 * 256 ^ 4 : Nat) : Int) := shl_int (S 4) 4 l4 (by decide)
  have O4 := or_int (wbs S 4) (S 4) 4 (wbs_lt (fun i hi => hS i (by omega))) l4 (by decide)
  rw [show wbs S 4 + S 4 * 256 ^ 4 = wbs S 5 from rfl] at O4
  have q5 := hc 5 (by decide)
  have l5 := hS 5 (by decide)
  have i5 : (5 : Int) < (n : Int) := by omega
  have C5 : IntKind.u64.wrap ((S 5 : Nat) : Int) = ((S 5 : Nat) : Int) := by rw [IntKind.wrap_u64]; omega
  have M5 : IntKind.u64.wrap (((S 5 : Nat) : Int) * 1099511627776) = ((S 5 * 256 ^ 5 : Nat) : Int) := shl_int (S 5) 5 l5 (by decide)
  have O5 := or_int (wbs S 5) (S 5) 5 (wbs_lt (fun i hi => hS i (by omega))) l5 (by decide)
  rw [show wbs S 5 + S 5 * 256 ^ 5 = wbs S 6 from rfl] at O5
  have q6 := hc 6 (by decide)
  have l6 := hS 6 (by decide)
  have i6 : (6 : Int) < (n : Int) := by omega
  have C6 : IntKind.u64.wrap ((S 6 : Nat) : Int) = ((S 6 : Nat) : Int) := by rw [IntKind.wrap_u64]; omega
  have M6 : IntKind.u64.wrap (((S 6 : Nat) : Int) * 281474976710656) = ((S 6 * 256 ^ 6 : Nat) : Int) := shl_int (S 6) 6 l6 (by decide)
  have O6 := or_int (wbs S 6) (S 6) 6 (wbs_lt (fun i hi => hS i (by omega))) l6 (by decide)
  rw [show wbs S 6 + S 6 * 256 ^ 6 = wbs S 7 from rfl] at O6
  have q7 := hc 7 (by decide)
  have l7 := hS 7 (by decide)
  have i7 : (7 : Int) < (n : Int) := by omega
  have C7 : IntKind.u64.wrap ((S 7 : Nat) : Int) = ((S 7 : Nat) : Int) := by rw [IntKind.wrap_u64]; omega
  have M7 : IntKind.u64.wrap (((S 7 : Nat) : Int) * 72057594037927936) = ((S 7 * 256 ^ 7 : Nat) : Int) := shl_int (S 7) 7 l7 (by decide)
  have O7 := or_int (wbs S 7) (S 7) 7 (wbs_lt (fun i hi => hS i (by omega))) l7 (by decide)
  rw [show wbs S 7 + S 7 * 256 ^ 7 = wbs S 8 from rfl] at O7
  have i0n : 0 < n := by omega
  rw [Nat.add_zero] at q0
  rw [show wbs S 1 = S 0 by simp [wbs]] at O1
  obtain ⟨s0, hs0⟩ : ∃ s, s = S 0 := ⟨_, rfl⟩
  rw [← hs0] at q0 C0 O1
  obtain ⟨s1, hs1⟩ : ∃ s, s = S 1 := ⟨_, rfl⟩
  rw [← hs1] at q1 C1 M1 O1
  obtain ⟨t1, ht1⟩ : ∃ t, t = s1 * 256 ^ 1 := ⟨_, rfl⟩
  rw [← ht1] at M1 O1
  obtain ⟨u2, hu2⟩ : ∃ u, u = wbs S 2 := ⟨_, rfl⟩
  rw [← hu2] at O1 O2
  obtain ⟨s2, hs2⟩ : ∃ s, s = S 2 := ⟨_, rfl⟩
  rw [← hs2] at q2 C2 M2 O2
  obtain ⟨t2, ht2⟩ : ∃ t, t = s2 * 256 ^ 2 := ⟨_, rfl⟩
  rw [← ht2] at M2 O2
  obtain ⟨u3, hu3⟩ : ∃ u, u = wbs S 3 := ⟨_, rfl⟩
  rw [← hu3] at O2 O3
  obtain ⟨s3, hs3⟩ : ∃ s, s = S 3 := ⟨_, rfl⟩
  rw [← hs3] at q3 C3 M3 O3
  obtain ⟨t3, ht3⟩ : ∃ t, t = s3 * 256 ^ 3 := ⟨_, rfl⟩
  rw [← ht3] at M3 O3
  obtain ⟨u4, hu4⟩ : ∃ u, u = wbs S 4 := ⟨_, rfl⟩
  rw [← hu4] at O3 O4
  obtain ⟨s4, hs4⟩ : ∃ s, s = S 4 := ⟨_, rfl⟩
  rw [← hs4] at q4 C4 M4 O4
  obtain ⟨t4, ht4⟩ : ∃ t, t = s4 * 256 ^ 4 := ⟨_, rfl⟩
  rw [← ht4] at M4 O4
  obtain ⟨u5, hu5⟩ : ∃ u, u = wbs S 5 := ⟨_, rfl⟩
  rw [← hu5] at O4 O5
  obtain ⟨s5, hs5⟩ : ∃ s, s = S 5 := ⟨_, rfl⟩
  rw [← hs5] at q5 C5 M5 O5
  obtain ⟨t5, ht5⟩ : ∃ t, t = s5 * 256 ^ 5 := ⟨_, rfl⟩
  rw [← ht5] at M5 O5
  obtain ⟨u6, hu6⟩ : ∃ u, u = wbs S 6 := ⟨_, rfl⟩
  rw [← hu6] at O5 O6
  obtain ⟨s6, hs6⟩ : ∃ s, s = S 6 := ⟨_, rfl⟩
  rw [← hs6] at q6 C6 M6 O6
  obtain ⟨t6, ht6⟩ : ∃ t, t = s6 * 256 ^ 6 := ⟨_, rfl⟩
  rw [← ht6] at M6 O6
  obtain ⟨u7, hu7⟩ : ∃ u, u = wbs S 7 := ⟨_, rfl⟩
  rw [← hu7] at O6 O7
  obtain ⟨s7, hs7⟩ : ∃ s, s = S 7 := ⟨_, rfl⟩
  rw [← hs7] at q7 C7 M7 O7
  obtain ⟨t7, ht7⟩ : ∃ t, t = s7 * 256 ^ 7 := ⟨_, rfl⟩
  rw [← ht7] at M7 O7
  obtain ⟨u8, hu8⟩ : ∃ u, u = wbs S 8 := ⟨_, rfl⟩
  rw [← hu8] at O7 ⊢
  clear hc hS hn l0 hs0 l1 hs1 l2 hs2 l3 hs3 l4 hs4 l5 hs5 l6 hs6 l7 hs7 ht1 hu2 ht2 hu3 ht3 hu4 ht4 hu5 ht5 hu6 ht6 hu7 ht7 hu8
  go_enter Tryz.func199, Tryz.ntmps199
  go_wp2
  refine region_still7 (by kernel_rfl) (by kernel_rfl) ?_
  repeat still_step
  refine wpStill_nil ?_
  go_wp2
  go_ret
  exact ⟨rfl, rfl⟩

end Go.Proofs.YtefolifecbhgoaaGreat

namespace Go.Proofs.YtefolifecbhgoaaGreat
open Go.RowKit Gf2
set_option linter.unusedVariables false

theorem run_store8 {P : Program} (w : World) (b i : Nat) (ty : TypeId) (v old : Value) (hc : w.cell? ⟨b, i, none⟩ = some old) (hf : w.frozen? ⟨b, i, none⟩ = false) (hi : (P.info? ty).map (·.size) = some 1) (h1 : v.oneCell' = true) :
    (storeVar ty ⟨b, i, none⟩ v).run P w = .ok () (w.setCell ⟨b, i, none⟩ v) := by
  have ea : (⟨b, i, none⟩ : Addr).add 0 = ⟨b, i, none⟩ := rfl
  have hcs : v.cells = #[v] := by cases v <;> first | rfl | cases h1
  cases hq : P.info? ty with
  | none => simp [hq] at hi
  | some t =>
    have hs : t.size = 1 := by simpa [hq] using hi
    simp [storeVar, sizeOf, typeInfo, hq, hcs, hs, storeCells, run_store _ _ _ _ _ h1, ea, hc, hf]
theorem wpList_store8 {P : Program} {ops : Array Oper} {rest : List Oper} {o : Oper} {a : Act} {w : World} {Q : Exit → Act → World → Prop} (hgd : o.guard = none) (ty : TypeId) (x y : Operand) (ho : o.op = .store ty x y)
    (hd : o.dst = none) (b i : Nat) (v old : Value) (hx : a.eval x = .pointer (some ⟨b, i, none⟩)) (hy : a.eval y = v) (h1 : v.oneCell' = true) (hi : (P.info? ty).map (·.size) = some 1)
    (hc : w.cell? ⟨b, i, none⟩ = some old) (hf : w.frozen? ⟨b, i, none⟩ = false) (h : ∀ w', w' = w.setCell ⟨b, i, none⟩ v → wpList P ops Q rest a w') : wpList P ops Q (o :: rest) a w :=
  wpList_plain hgd fun _ hK => by
    unfold Oper.wp execOp
    simp only [ho, hx, hy, Instr.storeAt, Instr.sureAddr, Sem.run_bind, Sem.run_pure, Result.andThen_ok, run_store8 w b i ty v old hc hf hi h1]
    have := h _ rfl
    exact hK _ _ (by rw [hd]; exact this)
theorem info_u8c : (Tryz.prog.info? 5).map (·.size) = some 1 := by kernel_rfl
def Ss (w W : World) (g N o x j : Nat) (F : Nat → Nat) : Prop := Kp g w W ∧ Rw W g N (pl F o j (fun j => x / 256 ^ j % 256))
section
variable {w W W' : World} {g N o x j : Nat} {F : Nat → Nat}
theorem Ss.start (hR : Rw w g N F) : Ss w w g N o x 0 F := ⟨Kp.refl _ _, hR.congr (fun i _ => by rw [pl_out (by omega)])⟩
theorem Ss.here (h : Ss w W g N o x j F) (hj : o + j < N) : W.cell? ⟨g, o + j, none⟩ = some (.int .u8 (pl F o j (fun j => x / 256 ^ j % 256) (o + j) : Nat)) := h.2.2.2.cell hj
theorem Ss.open_ (h : Ss w W g N o x j F) (i : Nat) : W.frozen? ⟨g, i, none⟩ = false := h.2.2.2.frozen i
theorem Ss.step (h : Ss w W g N o x j F) (v : Nat) (hv : v = x / 256 ^ j % 256) (e : W' = W.setCell ⟨g, o + j, none⟩ (.int .u8 (v : Nat))) : Ss w W' g N o x (j + 1) F := by
  subst e
  refine ⟨h.1.setCell _ _, (h.2.set (o + j) v (by rw [hv]; exact Nat.mod_lt _ (by decide))).congr (fun i _ => ?_)⟩
  unfold pl
  by_cases e : i = o + j
  · subst e
    rw [if_pos rfl, if_pos (by omega), Nat.add_sub_cancel_left, hv]
  · rw [if_neg e]
    by_cases h : o ≤ i ∧ i < o + j
    · rw [if_pos h, if_pos (by omega)]
    · rw [if_neg h, if_neg (by omega)]
end
theorem byte_at (x j : Nat) : IntKind.u8.wrap ((x / 256 ^ j : Nat) : Int) = ((x / 256 ^ j % 256 : Nat) : Int) := by rw [IntKind.wrap_u8]; omega

set_option maxHeartbeats 2000000 in
set_option maxRecDepth 100000 in
theorem store_nat (g o n ca N x : Nat) (F : Nat → Nat) (w : World) (hn : 8 ≤ n) (hR : Rw w g N F) (hoN : o + 8 ≤ N) (hx : x < 18446744073709551616) :
    Calls Tryz.prog 198 #[.slice (some ⟨g, o, none⟩) n ca, .int .u64 (x : Int)] w fun e w' => (∃ v, e = .returned v) ∧ Kp g w w' ∧ Rw w' g N (pl F o 8 (fun j => x / 256 ^ j % 256)) := by
  have i0 : 0 < n := by omega
  have B0 := byte_at x 0
  obtain ⟨v0, hv0⟩ : ∃ v, v = x / 256 ^ 0 % 256 := ⟨_, rfl⟩
  rw [← hv0] at B0
  rw [Nat.pow_zero, Nat.div_one] at B0
  have H0 : Hid (v0 = x / 256 ^ 0 % 256) := hv0
  clear hv0
  have i1 : (1 : Int) < (n : Int) := by omega
  have B1 := byte_at x 1
  have D1 : (x : Int) / 256 = ((x / 256 ^ 1 : Nat) : Int) := by rw [Int.natCast_ediv]; rfl
  obtain ⟨v1, hv1⟩ : ∃ v, v = x / 256 ^ 1 % 256 := ⟨_, rfl⟩
  rw [← hv1] at B1
  obtain ⟨y1, hy1⟩ : ∃ y, y = x / 256 ^ 1 := ⟨_, rfl⟩
  rw [← hy1] at B1 D1
  clear hy1
  have H1 : Hid (v1 = x / 256 ^ 1 % 256) := hv1
  clear hv1
  have i2 : (2 : Int) < (n : Int) := by omega
  have B2 := byte_at x 2
  have D2 : (x : Int) / 65536 = ((x / 256 ^ 2 : Nat) : Int) := by rw [Int.natCast_ediv]; rfl
  obtain ⟨v2, hv2⟩ : ∃ v, v = x / 256 ^ 2 % 256 := ⟨_, rfl⟩
  rw [← hv2] at B2
  obtain ⟨y2, hy2⟩ : ∃ y, y = x / 256 ^ 2 := ⟨_, rfl⟩
  rw [← hy2] at B2 D2
  clear hy2
  have H2 : Hid (v2 = x / 256 ^ 2 % 256) := hv2
  clear hv2
  have i3 : (3 : Int) < (n : Int) := by omega
  have B3 := byte_at x 3
  have D3 : (x : Int) / 16777216 = ((x / 256 ^ 3 : Nat) : Int) := by rw [Int.natCast_ediv]; rfl
  obtain ⟨v3, hv3⟩ : ∃ v, v = x / 256 ^ 3 % 256 := ⟨_, rfl⟩
  rw [← hv3] at B3
  obtain ⟨y3, hy3⟩ : ∃ y, y = x / 256 ^ 3 := ⟨_, rfl⟩
  rw [← hy3] at B3 D3
  clear hy3
  have H3 : Hid (v3 = x / 256 ^ 3 % 256) := hv3
  clear hv3
  have i4 : (4 : Int) < (n : Int) := by omega
  have B4 := byte_at x 4
  have D4 : (x : Int) / 4294967296 = ((x / 256 ^ 4 : Nat) : Int) := by rw [Int.natCast_ediv]; rfl
  obtain ⟨v4, hv4⟩ : ∃ v, v = x / 256 ^ 4 % 256 := ⟨_, rfl⟩
  rw [← hv4] at B4
  obtain ⟨y4, hy4⟩ : ∃ y, y = x / 256 ^ 4 := ⟨_, rfl⟩
  rw [← hy4] at B4 D4
  clear hy4
  have H4 : Hid (v4 = x / 256 ^ 4 % 256) := hv4
  clear hv4
  have i5 : (5 : Int) < (n : Int) := by omega
  have B5 := byte_at x 5
  have D5 : (x : Int) / 1099511627776 = ((x / 256 ^ 5 : Nat) : Int) := by rw [Int.natCast_ediv]; rfl
  obtain ⟨v5, hv5⟩ : ∃ v, v = x / 256 ^ 5 % 256 := ⟨_, rfl⟩
  rw [← hv5] at B5
  obtain ⟨y5, hy5⟩ : ∃ y, y = x / 256 ^ 5 := ⟨_, rfl⟩
  rw [← hy5] at B5 D5
  clear hy5
  have H5 : Hid (v5 = x / 256 ^ 5 % 256) := hv5
  clear hv5
  have i6 : (6 : Int) < (n : Int) := by omega
  have B6 := byte_at x 6
  have D6 : (x : Int) / 281474976710656 = ((x / 256 ^ 6 : Nat) : Int) := by rw [Int.natCast_ediv]; rfl
  obtain ⟨v6, hv6⟩ : ∃ v, v = x / 256 ^ 6 % 256 := ⟨_, rfl⟩
  rw [← hv6] at B6
  obtain ⟨y6, hy6⟩ : ∃ y, y = x / 256 ^ 6 := ⟨_, rfl⟩
  rw [← hy6] at B6 D6
  clear hy6
  have H6 : Hid (v6 = x / 256 ^ 6 % 256) := hv6
  clear hv6
  have i7 : (7 : Int) < (n : Int) := by omega
  have B7 := byte_at x 7
  have D7 : (x : Int) / 72057594037927936 = ((x / 256 ^ 7 : Nat) : Int) := by rw [Int.natCast_ediv]; rfl
  obtain ⟨v7, hv7⟩ : ∃ v, v = x / 256 ^ 7 % 256 := ⟨_, rfl⟩
  rw [← hv7] at B7
  obtain ⟨y7, hy7⟩ : ∃ y, y = x / 256 ^ 7 := ⟨_, rfl⟩
  rw [← hy7] at B7 D7
  clear hy7
  have H7 : Hid (v7 = x / 256 ^ 7 % 256) := hv7
  clear hv7
  have HO : Hid (o + 8 ≤ N) := hoN
  have S0 : Hid (Ss w w g N o x 0 F) := Ss.start hR
  have k7 : w.cell? ⟨g, o + 7, none⟩ = some (.int .u8 (F (o + 7) : Nat)) := hR.2.2.cell (by omega)
  clear hn hR hoN hx
  go_enter Tryz.func198, Tryz.ntmps198
  go_wp2_with (first
    | (refine wpList_store8 rfl 5 _ _ rfl rfl g (o) (.int .u8 (v0 : Nat)) _ rfl rfl rfl info_u8c (S0.out.here (by have := HO.out; omega)) (S0.out.open_ _) ?_; intro W1 hW1; have S1 : Hid (Ss w W1 g N o x 1 F) := S0.out.step v0 H0.out hW1; clear hW1 S0)
    | (refine wpList_store8 rfl 5 _ _ rfl rfl g (o + 1) (.int .u8 (v1 : Nat)) _ rfl rfl rfl info_u8c (S1.out.here (by have := HO.out; omega)) (S1.out.open_ _) ?_; intro W2 hW2; have S2 : Hid (Ss w W2 g N o x 2 F) := S1.out.step v1 H1.out hW2; clear hW2 S1)
    | (refine wpList_store8 rfl 5 _ _ rfl rfl g (o + 2) (.int .u8 (v2 : Nat)) _ rfl rfl rfl info_u8c (S2.out.here (by have := HO.out; omega)) (S2.out.open_ _) ?_; intro W3 hW3; have S3 : Hid (Ss w W3 g N o x 3 F) := S2.out.step v2 H2.out hW3; clear hW3 S2)
    | (refine wpList_store8 rfl 5 _ _ rfl rfl g (o + 3) (.int .u8 (v3 : Nat)) _ rfl rfl rfl info_u8c (S3.out.here (by have := HO.out; omega)) (S3.out.open_ _) ?_; intro W4 hW4; have S4 : Hid (Ss w W4 g N o x 4 F) := S3.out.step v3 H3.out hW4; clear hW4 S3)
    | (refine wpList_store8 rfl 5 _ _ rfl rfl g (o + 4) (.int .u8 (v4 : Nat)) _ rfl rfl rfl info_u8c (S4.out.here (by have := HO.out; omega)) (S4.out.open_ _) ?_; intro W5 hW5; have S5 : Hid (Ss w W5 g N o x 5 F) := S4.out.step v4 H4.out hW5; clear hW5 S4)
    | (refine wpList_store8 rfl 5 _ _ rfl rfl g (o + 5) (.int .u8 (v5 : Nat)) _ rfl rfl rfl info_u8c (S5.out.here (by have := HO.out; omega)) (S5.out.open_ _) ?_; intro W6 hW6; have S6 : Hid (Ss w W6 g N o x 6 F) := S5.out.step v5 H5.out hW6; clear hW6 S5)
    | (refine wpList_store8 rfl 5 _ _ rfl rfl g (o + 6) (.int .u8 (v6 : Nat)) _ rfl rfl rfl info_u8c (S6.out.here (by have := HO.out; omega)) (S6.out.open_ _) ?_; intro W7 hW7; have S7 : Hid (Ss w W7 g N o x 7 F) := S6.out.step v6 H6.out hW7; clear hW7 S6)
    | (refine wpList_store8 rfl 5 _ _ rfl rfl g (o + 7) (.int .u8 (v7 : Nat)) _ rfl rfl rfl info_u8c (S7.out.here (by have := HO.out; omega)) (S7.out.open_ _) ?_; intro W8 hW8; have S8 : Hid (Ss w W8 g N o x 8 F) := S7.out.step v7 H7.out hW8; clear hW8 S7))
  go_end0
  exact ⟨⟨_, rfl⟩, S8.out.1, S8.out.2⟩
end Go.Proofs.YtefolifecbhgoaaGreat
