import Derived.Test.YtidcdbjhkgpjcaaDoorDhel
import Derived.Deep.RegionLaw
namespace Go.Proofs.YtidcdbjhkgpjcaaDoor
open Go.RowKit Gf2

theorem made_own (w : World) (C : Nat) (hC : 1 ≤ C) (hC2 : C ≤ 65536) (base : Nat) (hb : base ≤ w.heap.size) :
    (w.alloc (.cells (madeCells #[.int .u16 0] C) 26)).ownsRow base 26 1 (.slice (some ⟨w.heap.size, 0, none⟩) 1 C) 1 ((wes 1).map vU) := by
  refine ⟨rfl, .inr ⟨w.heap.size, C, madeCells #[.int .u16 0] C, rfl, hb, heap_alloc_new _ _, hC, by unfold maxLen; omega, by rw [size_madeCells, Nat.mul_one], ?_⟩⟩
  have h : (madeCells #[Value.int .u16 0] C).toList = List.replicate C (Value.int .u16 0) := by
    apply List.ext_getElem?
    intro i
    rw [Array.getElem?_toList]
    by_cases h : i < C
    · have hr := (World.rowIs_made w (.int .u16 0) C 26).cell h
      have hc := cell_of_row (w.alloc (.cells (madeCells #[.int .u16 0] C) 26)) w.heap.size i _ 26 (0, 0) (heap_alloc_new _ _)
      rw [hr] at hc
      rw [← hc, List.getElem?_replicate, if_pos h]
    · rw [Array.getElem?_eq_none (by rw [size_madeCells]; omega), List.getElem?_replicate, if_neg h]
  rw [h, List.take_replicate, Nat.min_eq_left (by omega)]
  rfl

theorem step_append_runH {P : Program} {ops : Array Oper} {o : Oper} {a : Act} {w : World} {K : Act → World → Prop} {Q : Exit → Act → World → Prop} {E : Prop} (hgd : o.guard = none) (s x : Operand) (t : TypeId)
    (ho : o.op = .call { callee := .builtin .append, args := #[s, x], argTypes := #[t, t] }) {v1 v2 v' : Value} {w' : World} (hs : a.eval s = v1) (hx : a.eval x = v2)
    (hrun : (Builtin.append_ #[t, t] o.type #[v1, v2]).run P w = .ok v' w') (h : K (a.put o.dst v') w') : if Region.wanted o (yielded ops a.tmps) = true then Oper.wp P o a w K Q else E := by
  have hw : Region.wanted o (yielded ops a.tmps) = true := by simp [Region.wanted, hgd]
  rw [if_pos hw]
  unfold Oper.wp execOp
  simp only [ho, resolve, invoke, builtin, Sem.run_bind, Sem.run_pure, Result.andThen_ok, List.map_toArray, List.map_cons, List.map_nil, hs, hx, hrun]
  exact h

set_option maxHeartbeats 4000000 in
set_option maxRecDepth 100000 in
theorem refElementsTo_nat (r : Nat) (w : World) (hr : r ≤ 16) :
    Calls Tryd.prog 43 #[.int .i64 (r : Int)] w fun e w' => ∃ g cap, e = .returned (.slice (some ⟨g, 0, none⟩) (2 ^ r) cap) ∧ w'.ownsRow w.heap.size 26 1 (.slice (some ⟨g, 0, none⟩) (2 ^ r) cap) (2 ^ r) ((wes (2 ^ r)).map vU) ∧ g < w'.heap.size ∧ Below w.heap.size w w' := by
  obtain ⟨i16, j1, j2, j3, j4⟩ := info_u16
  have c1 := fun w => refBasis_any w
  obtain ⟨C, hC⟩ : ∃ C, C = 2 ^ r := ⟨_, rfl⟩
  have hC1 : 1 ≤ C := by rw [hC]; exact Nat.two_pow_pos r
  have hC2 : C ≤ 65536 := by
    have : 2 ^ r ≤ 2 ^ 16 := Nat.pow_le_pow_right (by decide) hr
    omega
  have hmk : ∀ w, (Instr.makeSlice 27 (.int .i64 1) (.int .i64 (C : Int))).run Tryd.prog w = .ok (.slice (some ⟨w.heap.size, 0, none⟩) 1 C) (w.alloc (.cells (madeCells #[.int .u16 0] C) 26)) := by
    intro w
    have h := run_make (P := Tryd.prog) w 27 26 i16 (.int .u16 0) Tryd.underlying27 j1 j2 .i64 .i64 1 (C : Int) (by decide) (by omega) (by rw [j4]; omega) (by omega)
    rw [j3, Nat.mul_one] at h
    exact h
  rw [← hC]
  have EC : wrap64 (2 ^ r) = (C : Int) := by
    have e : ((2 : Int) ^ r) = ((2 ^ r : Nat) : Int) := by simp
    rw [e, ← hC]; unfold wrap64; omega
  have HC : Hid (C = 2 ^ r) := hC
  clear hC
  go_enter Tryd.func43, Tryd.ntmps43
  go_wp2_with (go_at_call 32; ((with_reducible refine (c1 _).mono ?_); (rintro e wB ⟨gB, capB, rfl, hownB, hgB, hbB⟩)))
  have cB : ∀ t, t < 16 → wB.cell? ⟨gB, t, none⟩ = some (.int .u16 (cbn t : Nat)) := fun t ht => by rw [hownB.cellAt t (by omega), vU_get (cbt_get ht)]
  have HB : Hid ((∀ t, t < 16 → wB.cell? ⟨gB, t, none⟩ = some (.int .u16 (cbn t : Nat))) ∧ Below w.heap.size w wB) := ⟨cB, hbB⟩
  have hsB := hbB.size
  clear cB hbB hownB c1 hmk EC
  go_loopw [4, 5] (fun wv tv wq => ∃ t N : Nat, t ≤ r ∧ N = 2 ^ t ∧ tv = .int .i64 t ∧ wq.ownsRow wB.heap.size 26 1 wv N ((wes N).map vU) ∧ Below wB.heap.size wB wq) (fun _ tv _ => r - (intOf tv).toNat)
  case atStart => exact ⟨0, 1, Nat.zero_le _, rfl, rfl, made_own wB C hC1 hC2 _ (Nat.le_refl _), (Below.refl _ _).alloc (Nat.le_refl _) _⟩
  case round =>
    obtain ⟨t, N, ht, hN, rfl, hown, hb⟩ := hrel
    have hN1 : 1 ≤ N := by rw [hN]; exact Nat.two_pow_pos t
    have hN2 : t < 16 → N ≤ 32768 := fun h => by
      have : 2 ^ t ≤ 2 ^ 15 := Nat.pow_le_pow_right (by decide) (by omega)
      omega
    obtain ⟨g, cap, rfl, hgl, hgh⟩ := hown.form (by omega)
    by_cases hlt : t < r
    · have hN3 := hN2 (by omega)
      have HN : Hid (N = 2 ^ t) := hN
      have tr' : ((t : Nat) : Int) < (r : Int) := by omega
      have HO : Hid (wr.ownsRow wB.heap.size 26 1 (.slice (some ⟨g, 0, none⟩) N cap) N ((wes N).map vU) ∧ Below wB.heap.size wB wr) := ⟨hown, hb⟩
      clear hN hN2 hown hb
      go_wp2
      go_loopw [4, 7] (fun wv iv wq => ∃ i : Nat, i ≤ N ∧ iv = .int .i64 i ∧ wq.ownsRow wB.heap.size 26 1 wv (N + i) ((wes (N + i)).map vU) ∧ Below wB.heap.size wB wq) (fun _ iv _ => N - (intOf iv).toNat)
      case atStart => exact ⟨0, Nat.zero_le _, rfl, HO.out.1, HO.out.2⟩
      case round =>
        obtain ⟨i, hi, rfl, hown, hb⟩ := hrel
        by_cases hlt2 : i < N
        · obtain ⟨g', cap', rfl, hgl', hgh'⟩ := hown.form (by omega)
          have q1 := hown.cellAt i (by omega)
          rw [vU_get (wes_get (by omega))] at q1
          have q2 : wr.cell? ⟨gB, t, none⟩ = some (.int .u16 (cbn t : Nat)) := (hb.cell (p := ⟨gB, t, none⟩) hgB).trans (HB.out.1 t (by omega))
          have hs1 := hb.size
          have iN : ((i : Nat) : Int) < (N : Int) := by omega
          have iN2 : (i : Int) < (N : Int) + (i : Int) := by omega
          have tN : ((t : Nat) : Int) < 16 := by omega
          have N0 : (0 : Int) < (N : Int) := by omega
          have l1 := we_lt i
          have l2 := cbn_lt t (by omega)
          have X := u16_xor_nat (we i) (cbn t) l1 l2
          have hnx : we (N + i) = we i ^^^ cbn t := by
            have h := HN.out
            rw [h]; exact we_add (by omega) (by omega)
          have HX : Hid (we (N + i) = we i ^^^ cbn t) := hnx
          obtain ⟨z, hz⟩ : ∃ z, z = we i ^^^ cbn t := ⟨_, rfl⟩
          rw [← hz] at X HX
          clear hnx hz
          obtain ⟨g5, cap5, w5, hrun, own5, gr5, lies5, lt5⟩ := run_append_lies (P := Tryd.prog) (wr.drew.alloc (.cells #[.int .u16 (z : Int)] 26)) 27 27 wB.heap.size 26 i16 (.int .u16 0) 1 2 Tryd.underlying27 j1 j2 j3 j4 rfl (by decide)
            (.slice (some ⟨g', 0, none⟩) (N + i) cap') (N + i) _ (World.ownsRow.alloc (w := wr.drew) hown _) ⟨wr.heap.size, 0, none⟩ 1 1 [.int .u16 (z : Int)] rfl (fun k u hk => World.news_of_block (heap_alloc_new wr.drew (.cells #[.int .u16 (z : Int)] 26)) k u (by simpa using hk)) (fun u hu => by simp at hu; subst hu; rfl) (by decide) (by unfold maxLen; omega) (by omega) (by simp; omega) _ rfl
          have hb5 : Below wB.heap.size wB w5 := by
            have hs2 := gr5.size
            simp at hs2
            exact ((hb.drew).alloc hb.size _).grown gr5 (by simp; omega) (fun k hk => (hown.lt k hk).1)
          have HF : Hid (w5.ownsRow wB.heap.size 26 1 (.slice (some ⟨g5, 0, none⟩) (N + i + 1) cap5) (N + (i + 1)) ((wes (N + (i + 1))).map vU) ∧ Below wB.heap.size wB w5) := by
            refine ⟨?_, hb5⟩
            rw [← Nat.add_assoc, wes_succ, List.map_append, HX.out]
            exact own5
          clear own5 gr5 lies5 hb5 hown hb HO
          go_wp2
          go_region_law (refine step_append_runH rfl _ _ 27 rfl rfl rfl hrun ?_)
          all_goals
            go_wp2
            go_roundw
            case rel => exact ⟨i + 1, by omega, by go_num, HF.out.1, HF.out.2⟩
            case measure => simp [intOf]; omega
        · have hiN : i = N := by omega
          subst hiN
          have HF : Hid (wr.ownsRow wB.heap.size 26 1 _ (i + i) ((wes (i + i)).map vU) ∧ Below wB.heap.size wB wr) := ⟨hown, hb⟩
          have HM : Hid (i + i = 2 ^ (t + 1)) := by
            show i + i = 2 ^ (t + 1)
            rw [Nat.pow_succ, ← HN.out]; omega
          clear hown hb HO
          go_wp2
          go_roundw
          case rel => exact ⟨t + 1, i + i, by omega, HM.out, by go_num, HF.out.1, HF.out.2⟩
          case measure => simp [intOf]; omega
    · have htr : t = r := by omega
      subst htr
      have hCN : C = N := by rw [HC.out, hN]
      subst hCN
      go_wp2
      go_ret
      have hs1 := hb.size
      exact ⟨g, cap, rfl, World.ownsRow.mono hown hsB, hgh, HB.out.2.trans (hb.mono hsB)⟩

end Go.Proofs.YtidcdbjhkgpjcaaDoor
