import Derived.Test.YtefolifecbhgoaaGreatMbbh
import Derived.LaidEqlPtr
namespace Go.Proofs.YtefolifecbhgoaaGreat
open Go.RowKit Gf2
set_option linter.unusedVariables false

def pe12 (x : Nat) : Value := .pointer (some ⟨x, 0, none⟩)
theorem info_pe12 : (Tryz.prog.info? 168).map (fun i => (i.zero, i.size, i.bytes)) = some (some (Value.pointer none), 1, 8) := by kernel_rfl
theorem info_pe12a : ∃ i, Tryz.prog.info? 168 = some i ∧ i.zero = some (Value.pointer none) ∧ i.size = 1 ∧ i.bytes = 8 := by
  obtain ⟨i, hi, hz⟩ := Option.map_eq_some_iff.1 info_pe12
  simp only [Prod.mk.injEq] at hz
  exact ⟨i, hi, hz.1, hz.2.1, hz.2.2⟩
theorem make_room12 (n : Nat) (hn : n ≤ 1000000) (w : World) : (Instr.makeSlice 113 (.int .i64 0) (.int .i64 (n : Int))).run Tryz.prog w = .ok (.slice (some ⟨w.heap.size, 0, none⟩) 0 n) (w.alloc (.cells (madeCells #[.pointer none] n) 168)) := by
  obtain ⟨i, hi, h1, h2, h3⟩ := info_pe12a
  have hr := run_make (P := Tryz.prog) w 113 168 i (.pointer none) Tryz.underlying113 hi h1 .i64 .i64 0 n (by omega) (by omega) (by rw [h3]; omega) (by omega)
  simp only [Int.toNat_natCast, h2, Nat.mul_one] at hr
  exact hr
theorem app_room12 (W : World) {g N L : Nat} {V : Nat → Value} (hr : W.rowIs g 168 N V) (hL : L < N) (x : Nat) :
    ∃ w', (Builtin.append_ #[113, 113] 113 #[.slice (some ⟨g, 0, none⟩) L N, .slice (some ⟨W.heap.size, 0, none⟩) 1 1]).run Tryz.prog (W.alloc (.cells #[pe12 x] 168)) = .ok (.slice (some ⟨g, 0, none⟩) (L + 1) N) w' ∧
      w'.rowIs g 168 N (fun i => if i = L then pe12 x else V i) ∧ Kp g W w' := by
  obtain ⟨ti, hi, hz, hs1, hb1⟩ := info_pe12a
  have hb0 : Below W.heap.size W (W.alloc (.cells #[pe12 x] 168)) := (Below.refl _ _).alloc (Nat.le_refl _) _
  have r1 := hr.of_block (hb0.block g hr.lt)
  have hs : Src Tryz.prog ti.size 113 (.slice (some ⟨W.heap.size, 0, none⟩) 1 1) 1 [pe12 x] (W.alloc (.cells #[pe12 x] 168)) := Src.ofSlice _ Tryz.underlying113 ⟨W.heap.size, 0, none⟩ 1 1 [pe12 x] (by rw [hs1]; rfl) (fun j u h => by
    cases j with
    | zero =>
      simp at h
      subst h
      rw [Addr.add_lit, Nat.zero_add, cell_of_row _ _ 0 _ _ _ (heap_alloc_new _ _)]; rfl
    | succ j => simp at h) (fun u hu => by
    simp at hu
    subst hu
    rfl)
  have hrun := run_append_room_src (W.alloc (.cells #[pe12 x] 168)) 113 113 113 168 ti Tryz.underlying113 hi g 0 L N _ 1 [pe12 x] hs (by omega)
    (fun j hj => by
      obtain rfl : j = 0 := by simpa using hj
      rw [hs1, Nat.mul_one, Nat.zero_add, Nat.add_zero, r1.cell hL]; rfl)
    (fun j hj => by rw [hs1, Nat.mul_one, Nat.zero_add]; exact r1.frozen _)
  rw [hs1, Nat.mul_one, Nat.zero_add] at hrun
  have e : (W.alloc (.cells #[pe12 x] 168)).setCells g L [pe12 x] = (W.alloc (.cells #[pe12 x] 168)).setCell ⟨g, L, none⟩ (pe12 x) := rfl
  rw [e] at hrun
  refine ⟨_, hrun, r1.set L _, (kp_below hb0 g).trans ((Only.refl g _).setCell L _).kp⟩
def Qp (w : World) (v : Value) (l : List Nat) : Prop := ∃ a cap, v = .slice a l.length cap ∧ (0 < l.length → ∃ b o, a = some ⟨b, o, none⟩ ∧ b < w.heap.size ∧ ∀ i x, l[i]? = some x → w.cell? ⟨b, o + i, none⟩ = some (pe12 x))
theorem Qp.below {w w' : World} {v : Value} {l : List Nat} (h : Qp w v l) (hb : Below w.heap.size w w') : Qp w' v l := by
  obtain ⟨a, cap, e, h4⟩ := h
  refine ⟨a, cap, e, fun h0 => ?_⟩
  obtain ⟨b, o, e1, hl, hc⟩ := h4 h0
  exact ⟨b, o, e1, Nat.lt_of_lt_of_le hl hb.size, fun i x hx => (hb.cell (p := ⟨b, o + i, none⟩) hl).trans (hc i x hx)⟩
structure Op12 (w : World) (g N : Nat) (l : List Nat) : Prop where
  le : l.length ≤ N
  row : ∃ V, w.rowIs g 168 N V ∧ ∀ i x, l[i]? = some x → V i = pe12 x
theorem Op12.qp {w : World} {g N : Nat} {l : List Nat} (h : Op12 w g N l) : Qp w (.slice (some ⟨g, 0, none⟩) l.length N) l := by
  obtain ⟨V, h1, h2⟩ := h.row
  refine ⟨_, _, rfl, fun _ => ⟨g, 0, rfl, h1.lt, fun i x hx => ?_⟩⟩
  have hi : i < l.length := (List.getElem?_eq_some_iff.1 hx).1
  rw [Nat.zero_add, h1.cell (i := i) (by have := h.le; omega), h2 i x hx]
theorem Op12.push {W : World} {g N : Nat} {l : List Nat} (h : Op12 W g N l) (hL : l.length < N) (x : Nat) :
    ∃ w', (Builtin.append_ #[113, 113] 113 #[.slice (some ⟨g, 0, none⟩) l.length N, .slice (some ⟨W.heap.size, 0, none⟩) 1 1]).run Tryz.prog (W.alloc (.cells #[pe12 x] 168)) = .ok (.slice (some ⟨g, 0, none⟩) (l ++ [x]).length N) w' ∧ Op12 w' g N (l ++ [x]) ∧ Kp g W w' := by
  obtain ⟨V, h1, h2⟩ := h.row
  obtain ⟨w', a1, a2, a3⟩ := app_room12 W h1 hL x
  have e : (l ++ [x]).length = l.length + 1 := by simp
  refine ⟨w', by rw [e]; exact a1, ⟨by rw [e]; omega, _, a2, fun i y hy => ?_⟩, a3⟩
  show (if i = l.length then pe12 x else V i) = pe12 y
  by_cases hi : i = l.length
  · rw [if_pos hi]
    rw [hi, List.getElem?_append_right (Nat.le_refl _), Nat.sub_self] at hy
    simp at hy
    rw [hy]
  · rw [if_neg hi]
    have hlt : i < (l ++ [x]).length := (List.getElem?_eq_some_iff.1 hy).1
    rw [e] at hlt
    rw [List.getElem?_append_left (by omega)] at hy
    exact h2 i y hy
theorem info_en12 : ∃ j, Tryz.prog.info? 205 = some j ∧ j.size ≠ 0 := by
  have h : (Tryz.prog.info? 205).map (fun i => i.size) = some 2 := by kernel_rfl
  obtain ⟨i, hi, hz⟩ := Option.map_eq_some_iff.1 h
  exact ⟨i, hi, by rw [hz]; decide⟩
theorem neq_same12 (w : World) (x : Nat) : (binOp .neq 168 (.pointer (some ⟨x, 0, none⟩)) (.pointer (some ⟨x, 0, none⟩))).run Tryz.prog w = .ok (.bool false) w := by
  obtain ⟨j, hj, -⟩ := info_en12
  have h : ∀ d : Nat, (Op.equalIn (d + 1) 168 (.pointer (some ⟨x, 0, none⟩)) (.pointer (some ⟨x, 0, none⟩))).run Tryz.prog w = .ok true w := fun d => by
    simp [Op.equalIn, run_underlying Tryz.underlying168, sizeOf, typeInfo, hj, run_sameAddr_same]
  simp only [binOp]
  simp [Op.equal, Op.maxDepth, h 9999]
def En12 (w : World) (x : Nat) : Prop := ∃ A, w.heap[x]? = some (.cells A 205 (0, 0))
theorem En12.below {w w' : World} {x : Nat} (h : En12 w x) (hb : Below w.heap.size w w') : En12 w' x := by
  obtain ⟨A, hA⟩ := h
  exact ⟨A, by rw [hb.block x (Array.getElem?_eq_some_iff.1 hA).1]; exact hA⟩
theorem neq_other12 (w : World) {x y : Nat} (hne : ¬ y = x) (hy : En12 w y) (hx : En12 w x) : (binOp .neq 168 (.pointer (some ⟨y, 0, none⟩)) (.pointer (some ⟨x, 0, none⟩))).run Tryz.prog w = .ok (.bool true) w := by
  obtain ⟨j, hj, hs⟩ := info_en12
  obtain ⟨A, hA⟩ := hy
  obtain ⟨C, hC⟩ := hx
  have hn : (⟨y, 0, none⟩ : Addr) ≠ ⟨x, 0, none⟩ := fun e => hne (by injection e)
  have h : ∀ d : Nat, (Op.equalIn (d + 1) 168 (.pointer (some ⟨y, 0, none⟩)) (.pointer (some ⟨x, 0, none⟩))).run Tryz.prog w = .ok false w := fun d => by
    simp [Op.equalIn, run_underlying Tryz.underlying168, sizeOf, typeInfo, hj, hs, run_sameAddr_other w hn hA hC]
  simp only [binOp]
  simp [Op.equal, Op.maxDepth, h 9999]
def wo12 (x : Nat) (l : List Nat) : List Nat := l.filter (fun z => decide (z ≠ x))
set_option maxHeartbeats 2000000 in
set_option maxRecDepth 100000 in
theorem without12 (v : Value) (l : List Nat) (x : Nat) (w : World) (h : Qp w v l) (hn : l.length ≤ 2000) (hx : En12 w x) (hl : ∀ z, z ∈ l → En12 w z) :
    Calls Tryz.prog 144 #[v, pe12 x] w fun e w' => e = .returned (.slice (some ⟨w.heap.size, 0, none⟩) (wo12 x l).length (l.length + 1)) ∧ Op12 w' w.heap.size (l.length + 1) (wo12 x l) ∧ Below w.heap.size w w' := by
  obtain ⟨n, hnl⟩ : ∃ n, n = l.length := ⟨_, rfl⟩
  obtain ⟨n1, hn1⟩ : ∃ n1, n1 = n + 1 := ⟨_, rfl⟩
  have hmk := make_room12 n1 (by omega)
  have W0 : wrap64 ((n : Int) + 1) = (n1 : Int) := by unfold wrap64; omega
  have HN : Hid (n = l.length ∧ n1 = n + 1 ∧ n ≤ 2000) := ⟨hnl, hn1, by omega⟩
  have HL : Hid (l.length + 1 = n1) := by show _ = _; omega
  rw [show l.length + 1 = n1 by omega]
  obtain ⟨a, cap, rfl, h4⟩ := h
  have H4 : Hid (0 < l.length → _) := h4
  have HE : Hid (En12 w x ∧ ∀ z, z ∈ l → En12 w z) := ⟨hx, hl⟩
  clear hx hl
  rw [← hnl]
  clear h4 hn hnl hn1
  rw [show pe12 x = Value.pointer (some ⟨x, 0, none⟩) from rfl]
  go_enter Tryz.func144, Tryz.ntmps144
  go_wp2
  clear hmk W0
  go_loopw [5, 14] (fun ov iv wr => ∃ c L : Nat, c ≤ n ∧ iv = .int .i64 c ∧ ov = .slice (some ⟨w.heap.size, 0, none⟩) L n1 ∧ Hid (L = (wo12 x (l.take c)).length ∧ Op12 wr w.heap.size n1 (wo12 x (l.take c)) ∧ Below w.heap.size w wr)) (fun _ i _ => n - (intOf i).toNat)
  case atStart =>
    refine ⟨0, 0, Nat.zero_le _, rfl, rfl, ⟨rfl, ⟨Nat.zero_le _, _, World.rowIs_made w (.pointer none) n1 168, fun i y hy => by simp [wo12] at hy⟩, (Below.refl _ _).alloc (Nat.le_refl _) _⟩⟩
  case round =>
    obtain ⟨c, L, hc, rfl, rfl, hI⟩ := hrel
    by_cases hct : c < n
    · obtain ⟨b, o, rfl, hl, hcell⟩ := H4.out (by have := HN.out; omega)
      have hcl : c < l.length := by have := HN.out; omega
      obtain ⟨y, hy⟩ : ∃ y, l[c]? = some y := ⟨_, List.getElem?_eq_getElem hcl⟩
      have q1 : wr.cell? ⟨b, o + c, none⟩ = some (.pointer (some ⟨y, 0, none⟩)) := (hI.out.2.2.cell (p := ⟨b, o + c, none⟩) hl).trans (hcell c y hy)
      have ib : ((c : Nat) : Int) < (n : Int) := Int.ofNat_lt.2 hct
      have W1 := wrap_succ8 (j := c) (by unfold big; have := HN.out; omega)
      have htk : l.take (c + 1) = l.take c ++ [y] := by rw [List.take_add_one, hy]; rfl
      by_cases hxy : y = x
      · subst hxy
        have HX : Hid (c < n ∧ L = (wo12 y (l.take (c + 1))).length ∧ Op12 wr w.heap.size n1 (wo12 y (l.take (c + 1))) ∧ Below w.heap.size w wr) := by
          have e : wo12 y (l.take (c + 1)) = wo12 y (l.take c) := by unfold wo12; rw [htk, List.filter_append]; simp
          rw [e]
          exact ⟨hct, hI.out⟩
        have hp := neq_same12 wr y
        clear hI H4 HN HL hct hc hcl hy hcell hl htk
        go_wp2
        go_roundw
        case rel => exact ⟨c + 1, L, HX.out.1, by first | rfl | (rw [W1]; rfl), rfl, HX.out.2⟩
        case measure => first | exact meas_lt8 HX.out.1 | (rw [W1]; exact meas_lt8 HX.out.1)
      · have e : wo12 x (l.take (c + 1)) = wo12 x (l.take c) ++ [y] := by unfold wo12; rw [htk, List.filter_append]; simp [hxy]
        have hlen : (wo12 x (l.take c)).length < n1 := by
          have h1 : (wo12 x (l.take c)).length ≤ (l.take c).length := List.length_filter_le _ _
          have h2 : (l.take c).length ≤ c := by rw [List.length_take]; omega
          have := HN.out
          omega
        obtain ⟨w2, hrun, hO, hK⟩ := hI.out.2.1.push hlen y
        rw [← e, ← hI.out.1] at hrun
        obtain ⟨L2, hL2⟩ : ∃ L2, L2 = (wo12 x (l.take (c + 1))).length := ⟨_, rfl⟩
        rw [← hL2] at hrun
        rw [← e] at hO
        have HX : Hid (c < n ∧ L2 = (wo12 x (l.take (c + 1))).length ∧ Op12 w2 w.heap.size n1 (wo12 x (l.take (c + 1))) ∧ Below w.heap.size w w2) := ⟨hct, hL2, hO, hI.out.2.2.trans (hK.below (Nat.le_refl _) hI.out.2.2.size)⟩
        have hp := neq_other12 wr hxy ((HE.out.2 y (List.mem_of_getElem? hy)).below hI.out.2.2) (HE.out.1.below hI.out.2.2)
        clear hI H4 HN HL hct hc hcl hy hcell hl htk e hlen hO hK hL2 hxy
        rw [show pe12 y = Value.pointer (some ⟨y, 0, none⟩) from rfl] at hrun
        go_wp2_with (at_builtin; refine Lib.wpList_append_run _ rfl _ _ _ _ rfl _ _ rfl rfl _ _ hrun ?_)
        go_roundw
        case rel => exact ⟨c + 1, L2, HX.out.1, by first | rfl | (rw [W1]; rfl), rfl, HX.out.2⟩
        case measure => first | exact meas_lt8 HX.out.1 | (rw [W1]; exact meas_lt8 HX.out.1)
    · obtain rfl : c = n := by omega
      have e : l.take c = l := List.take_of_length_le (by have := HN.out; omega)
      have hI2 := hI.out
      rw [e] at hI2
      have HX : Hid _ := hI2
      have ib : ¬ ((c : Nat) : Int) < (c : Int) := Int.lt_irrefl _
      clear hI hI2 H4 HN HL hct hc e HE
      go_wp2
      go_ret
      obtain ⟨h1, h2, h3⟩ := HX.out
      subst h1
      exact ⟨rfl, h2, h3⟩
end Go.Proofs.YtefolifecbhgoaaGreat
namespace Go.Proofs.YtefolifecbhgoaaGreat
open Go.RowKit Gf2
set_option linter.unusedVariables false


theorem make_rows12 (n : Nat) (hn : 24 * n ≤ 140737488355328) (w : World) : (Instr.makeSlice 33 (.int .i64 (n : Int)) (.int .i64 (n : Int))).run Tryz.prog w = .ok (.slice (some ⟨w.heap.size, 0, none⟩) n n) (w.alloc (.cells (madeCells #[.slice none 0 0] n) 27)) := by
  have h : (Tryz.prog.info? 27).map (fun i => (i.zero, i.size, i.bytes)) = some (some (Value.slice none 0 0), 1, 24) := by kernel_rfl
  obtain ⟨i, hi, hz⟩ := Option.map_eq_some_iff.1 h
  simp only [Prod.mk.injEq] at hz
  have hr := run_make (P := Tryz.prog) w 33 27 i (.slice none 0 0) Tryz.underlying33 hi hz.1 .i64 .i64 n n (by omega) (by omega) (by rw [hz.2.2]; omega) (by omega)
  simp only [Int.toNat_natCast, hz.2.1, Nat.mul_one] at hr
  exact hr
structure Vk (w : World) (g m k : Nat) (len B : Nat → Nat) (S : Nat → Nat → Nat) : Prop where
  list : w.rowIs g 27 m (fun i => if i < k then .slice (some ⟨B i, 0, none⟩) (len i) (len i) else .slice none 0 0)
  row : ∀ i, i < k → g < B i ∧ Rw w (B i) (len i) (S i)
  inj : ∀ i j, i < k → j < k → B i = B j → i = j
theorem Vk.of {w w' : World} {g m k : Nat} {len B : Nat → Nat} {S : Nat → Nat → Nat} (h : Vk w g m k len B S) (e : ∀ b, b = g ∨ (∃ i, i < k ∧ b = B i) → w'.heap[b]? = w.heap[b]?) : Vk w' g m k len B S :=
  ⟨h.list.of_block (e g (.inl rfl)), fun i hi => ⟨(h.row i hi).1, (h.row i hi).2.of_block (e _ (.inr ⟨i, hi, rfl⟩))⟩, h.inj⟩
theorem Vk.below {w w' : World} {g m k : Nat} {len B : Nat → Nat} {S : Nat → Nat → Nat} (h : Vk w g m k len B S) (hb : Below w.heap.size w w') : Vk w' g m k len B S :=
  h.of (fun b hbb => hb.block b (by
    rcases hbb with rfl | ⟨i, hi, rfl⟩
    · exact h.list.lt
    · exact (h.row i hi).2.lt))
theorem Vk.next {w0 w3 : World} {g m k b : Nat} {len B : Nat → Nat} {S : Nat → Nat → Nat} (h : Vk w3 g m k len B S) (hk : k < m) (hgb : g < b) (hnew : ∀ i, i < k → B i ≠ b) (hr : Rw w3 b (len k) (S k)) :
    Vk (w3.setCell ⟨g, k, none⟩ (.slice (some ⟨b, 0, none⟩) (len k) (len k))) g m (k + 1) len (upn B k b) S := by
  have ko : ∀ x, x ≠ g → (w3.setCell ⟨g, k, none⟩ (.slice (some ⟨b, 0, none⟩) (len k) (len k))).heap[x]? = w3.heap[x]? := fun x hx => heap_setCell_other _ _ _ _ hx
  refine ⟨(h.list.set k _).congr (fun i hi => ?_), fun i hi => ?_, fun i j hi hj hij => ?_⟩
  · by_cases e : i = k
    · subst e; rw [if_pos rfl, if_pos (Nat.lt_succ_self _), upn_same]
    · rw [if_neg e]
      by_cases e2 : i < k
      · rw [if_pos e2, if_pos (by omega), upn_other _ _ e]
      · rw [if_neg e2, if_neg (by omega)]
  · by_cases e : i = k
    · subst e; rw [upn_same]; exact ⟨hgb, hr.of_block (ko b (by omega))⟩
    · rw [upn_other _ _ e]
      have := h.row i (by omega)
      exact ⟨this.1, this.2.of_block (ko _ (by omega))⟩
  · by_cases e1 : i = k
    · by_cases e2 : j = k
      · omega
      · subst e1
        rw [upn_same, upn_other _ _ e2] at hij
        exact absurd hij.symm (hnew j (by omega))
    · by_cases e2 : j = k
      · subst e2
        rw [upn_same, upn_other _ _ e1] at hij
        exact absurd hij (hnew i (by omega))
      · rw [upn_other _ _ e1, upn_other _ _ e2] at hij
        exact h.inj i j (by omega) (by omega) hij
abbrev Vv (w : World) (g m : Nat) (len B : Nat → Nat) (S : Nat → Nat → Nat) : Prop := Vk w g m m len B S
theorem Vk.lb {w : World} {g m : Nat} {len B : Nat → Nat} {S : Nat → Nat → Nat} (h : Vv w g m len B S) (hm : m ≤ big) : Lb w (.slice (some ⟨g, 0, none⟩) m m) m len S := by
  refine ⟨fun i => .slice (some ⟨B i, 0, none⟩) (len i) (len i), ⟨hm, _, _, rfl, Nat.le_refl _, hm, fun _ => ⟨g, 0, rfl, ⟨h.list.lt, fun e => e⟩, fun i hi => ?_⟩⟩, fun i hi => ?_⟩
  · rw [Nat.zero_add, h.list.cell hi, if_pos hi]
  · have := (h.row i hi).2
    exact this.re (Nat.le_refl _) (Nat.le_refl _) this.1 (fun e => e)
set_option maxHeartbeats 2000000 in
set_option maxRecDepth 100000 in
theorem copies12 (v : Value) (m : Nat) (len : Nat → Nat) (S : Nat → Nat → Nat) (w : World) (h : Lb w v m len S) (hm : 24 * m ≤ 140737488351232) (hn : ∀ i, i < m → len i ≤ 140737488351232) :
    Calls Tryz.prog 135 #[v] w fun e w' => ∃ B, e = .returned (.slice (some ⟨w.heap.size, 0, none⟩) m m) ∧ Vv w' w.heap.size m len B S ∧ Below w.heap.size w w' := by
  obtain ⟨V, ⟨hmb, a, cap, rfl, -, -, h4⟩, hV⟩ := h
  have hmk := make_rows12 m (by omega)
  have H0 : Hid (Vk (w.alloc (.cells (madeCells #[.slice none 0 0] m) 27)) w.heap.size m 0 len (fun _ => 0) S) :=
    ⟨(World.rowIs_made w (.slice none 0 0) m 27).congr (fun i _ => (if_neg (Nat.not_lt_zero _)).symm), fun i hi => absurd hi (Nat.not_lt_zero _), fun i j hi => absurd hi (Nat.not_lt_zero _)⟩
  have HB : Hid ((0 < m → ∃ b o, a = some ⟨b, o, none⟩ ∧ (b < w.heap.size ∧ ¬ False) ∧ ∀ i, i < m → w.cell? ⟨b, o + i, none⟩ = some (V i)) ∧ (∀ i, i < m → Re (fun _ => False) w (V i) (len i) (S i)) ∧ 24 * m ≤ 140737488351232 ∧ ∀ i, i < m → len i ≤ 140737488351232) := ⟨h4, hV, hm, hn⟩
  clear h4 hV hm hn hmb
  go_enter Tryz.func135, Tryz.ntmps135
  go_wp2
  clear hmk
  go_loopw [11] (fun iv wr => ∃ (k : Nat) (B : Nat → Nat), k ≤ m ∧ iv = .int .i64 (k : Nat) ∧ Vk wr w.heap.size m k len B S ∧ Below w.heap.size w wr) (fun iv _ => m - (intOf iv).toNat)
  case atStart => exact ⟨0, _, Nat.zero_le _, rfl, H0.out, (Below.refl _ _).alloc (Nat.le_refl _) _⟩
  case round =>
    obtain ⟨k, B, hk, rfl, hG, hb⟩ := hrel
    clear H0
    by_cases hlt : k < m
    case neg =>
      obtain rfl : m = k := by omega
      have ib : ¬ ((m : Nat) : Int) < (m : Int) := Int.lt_irrefl _
      have HX : Hid _ := And.intro hG hb
      clear hG hb HB
      go_wp2
      go_ret
      exact ⟨rfl, ⟨B, HX.out.1⟩, HX.out.2⟩
    case pos =>
    obtain ⟨b, o', rfl, hbl, hc⟩ := HB.out.1 (by omega)
    have q1 : wr.cell? ⟨b, o' + k, none⟩ = some (V k) := (hb.cell (p := ⟨b, o' + k, none⟩) hbl.1).trans (hc k hlt)
    have hr1 := (HB.out.2.1 k hlt).rb.below hb
    obtain ⟨x1, y1, e1⟩ : ∃ x y, V k = .slice x (len k) y := by obtain ⟨_, _, x, y, e, _⟩ := hr1; exact ⟨x, y, e⟩
    rw [e1] at q1 hr1
    have c1 := copiedb12 _ _ _ wr hr1 (by have := HB.out.2.2.2 k hlt; omega)
    have ib : ((k : Nat) : Int) < (m : Int) := by omega
    have W1 := wrap_succ8 (j := k) (by have := HB.out.2.2.1; unfold big; omega)
    have HG : Hid (Vk wr w.heap.size m k len B S ∧ Below w.heap.size w wr) := ⟨hG, hb⟩
    clear hr1 hG hb hc e1 hbl
    go_wp2_with (go_at_call 145; (with_reducible refine c1.mono ?_); rintro e w3 ⟨rfl, r3, b3⟩; clear c1; have g3 := HG.out.1.below b3; have p1 := g3.list.cell (i := k) hlt; rw [if_neg (Nat.lt_irrefl _)] at p1; have p2 := g3.list.frozen k; have hgl := HG.out.1.list.lt; have HN : Hid (Vk (w3.setCell ⟨w.heap.size, k, none⟩ (.slice (some ⟨wr.heap.size, 0, none⟩) (len k) (len k))) w.heap.size m (k + 1) len (upn B k wr.heap.size) S ∧ Below w.heap.size w (w3.setCell ⟨w.heap.size, k, none⟩ (.slice (some ⟨wr.heap.size, 0, none⟩) (len k) (len k)))) := ⟨g3.next (w0 := w) hlt hgl (fun i hi e => absurd (HG.out.1.row i hi).2.lt (by rw [e]; exact Nat.lt_irrefl _)) r3, (HG.out.2.trans (b3.mono HG.out.2.size)).setCell (Nat.le_refl _) _⟩; clear g3 r3 b3 hgl)
    go_roundw
    case rel => exact ⟨k + 1, _, hlt, by first | rfl | (rw [W1]; rfl), HN.out.1, HN.out.2⟩
    case measure => first | exact meas_lt8 hlt | (rw [W1]; exact meas_lt8 hlt)
set_option maxHeartbeats 2000000 in
set_option maxRecDepth 100000 in
theorem use12 (t r x : Nat) (l mm : Int) (ov : Value) (ls : List Nat) (w : World) (hT : Tb w t l r mm ov) (ho : Qp w ov ls) (hn : ls.length ≤ 2000) (hx : En12 w x) (hl : ∀ z, z ∈ ls → En12 w z) :
    Calls Tryz.prog 134 #[.pointer (some ⟨t, 0, none⟩), pe12 x] w fun e w' => e = .returned (.tuple #[]) ∧ ∃ W, Below w.heap.size w W ∧ w.heap.size < W.heap.size ∧ Op12 W w.heap.size (ls.length + 1) (wo12 x ls ++ [x]) ∧
      w' = W.setCell ⟨t, 3, none⟩ (.slice (some ⟨w.heap.size, 0, none⟩) (wo12 x ls ++ [x]).length (ls.length + 1)) := by
  have c1 := without12 ov ls x w ho hn hx hl
  have q3 : w.cell? ⟨t, 3, none⟩ = some ov := by rw [cell_of_row _ _ 3 _ _ _ hT]; rfl
  have HT : Hid (Tb w t l r mm ov) := hT
  obtain ⟨ao, co, eo, -⟩ := ho
  subst eo
  have hlen : (wo12 x ls).length < ls.length + 1 := Nat.lt_succ_of_le (List.length_filter_le _ _)
  clear hT hn hx hl
  rw [show pe12 x = Value.pointer (some ⟨x, 0, none⟩) from rfl] at c1 ⊢
  obtain ⟨N1, hN1⟩ : ∃ N1, N1 = ls.length + 1 := ⟨_, rfl⟩
  obtain ⟨L1, hL1⟩ : ∃ L1, L1 = (wo12 x ls).length := ⟨_, rfl⟩
  obtain ⟨L2, hL2⟩ : ∃ L2, L2 = (wo12 x ls ++ [x]).length := ⟨_, rfl⟩
  rw [← hN1] at c1 hlen ⊢
  rw [← hL1] at c1
  rw [← hL2]
  have HL : Hid (L1 = (wo12 x ls).length ∧ L2 = (wo12 x ls ++ [x]).length ∧ (wo12 x ls).length < N1) := ⟨hL1, hL2, hlen⟩
  clear hN1 hL1 hL2 hlen
  go_enter Tryz.func134, Tryz.ntmps134
  go_wp2_with (first
    | (go_at_call 144; (with_reducible refine c1.mono ?_); rintro e w1 ⟨rfl, hO, hb⟩; clear c1; obtain ⟨w2, hrun, hO2, hK⟩ := hO.push HL.out.2.2 x; rw [← HL.out.1, ← HL.out.2.1] at hrun; rw [show pe12 x = Value.pointer (some ⟨x, 0, none⟩) from rfl] at hrun; have hlt := hO.row; obtain ⟨V, hV, -⟩ := hlt; have hgl := hV.lt; have b2 : Below w.heap.size w w2 := hb.trans (hK.below (Nat.le_refl _) hb.size); have HW : Hid (Below w.heap.size w w2 ∧ w.heap.size < w2.heap.size ∧ Op12 w2 w.heap.size N1 (wo12 x ls ++ [x])) := ⟨b2, Nat.lt_of_lt_of_le hgl hK.1.size, hO2⟩; have z3 := (b2.cell (p := ⟨t, 3, none⟩) (Array.getElem?_eq_some_iff.1 HT.out).1).trans q3; have hTb : w2.heap[t]? = _ := (b2.block t (Array.getElem?_eq_some_iff.1 HT.out).1).trans HT.out; have f3 := frozen_of_row w2 t 3 _ _ hTb; clear hTb hO hO2 hK hb hV hgl b2 q3)
    | (at_builtin; refine Lib.wpList_append_run _ rfl _ _ _ _ rfl _ _ rfl rfl _ _ hrun ?_; clear hrun))
  ((try simp only [Exit.inBlock, Exit.then]); first | (refine bodyPost_ret (results_none rfl _ _ _) rfl ?_) | (refine bodyPost_end (results_none rfl _ _ _) rfl ?_))
  exact ⟨rfl, w2, HW.out.1, HW.out.2.1, HW.out.2.2, rfl⟩
end Go.Proofs.YtefolifecbhgoaaGreat
namespace Go.Proofs.YtefolifecbhgoaaGreat
open Go.RowKit Gf2
set_option linter.unusedVariables false


structure Ent where
  n : Nat
  F : Nat → Int
  m : Nat
  len : Nat → Nat
  S : Nat → Nat → Nat
def Ent.key (x : Ent) : List Int := tk12 x.F x.n
def Va (w : World) (Fp : Nat → Prop) (vv : Value) (m : Nat) (len : Nat → Nat) (S : Nat → Nat → Nat) : Prop := (m = 0 ∧ vv = .slice none 0 0) ∨ ∃ vb B, vv = .slice (some ⟨vb, 0, none⟩) m m ∧ Vv w vb m len B S ∧ Fp vb ∧ ∀ i, i < m → Fp (B i)
theorem Va.lb {w : World} {Fp : Nat → Prop} {vv : Value} {m : Nat} {len : Nat → Nat} {S : Nat → Nat → Nat} (h : Va w Fp vv m len S) (hm : m ≤ big) : Lb w vv m len S := by
  rcases h with ⟨rfl, rfl⟩ | ⟨vb, B, rfl, h, -⟩
  · exact ⟨fun _ => .slice none 0 0, ⟨Nat.zero_le _, _, _, rfl, Nat.le_refl _, Nat.zero_le _, fun h => absurd h (Nat.lt_irrefl _)⟩, fun i hi => absurd hi (Nat.not_lt_zero _)⟩
  · exact h.lb hm
structure Te (w : World) (Fp : Nat → Prop) (b : Nat) (x : Ent) : Prop where
  ex : ∃ kb vv, w.heap[b]? = some (.cells #[.slice (some ⟨kb, 0, none⟩) x.n x.n, vv] 205 (0, 0)) ∧ Ri w kb x.n x.F ∧ Fp kb ∧ Va w Fp vv x.m x.len x.S
  fp : Fp b
  hm : 24 * x.m ≤ 140737488351232
  hn : ∀ i, i < x.m → x.len i ≤ 140737488351232
  isk : isKf x.F 0 0 x.n = true
theorem Te.en {w : World} {Fp : Nat → Prop} {b : Nat} {x : Ent} (h : Te w Fp b x) : En12 w b := by
  obtain ⟨kb, vv, h1, -⟩ := h.ex
  exact ⟨_, h1⟩
theorem Va.keep {w w' : World} {Fp Fp' : Nat → Prop} {vv : Value} {m : Nat} {len : Nat → Nat} {S : Nat → Nat → Nat} (h : Va w Fp vv m len S) (hf : ∀ q, Fp q → Fp' q)
    (hr : ∀ q A T, Fp q → w.heap[q]? = some (.cells A T (0, 0)) → (T = 3 ∨ T = 5 ∨ T = 27) → w'.heap[q]? = w.heap[q]?) : Va w' Fp' vv m len S := by
  rcases h with h | ⟨vb, B, e, h3, f2, f3⟩
  · exact .inl h
  · refine .inr ⟨vb, B, e, h3.of (fun q hq => ?_), hf _ f2, fun i hi => hf _ (f3 i hi)⟩
    rcases hq with rfl | ⟨i, hi, rfl⟩
    · obtain ⟨A, a1, -⟩ := h3.list
      exact hr _ A _ f2 a1 (.inr (.inr rfl))
    · obtain ⟨A, a1, -⟩ := (h3.row i hi).2.2.2
      exact hr _ A _ (f3 i hi) a1 (.inr (.inl rfl))
theorem Te.keep {w w' : World} {Fp Fp' : Nat → Prop} {b : Nat} {x : Ent} (h : Te w Fp b x) (hf : ∀ q, Fp q → Fp' q) (hb : w'.heap[b]? = w.heap[b]?)
    (hr : ∀ q A T, Fp q → w.heap[q]? = some (.cells A T (0, 0)) → (T = 3 ∨ T = 5 ∨ T = 27) → w'.heap[q]? = w.heap[q]?) : Te w' Fp' b x := by
  obtain ⟨kb, vv, h1, h2, f1, h3⟩ := h.ex
  refine ⟨⟨kb, vv, hb.trans h1, ⟨h2.1, trivial, h2.2.2.of_block ?_⟩, hf _ f1, h3.keep hf hr⟩, hf _ h.fp, h.hm, h.hn, h.isk⟩
  obtain ⟨A, a1, -⟩ := h2.2.2
  exact hr kb A _ f1 a1 (.inl rfl)
def Qo (w : World) (Fp : Nat → Prop) (ov : Value) (ls : List Nat) : Prop := (ls = [] ∧ ov = .slice none 0 0) ∨ ∃ g N, ov = .slice (some ⟨g, 0, none⟩) ls.length N ∧ Op12 w g N ls ∧ Fp g
theorem Qo.qp {w : World} {Fp : Nat → Prop} {ov : Value} {ls : List Nat} (h : Qo w Fp ov ls) : Qp w ov ls := by
  rcases h with ⟨rfl, rfl⟩ | ⟨g, N, rfl, h, -⟩
  · exact ⟨_, _, rfl, fun h => absurd h (Nat.lt_irrefl _)⟩
  · exact h.qp
theorem Op12.of {w w' : World} {g N : Nat} {l : List Nat} (h : Op12 w g N l) (e : w'.heap[g]? = w.heap[g]?) : Op12 w' g N l := by
  obtain ⟨V, h1, h2⟩ := h.row
  exact ⟨h.le, V, h1.of_block e, h2⟩
structure Tw (w : World) (Fp : Nat → Prop) (t l r N : Nat) (B : List Int → Option Nat) (MB : Nat → Nat) (K : List Int → Option Nat) (mm : Nat) (ov : Value) (L : List (Nat × Ent)) : Prop where
  tb : Tb w t (l : Int) r (mm : Int) ov
  tq : Tq w r N B MB K
  link : ∀ p eb, K p = some eb ↔ ∃ x, (eb, x) ∈ L ∧ x.key = p
  nfp : ∀ p g, B p = some g → Fp g ∧ Fp (MB g)
  tfp : Fp t
  ents : ∀ b x, (b, x) ∈ L → Te w Fp b x
  nd : (L.map (·.1)).Nodup
  l1 : 1 ≤ l
  l2 : l ≤ 1024
  cnt : ∃ PL : List (List Int), PL.Nodup ∧ (∀ p, p ∈ PL ↔ p ≠ [] ∧ B p ≠ none) ∧ mm = PL.length
  mN : mm ≤ N
  pre : ∀ p, B p ≠ none → p = [] ∨ ∃ b x, (b, x) ∈ L ∧ ∃ i, i ≤ x.n ∧ p = tk12 x.F i
  fl : ∀ q, Fp q → q < w.heap.size
structure Tt (w : World) (Fp : Nat → Prop) (t l r N : Nat) (B : List Int → Option Nat) (MB : Nat → Nat) (K : List Int → Option Nat) (mm : Nat) (ov : Value) (L : List (Nat × Ent)) : Prop extends Tw w Fp t l r N B MB K mm ov L where
  od : Qo w Fp ov (L.map (·.1))
  ln : L.length ≤ l
def Tv (w : World) (Fp : Nat → Prop) (t l N : Nat) (L : List (Nat × Ent)) : Prop := ∃ r B MB K mm ov, Tt w Fp t l r N B MB K mm ov L
theorem Tq.of {w w' : World} {r N : Nat} {B : List Int → Option Nat} {MB : Nat → Nat} {K : List Int → Option Nat} (h : Tq w r N B MB K) (e : ∀ p g, B p = some g → w'.heap[g]? = w.heap[g]? ∧ w'.heap[MB g]? = w.heap[MB g]?) : Tq w' r N B MB K := by
  refine ⟨⟨h.root, fun p g hp => (e p g hp).1.trans (h.node p g hp), fun p g hp => ?_, h.off⟩, h.kept, h.inj, h.minj⟩
  obtain ⟨n, s, h1, h2⟩ := h.kids p g hp
  exact ⟨n, s, h1, h2.of_block (e p g hp).2⟩
theorem mp_blk {w : World} {b n s : Nat} {M : Int → Option Nat} (h : Mp w b n s M) : ∃ es c, w.heap[b]? = some (.map es c) := by
  obtain ⟨D, ⟨es, clock, hb, -⟩, -⟩ := h
  exact ⟨es, clock, hb⟩
section
variable {w w' : World} {Fp Fp' : Nat → Prop} {t l r N : Nat} {B : List Int → Option Nat} {MB : Nat → Nat} {K : List Int → Option Nat} {mm : Nat} {ov : Value} {L : List (Nat × Ent)}
theorem Tw.ke {E : Nat → Prop} (h : Tw w Fp t l r N B MB K mm ov L) (hk : Ke E w w') (hE : ∀ b, E b → ¬ Fp b) : Tw w' Fp t l r N B MB K mm ov L := by
  have fl : ∀ b A, Fp b → w.heap[b]? = some A → w'.heap[b]? = w.heap[b]? := fun b A hb hA => hk.2 b (Array.getElem?_eq_some_iff.1 hA).1 (fun e => hE b e hb)
  have hTb : w.heap[t]? = some _ := h.tb
  refine ⟨(fl t _ h.tfp hTb).trans h.tb, h.tq.of (fun p g hp => ⟨fl g _ (h.nfp p g hp).1 (h.tq.node p g hp), ?_⟩), h.link, h.nfp, h.tfp, fun b x hx => ?_, h.nd, h.l1, h.l2, h.cnt, h.mN, h.pre, fun q hq => Nat.lt_of_lt_of_le (h.fl q hq) hk.size⟩
  · obtain ⟨n, s, -, hm⟩ := h.tq.kids p g hp
    obtain ⟨es, c, hb⟩ := mp_blk hm
    exact fl _ _ (h.nfp p g hp).2 hb
  · have hT := h.ents b x hx
    obtain ⟨A, hA⟩ := hT.en
    exact hT.keep (fun _ e => e) (fl b _ hT.fp hA) (fun q A T hq hA _ => fl q _ hq hA)
theorem Qo.ke {E : Nat → Prop} {ls : List Nat} (h : Qo w Fp ov ls) (hk : Ke E w w') (hE : ∀ b, E b → ¬ Fp b) : Qo w' Fp ov ls := by
  rcases h with h1 | ⟨g, N', e, ho, hg⟩
  · exact .inl h1
  · obtain ⟨V, ⟨A, a1, -⟩, -⟩ := ho.row
    exact .inr ⟨g, N', e, ho.of (hk.2 g (Array.getElem?_eq_some_iff.1 a1).1 (fun e => hE g e hg)), hg⟩
theorem Tt.ke {E : Nat → Prop} (h : Tt w Fp t l r N B MB K mm ov L) (hk : Ke E w w') (hE : ∀ b, E b → ¬ Fp b) : Tt w' Fp t l r N B MB K mm ov L := ⟨h.toTw.ke hk hE, h.od.ke hk hE, h.ln⟩
theorem Tw.below (h : Tw w Fp t l r N B MB K mm ov L) (hb : Below w.heap.size w w') : Tw w' Fp t l r N B MB K mm ov L := h.ke (ke_below hb (fun _ => False)) (fun _ e => e.elim)
theorem Tt.below (h : Tt w Fp t l r N B MB K mm ov L) (hb : Below w.heap.size w w') : Tt w' Fp t l r N B MB K mm ov L := h.ke (ke_below hb (fun _ => False)) (fun _ e => e.elim)
theorem Tw.more (h : Tw w Fp t l r N B MB K mm ov L) (hf : ∀ q, Fp q → Fp' q) (hl : ∀ q, Fp' q → q < w.heap.size) : Tw w Fp' t l r N B MB K mm ov L :=
  ⟨h.tb, h.tq, h.link, fun p g hp => ⟨hf _ (h.nfp p g hp).1, hf _ (h.nfp p g hp).2⟩, hf _ h.tfp, fun b x hx => (h.ents b x hx).keep hf rfl (fun _ _ _ _ _ _ => rfl), h.nd, h.l1, h.l2, h.cnt, h.mN, h.pre, hl⟩
theorem Qo.more {ls : List Nat} (h : Qo w Fp ov ls) (hf : ∀ q, Fp q → Fp' q) : Qo w Fp' ov ls := by
  rcases h with h1 | ⟨g, N', e, ho, hg⟩
  · exact .inl h1
  · exact .inr ⟨g, N', e, ho, hf _ hg⟩
theorem Tw.not_t (h : Tw w Fp t l r N B MB K mm ov L) {x : Nat} {A : Array Value} {T : TypeId} (hx : w.heap[x]? = some (.cells A T (0, 0))) (hT : T ≠ 115) : x ≠ t := fun e => by
  have hTb : w.heap[t]? = some (.cells #[.int .i64 (l : Int), .pointer (some ⟨r, 0, none⟩), .int .i64 (mm : Int), ov] 115 (0, 0)) := h.tb
  rw [e, hTb] at hx
  injection hx with hx
  injection hx with _ e2
  exact hT e2.symm
theorem Tw.reorder (h : Tw w Fp t l r N B MB K mm ov L) {L' : List (Nat × Ent)} (hL : ∀ z, z ∈ L' ↔ z ∈ L) (hn : (L'.map (·.1)).Nodup) (hl : L'.length ≤ l) {g N' : Nat} (ho : Op12 w g N' (L'.map (·.1))) (hg : Fp g) :
    Tt (w.setCell ⟨t, 3, none⟩ (.slice (some ⟨g, 0, none⟩) (L'.map (·.1)).length N')) Fp t l r N B MB K mm (.slice (some ⟨g, 0, none⟩) (L'.map (·.1)).length N') L' := by
  have hTb : w.heap[t]? = some (.cells #[.int .i64 (l : Int), .pointer (some ⟨r, 0, none⟩), .int .i64 (mm : Int), ov] 115 (0, 0)) := h.tb
  have ko : ∀ x, x ≠ t → (w.setCell ⟨t, 3, none⟩ (.slice (some ⟨g, 0, none⟩) (L'.map (·.1)).length N')).heap[x]? = w.heap[x]? := fun x hx => heap_setCell_other _ _ _ _ hx
  refine ⟨⟨heap_setCell_same _ _ _ _ _ _ hTb, h.tq.of (fun p g' hp => ⟨ko _ (h.not_t (h.tq.node p g' hp) (by decide)), ?_⟩), fun p eb => ?_, h.nfp, h.tfp, fun b x hx => ?_, hn, h.l1, h.l2, h.cnt, h.mN, fun p hp => (h.pre p hp).imp id (fun ⟨b, x, h1, h2⟩ => ⟨b, x, (hL _).2 h1, h2⟩), fun q hq => by have := h.fl q hq; simpa [World.setCell] using this⟩, .inr ⟨g, N', rfl, ho.of ?_, hg⟩, hl⟩
  · obtain ⟨n, s, -, hm⟩ := h.tq.kids p g' hp
    obtain ⟨es, c, hb⟩ := mp_blk hm
    exact ko _ (fun e => by rw [e, hTb] at hb; cases hb)
  · rw [h.link p eb]
    constructor
    · rintro ⟨x, h1, h2⟩; exact ⟨x, (hL _).2 h1, h2⟩
    · rintro ⟨x, h1, h2⟩; exact ⟨x, (hL _).1 h1, h2⟩
  · have hT := h.ents b x ((hL _).1 hx)
    obtain ⟨A, hA⟩ := hT.en
    exact hT.keep (fun _ e => e) (ko _ (h.not_t hA (by decide))) (fun q A T _ hA hT => ko _ (h.not_t hA (by rcases hT with rfl | rfl | rfl <;> decide)))
  · obtain ⟨V, ⟨A, a1, -⟩, -⟩ := ho.row
    exact ko _ (h.not_t a1 (by decide))
def rv12 (eb : Nat) (y : Ent) (L : List (Nat × Ent)) : List (Nat × Ent) := L.map (fun z => if z.1 = eb then (eb, y) else z)
theorem rv12_fst (eb : Nat) (y : Ent) (L : List (Nat × Ent)) : (rv12 eb y L).map (·.1) = L.map (·.1) := by
  unfold rv12
  rw [List.map_map]
  refine List.map_congr_left (fun z _ => ?_)
  show (if z.1 = eb then (eb, y) else z).1 = z.1
  split
  · next e => exact e.symm
  · rfl
theorem rv12_mem {eb : Nat} {y : Ent} {z : Nat × Ent} (h : z ∈ rv12 eb y L) : z = (eb, y) ∨ (z ∈ L ∧ z.1 ≠ eb) := by
  obtain ⟨u, hu, e⟩ := List.mem_map.1 h
  by_cases e1 : u.1 = eb
  · rw [if_pos e1] at e; exact .inl e.symm
  · rw [if_neg e1] at e; subst e; exact .inr ⟨hu, e1⟩
theorem rv12_in {eb : Nat} {x y : Ent} (h : (eb, x) ∈ L) : (eb, y) ∈ rv12 eb y L := List.mem_map.2 ⟨(eb, x), h, if_pos rfl⟩
theorem rv12_of {eb : Nat} {y : Ent} {z : Nat × Ent} (h : z ∈ L) (hz : z.1 ≠ eb) : z ∈ rv12 eb y L := List.mem_map.2 ⟨z, h, if_neg hz⟩
end
def us12 (eb : Nat) (x : Ent) (L : List (Nat × Ent)) : List (Nat × Ent) := L.filter (fun z => decide (z.1 ≠ eb)) ++ [(eb, x)]
theorem us12_fst (eb : Nat) (x : Ent) (L : List (Nat × Ent)) : (us12 eb x L).map (·.1) = wo12 eb (L.map (·.1)) ++ [eb] := by
  unfold us12 wo12
  rw [List.map_append, List.filter_map]
  rfl
section
variable {L : List (Nat × Ent)} {eb : Nat} {x : Ent}
theorem fst_inj (hn : (L.map (·.1)).Nodup) {a b : Nat × Ent} (ha : a ∈ L) (hb : b ∈ L) (e : a.1 = b.1) : a = b := by
  induction L with
  | nil => cases ha
  | cons z L ih =>
    simp only [List.map_cons, List.nodup_cons] at hn
    rcases List.mem_cons.1 ha with e1 | h1
    · rcases List.mem_cons.1 hb with e2 | h2
      · rw [e1, e2]
      · exact absurd (List.mem_map.2 ⟨b, h2, by rw [← e, e1]⟩) hn.1
    · rcases List.mem_cons.1 hb with e2 | h2
      · exact absurd (List.mem_map.2 ⟨a, h1, by rw [e, e2]⟩) hn.1
      · exact ih hn.2 h1 h2
theorem us12_mem (hn : (L.map (·.1)).Nodup) (hx : (eb, x) ∈ L) (z : Nat × Ent) : z ∈ us12 eb x L ↔ z ∈ L := by
  unfold us12
  simp only [List.mem_append, List.mem_filter, List.mem_singleton, decide_eq_true_eq]
  constructor
  · rintro (h | rfl)
    · exact h.1
    · exact hx
  · intro h
    by_cases e : z.1 = eb
    · exact .inr (fst_inj hn h hx e)
    · exact .inl ⟨h, e⟩
theorem us12_nd (hn : (L.map (·.1)).Nodup) : ((us12 eb x L).map (·.1)).Nodup := by
  rw [us12_fst]
  unfold wo12
  refine List.nodup_append.2 ⟨hn.filter _, by simp, fun a ha b hb e => ?_⟩
  simp only [List.mem_filter, List.mem_singleton, decide_eq_true_eq] at ha hb
  exact ha.2 (e.trans hb)
theorem count_fst (hn : (L.map (·.1)).Nodup) (hx : (eb, x) ∈ L) : (L.filter (fun z => decide (z.1 ≠ eb))).length + 1 = L.length := by
  induction L with
  | nil => cases hx
  | cons z L ih =>
    simp only [List.map_cons, List.nodup_cons] at hn
    by_cases e : z.1 = eb
    · have h0 : L.filter (fun z => decide (z.1 ≠ eb)) = L := List.filter_eq_self.2 (fun a ha => by
        simp only [decide_eq_true_eq]
        intro e2
        exact hn.1 (List.mem_map.2 ⟨a, ha, e2.trans e.symm⟩))
      rw [List.filter_cons, if_neg (by simp [e]), h0, List.length_cons]
    · rcases List.mem_cons.1 hx with rfl | hx
      · exact absurd rfl e
      · rw [List.filter_cons, if_pos (by simpa using e), List.length_cons, List.length_cons, ← ih hn.2 hx]
theorem us12_len (hn : (L.map (·.1)).Nodup) (hx : (eb, x) ∈ L) : (us12 eb x L).length = L.length := by
  unfold us12
  rw [List.length_append, List.length_singleton]
  exact count_fst hn hx
end
end Go.Proofs.YtefolifecbhgoaaGreat
namespace Go.Proofs.YtefolifecbhgoaaGreat
open Go.RowKit Gf2
set_option linter.unusedVariables false


theorem Te.val {w : World} {Fp : Nat → Prop} {b : Nat} {x : Ent} (h : Te w Fp b x) : ∃ va vc, w.cell? ⟨b, 1, none⟩ = some (.slice va x.m vc) ∧ Lb w (.slice va x.m vc) x.m x.len x.S := by
  obtain ⟨kb, vv, h1, -, -, h3⟩ := h.ex
  have hl := h3.lb (by have := h.hm; unfold big; omega)
  obtain ⟨V, ⟨-, a, c, e, -⟩, -⟩ := id hl
  subst e
  exact ⟨a, c, by rw [cell_of_row _ _ 1 _ _ _ h1]; rfl, hl⟩
section
variable {w : World} {Fp : Nat → Prop} {t l r N : Nat} {B : List Int → Option Nat} {MB : Nat → Nat} {K : List Int → Option Nat} {mm : Nat} {ov : Value} {L : List (Nat × Ent)}
theorem Tt.lacks (h : Tt w Fp t l r N B MB K mm ov L) {p : List Int} (hp : ∀ b x, (b, x) ∈ L → x.key ≠ p) : K p = none := by
  cases e : K p with
  | none => rfl
  | some eb =>
    obtain ⟨x, h1, h2⟩ := (h.link p eb).1 e
    exact absurd h2 (hp eb x h1)
set_option maxHeartbeats 2000000 in
set_option maxRecDepth 100000 in
theorem get12_no (h : Tt w Fp t l r N B MB K mm ov L) (v : Value) (n : Nat) (F : Nat → Int) (hv : Qi w v n F) (hw : ∀ i, i < n → (Lit.int .i64 (F i)).wf = true) (hp : ∀ b x, (b, x) ∈ L → x.key ≠ tk12 F n) :
    Calls Tryz.prog 122 #[.pointer (some ⟨t, 0, none⟩), v] w fun e w' => e = .returned (.tuple #[.slice none 0 0, .bool false]) ∧ w' = w := by
  have c1 := find12 t r n N l mm ov v B MB K F w h.tb h.tq hv hw
  rw [h.lacks hp, show pv12 none = Value.pointer none from rfl] at c1
  obtain ⟨-, -, a, cap, rfl, -⟩ := hv
  clear h hw hp
  go_enter Tryz.func122, Tryz.ntmps122
  go_wp2_with (go_at_call 133; (with_reducible refine c1.mono ?_); rintro e w9 ⟨rfl, hw9⟩; have hw9 := hw9.symm; subst hw9)
  go_ret2
  exact ⟨rfl, rfl⟩
structure Gt (w w' : World) (g : Nat) (x : Ent) : Prop where
  lo : w.heap.size ≤ g
  val : ∃ B, Vv w' g x.m x.len B x.S
structure Us (w w' : World) (Fp : Nat → Prop) (t l r N : Nat) (B : List Int → Option Nat) (MB : Nat → Nat) (K : List Int → Option Nat) (mm : Nat) (L : List (Nat × Ent)) : Prop where
  tt : ∃ ov, Tt w' (fun q => Fp q ∨ q = w.heap.size) t l r N B MB K mm ov L
  ke : Ke (fun q => q = t) w w'
  lt : w.heap.size < w'.heap.size
theorem Tw.used (h : Tw w Fp t l r N B MB K mm ov L) {O : List Nat} (hO : Qo w Fp ov O) (hO1 : O.length ≤ 2000) (hO2 : ∀ z, z ∈ O → En12 w z) {eb : Nat} {x : Ent} (hx : (eb, x) ∈ L) (hln : L.length ≤ l) (hO3 : wo12 eb O ++ [eb] = (us12 eb x L).map (·.1)) :
    Calls Tryz.prog 134 #[.pointer (some ⟨t, 0, none⟩), pe12 eb] w fun e w' => e = .returned (.tuple #[]) ∧ Us w w' Fp t l r N B MB K mm (us12 eb x L) := by
  have hT := h.ents eb x hx
  refine (use12 t r eb l mm ov O w h.tb hO.qp hO1 hT.en hO2).mono ?_
  rintro e w' ⟨rfl, W, hb, hlt, hO', rfl⟩
  rw [hO3] at hO' ⊢
  have h1 : Tw W (fun q => Fp q ∨ q = w.heap.size) t l r N B MB K mm ov L := (h.below hb).more (fun q hq => .inl hq) (fun q hq => by
    rcases hq with hq | rfl
    · exact Nat.lt_trans (h.fl q hq) hlt
    · exact hlt)
  refine ⟨rfl, ⟨_, h1.reorder (us12_mem h.nd hx) (us12_nd h.nd) (by rw [us12_len h.nd hx]; exact hln) hO' (.inr rfl)⟩, ?_, by simpa [World.setCell] using hlt⟩
  exact (ke_below hb _).trans ((Kp.refl t W).setCell 3 _).ke
theorem Tt.used (h : Tt w Fp t l r N B MB K mm ov L) {eb : Nat} {x : Ent} (hx : (eb, x) ∈ L) :
    Calls Tryz.prog 134 #[.pointer (some ⟨t, 0, none⟩), pe12 eb] w fun e w' => e = .returned (.tuple #[]) ∧ Us w w' Fp t l r N B MB K mm (us12 eb x L) :=
  h.toTw.used h.od (by rw [List.length_map]; have := h.ln; have := h.l2; omega) (fun z hz => by
    obtain ⟨y, hy, rfl⟩ := List.mem_map.1 hz
    exact (h.ents y.1 y.2 hy).en) hx h.ln (us12_fst eb x L).symm
set_option maxHeartbeats 2000000 in
set_option maxRecDepth 100000 in
theorem get12_yes (h : Tt w Fp t l r N B MB K mm ov L) (v : Value) (n : Nat) (F : Nat → Int) (hv : Qi w v n F) (hw : ∀ i, i < n → (Lit.int .i64 (F i)).wf = true) {eb : Nat} {x : Ent} (hx : (eb, x) ∈ L) (hp : x.key = tk12 F n) :
    Calls Tryz.prog 122 #[.pointer (some ⟨t, 0, none⟩), v] w fun e w' => ∃ g, e = .returned (.tuple #[.slice (some ⟨g, 0, none⟩) x.m x.m, .bool true]) ∧ w.heap.size < g ∧ Gt w w' g x ∧ Us w w' Fp t l r N B MB K mm (us12 eb x L) := by
  have c1 := find12 t r n N l mm ov v B MB K F w h.tb h.tq hv hw
  rw [(h.link _ eb).2 ⟨x, hx, hp⟩, show pv12 (some eb) = Value.pointer (some ⟨eb, 0, none⟩) from rfl] at c1
  have c2 := h.used hx
  rw [show pe12 eb = Value.pointer (some ⟨eb, 0, none⟩) from rfl] at c2
  have HM : Hid ((eb, x) ∈ us12 eb x L) := (us12_mem h.nd hx _).2 hx
  obtain ⟨-, -, a, cap, rfl, -⟩ := hv
  clear h hw hp hx
  go_enter Tryz.func122, Tryz.ntmps122
  go_wp2_with (first
    | (go_at_call 133; (with_reducible refine c1.mono ?_); rintro e w9 ⟨rfl, hw9⟩; have hw9 := hw9.symm; subst hw9; clear c1)
    | (go_at_call 134; (with_reducible refine c2.mono ?_); rintro e w8 ⟨rfl, hU⟩; clear c2; obtain ⟨ov', hT8⟩ := hU.tt; have hT := hT8.ents eb x HM.out; obtain ⟨va, vc, q1, hl⟩ := hT.val; have c3 := copies12 _ x.m x.len x.S w8 hl hT.hm hT.hn; have HU : Hid _ := hU; clear hT8 hT hl hU)
    | (go_at_call 135; (with_reducible refine c3.mono ?_); rintro e w7 ⟨B7, rfl, hV, hb⟩; clear c3; have HX : Hid (_ ∧ _) := ⟨hV, hb⟩; clear hV hb))
  go_ret2
  refine ⟨_, rfl, HU.out.lt, ⟨Nat.le_of_lt HU.out.lt, B7, HX.out.1⟩, ?_, HU.out.ke.trans (ke_below HX.out.2 _), Nat.lt_of_lt_of_le HU.out.lt HX.out.2.size⟩
  obtain ⟨ov2, hT2⟩ := HU.out.tt
  exact ⟨ov2, hT2.below HX.out.2⟩
end
end Go.Proofs.YtefolifecbhgoaaGreat
