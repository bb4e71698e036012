import Derived.Test.YtfhgamaakkoplaaMvap
namespace Go.Proofs.Ytfhgamaakkoplaa
open Go.RowKit Gf2
set_option linter.unusedVariables false

theorem oth_tp {p d : Nat} (h : Fld p d) {pts o : Nat → Nat} {n i : Nat} (ho : Oth p d pts n i o) (hx : pts i < 2 ^ d) (hn : 0 < n) : Tp o (n - 1) := by
  have t := h.pv_tp pts n
  have hne : o ≠ pz := fun e => t.ne (by rw [ho.eq, e, h.pz_pm])
  obtain ⟨k, _, tk⟩ := tp_of ho.dg hne
  have t2 := h.tp_pm ho.el (h.el_px hx) tk (px_tp (pts i))
  rw [← ho.eq] at t2
  have := t2.only t
  have : k = n - 1 := by omega
  rw [← this]; exact tk
/-- which elements were seen among the first i. -/
def sn (l : List Nat) (i x : Nat) : Bool := (List.range i).any (fun j => co l j == x)
theorem sn_iff {l : List Nat} {i x : Nat} : sn l i x = true ↔ ∃ j, j < i ∧ co l j = x := by
  unfold sn
  rw [List.any_eq_true]
  constructor
  · rintro ⟨j, hj, e⟩; exact ⟨j, List.mem_range.1 hj, by simpa using e⟩
  · rintro ⟨j, hj, e⟩; exact ⟨j, List.mem_range.2 hj, by simpa using e⟩
theorem sn_put {l : List Nat} {i x : Nat} : (if x = co l i then Value.bool true else .bool (sn l i x)) = .bool (sn l (i + 1) x) := by
  by_cases e : x = co l i
  · rw [if_pos e]
    congr 1
    exact (sn_iff.2 ⟨i, by omega, e.symm⟩).symm
  · rw [if_neg e]
    congr 1
    rw [Bool.eq_iff_iff, sn_iff, sn_iff]
    constructor
    · rintro ⟨j, hj, e2⟩; exact ⟨j, by omega, e2⟩
    · rintro ⟨j, hj, e2⟩
      refine ⟨j, ?_, e2⟩
      rcases Nat.lt_or_ge j i with h1 | h1
      · exact h1
      · have : j = i := by omega
        subst this
        exact absurd e2.symm e
/-- all unlike. -/
def Inj (l : List Nat) : Prop := ∀ i j, i < l.length → j < l.length → co l i = co l j → i = j
/-- what Interpolate tells of unlike points. -/
def Thr (p d : Nat) (l m : List Nat) (S : Nat → Nat) : Prop := El d S ∧ Dg S l.length ∧ ∀ j, j < l.length → pe p (co l j) l.length S = co m j
theorem co_px (x : Nat) : co [x, 1] = px x := by
  funext i
  unfold co px
  match i with
  | 0 => rfl
  | 1 => rfl
  | i + 2 => simp

/-- a region that draws its order and only reads. -/
theorem region_still {P : Program} {id : Nat} {Q : Exit → Act → World → Prop} {a : Act} {w : World} {l : List Oper} (hm : P.follows .mixedOrders = true) (hB : Region.lexB .any l.toArray = true)
    (h : wpStill P l.toArray w.drew (fun a' => Q .normal a' w.drew) l a) : (Code.region id l.toArray true).wp P Q a w := wp_region_still_lit hm hB h
theorem lag_succ (p : Nat) (c : Nat → Nat) (o : Nat → Nat → Nat) (n t : Nat) : lag p c o (n + 1) t = lag p c o n t ^^^ fm p (c n) (o n t) := by
  show pa (lag p c o n) (pc p (c n) (o n)) t = _
  unfold pa pc
  rfl
theorem lag_put {p j t y : Nat} {S o : Nat → Nat} {c : Nat} (hy : y = fm p c (o j)) :
    (if t = j then Value.int .u16 ((S j ^^^ y : Nat) : Int) else .int .u16 ((S t ^^^ (if t < j then fm p c (o t) else 0) : Nat) : Int)) = .int .u16 ((S t ^^^ (if t < j + 1 then fm p c (o t) else 0) : Nat) : Int) := by
  by_cases e : t = j
  · subst e; rw [if_pos rfl, if_pos (by omega), hy]
  · rw [if_neg e]
    by_cases e2 : t < j
    · rw [if_pos e2, if_pos (by omega)]
    · rw [if_neg e2, if_neg (by omega)]
theorem sl_two {w : World} {x : Nat} (hx : x < 65536) : Sl (w.alloc (.cells #[.int .u16 (x : Int), .int .u16 1] 57)) (.slice (some ⟨w.heap.size, 0, none⟩) 2 2) [x, 1] := by
  refine ⟨fun y hy => by simp at hy; rcases hy with rfl | rfl; exact hx; decide, by simp, _, _, rfl, fun _ => ⟨w.heap.size, 0, rfl, by simp, fun i hi => ?_⟩⟩
  rw [cell_of_row _ w.heap.size _ _ _ _ (heap_alloc_new _ _)]
  match i, hi with
  | 0, _ => rfl
  | 1, _ => rfl

set_option maxHeartbeats 8000000 in
set_option maxRecDepth 100000 in
theorem pinterp_any (wide : Bool) (v u : Value) (l m : List Nat) (w : World) (h : Sl w v l) (k : Sl w u m) (hl : ∀ x ∈ l, x < 2 ^ dq wide) (hm : ∀ x ∈ m, x < 2 ^ dq wide) (h1 : l.length ≤ 1024) (h2 : m.length = l.length) :
    Calls Try.prog 21 #[.bool wide, v, u] w fun e w' => Below w.heap.size w w' ∧ (¬ Inj l → e = .returned (.tuple #[.slice none 0 0, .int .i64 41])) ∧ (Inj l → ∃ v' S, e = .returned (.tuple #[v', .int .i64 0]) ∧ AnsP w' w.heap.size v' S ∧ Thr (fq wide) (dq wide) l m S) := by
  have F := fldq wide
  have eL := el_list hl
  have eM := el_list hm
  have HSl : Hid (Sl w v l ∧ Sl w u m) := ⟨h, k⟩
  obtain ⟨l1, l2, a, cap, rfl, h4⟩ := h
  obtain ⟨m1, m2, c, cap', rfl, k4⟩ := k
  have hz := fun w => zero_seen w
  have D1 : decide ((1024 : Int) < (l.length : Int)) = false := by simp; omega
  rw [h2]
  go_enter Try.func21, Try.ntmps21
  go_wp2
  go_loopw [10] (fun iv wr => ∃ i : Nat, i ≤ l.length ∧ iv = .int .i64 i ∧ (∀ a b, a < i → b < i → co l a = co l b → a = b) ∧ wr.rowIs w.heap.size 75 65536 (fun x => .bool (sn l i x)) ∧ wr.heap.size = w.heap.size + 1 ∧ Below w.heap.size w wr) (fun iv _ => l.length - (intOf iv).toNat)
  case atStart =>
    refine ⟨0, Nat.zero_le _, rfl, fun a b ha => absurd ha (by omega), ?_, by simp, (Below.refl _ _).alloc (Nat.le_refl _) _⟩
    refine ⟨_, heap_alloc_new _ _, Array.size_replicate, fun i hi => ?_⟩
    rw [Array.getElem?_replicate, if_pos hi]; rfl
  case round =>
    obtain ⟨i, hi, rfl, hinj, hr, hs, hb⟩ := hrel
    by_cases hil : i < l.length
    · obtain ⟨b, o, rfl, hbl, hc⟩ := h4 (by omega)
      have q1 := (hb.cell (p := ⟨b, o + i, none⟩) hbl).trans (hc i hil)
      have lx := co_lt l1 i
      have q2 := hr.cell (i := co l i) lx
      have f2 := hr.frozen (co l i)
      have iN : ((i : Nat) : Int) < (l.length : Int) := by omega
      have xN : ((co l i : Nat) : Int) < 65536 := by omega
      have ne : w.heap.size ≠ b := by omega
      have HR : Hid (wr.rowIs w.heap.size 75 65536 (fun x => .bool (sn l i x)) ∧ Below w.heap.size w wr ∧ wr.heap.size = w.heap.size + 1) := ⟨hr, hb, hs⟩
      cases hsn : sn l i (co l i) with
      | true =>
        rw [hsn] at q2
        obtain ⟨j, hj, e⟩ := sn_iff.1 hsn
        have HI : Hid (¬ Inj l) := fun hI => by have := hI j i (by omega) hil e; omega
        clear hr hb hs h4 k4 hc hinj hsn e lx f2
        go_wp2
        go_ret2
        exact ⟨HR.out.2.1, fun _ => rfl, fun hI => absurd hI HI.out⟩
      | false =>
        rw [hsn] at q2
        have HI : Hid (∀ a b, a < i + 1 → b < i + 1 → co l a = co l b → a = b) := fun x y hx hy e => by
          have hno : ∀ j, j < i → co l j ≠ co l i := fun j hj e2 => by rw [sn_iff.2 ⟨j, hj, e2⟩] at hsn; cases hsn
          rcases Nat.lt_or_ge x i with p1 | p1
          · rcases Nat.lt_or_ge y i with p2 | p2
            · exact hinj x y p1 p2 e
            · have : y = i := by omega
              subst this
              exact absurd e (hno x p1)
          · have : x = i := by omega
            subst this
            rcases Nat.lt_or_ge y x with p2 | p2
            · exact absurd e.symm (hno y p2)
            · omega
        have ML := meas_lt hil
        have Wi : wrap64 ((i : Int) + 1) = (i : Int) + 1 := wrap_succ (by omega)
        clear hr hb hs h4 k4 hc hinj hsn lx
        go_wp2
        go_roundw
        case rel => exact ⟨i + 1, hil, by first | (rw [Wi]; rfl) | rfl, HI.out, (HR.out.1.set (co l i) _).congr (fun x _ => sn_put), by simpa using HR.out.2.2, HR.out.2.1.setCell (Nat.le_refl _) _⟩
        case measure => first | exact ML | (rw [Wi]; exact ML)
    · have hi6 : i = l.length := by omega
      subst hi6
      have HI : Inj l := fun a b ha hb e => hinj a b ha hb e
      have hlx : ∀ i, i < l.length → co l i < 2 ^ dq wide := fun i _ => eL i
      obtain ⟨o, ho⟩ : ∃ o : Nat → Nat → Nat, ∀ i, i < l.length → Oth (fq wide) (dq wide) (co l) l.length i (o i) := ⟨fun i => if h : i < l.length then (F.oth_ex hlx h).choose else pz, fun i hi => by
        show Oth _ _ _ _ _ (if h : i < l.length then (F.oth_ex hlx h).choose else pz)
        rw [dif_pos hi]; exact (F.oth_ex hlx hi).choose_spec⟩
      obtain ⟨cf, hcf⟩ : ∃ cf : Nat → Nat, ∀ i, cf i = fm (fq wide) (co m i) (fi (fq wide) (pe (fq wide) (co l i) l.length (o i))) := ⟨_, fun _ => rfl⟩
      have HCF : Hid (∀ i, cf i = fm (fq wide) (co m i) (fi (fq wide) (pe (fq wide) (co l i) l.length (o i)))) := hcf
      clear hcf
      have c1 := pvanish_any wide _ l wr (HSl.out.1.below hb) hl h1
      have hmk := make_u16 l.length (by omega)
      have HB : Hid (Below w.heap.size w wr ∧ Inj l ∧ (∀ i, i < l.length → Oth (fq wide) (dq wide) (co l) l.length i (o i))) := ⟨hb, HI, ho⟩
      clear hr hs hb hinj HI hz D1
      go_wp2_with (go_at_call 33; ((with_reducible refine (c1).mono ?_); (rintro e w1 ⟨va, rfl, hfa, hb1⟩)))
      have hbw1 : Below w.heap.size w w1 := HB.out.1.trans (hb1.mono HB.out.1.size)
      have HW1 : Hid (Fr w1 wr.heap.size va (lf (l.length + 1) (pv (fq wide) (co l) l.length)) ∧ Below w.heap.size w w1 ∧ w.heap.size ≤ w1.heap.size) := ⟨hfa, hbw1, hbw1.size⟩
      have HA : Hid (Below w1.heap.size w1 (w1.alloc (.cells (madeCells #[.int .u16 0] l.length) 57)) ∧ (w1.alloc (.cells (madeCells #[.int .u16 0] l.length) 57)).rowIs w1.heap.size 57 l.length (fun _ => .int .u16 0)) := ⟨(Below.refl _ _).alloc (Nat.le_refl _) _, World.rowIs_made w1 (.int .u16 0) l.length 57⟩
      clear hfa hb1 hbw1 c1 hmk
      go_loopw [13] (fun iv wq => ∃ i : Nat, i ≤ l.length ∧ iv = .int .i64 i ∧ wq.rowIs w1.heap.size 57 l.length (fun t => .int .u16 (lag (fq wide) cf o i t : Nat)) ∧ Below w1.heap.size w1 wq) (fun iv _ => l.length - (intOf iv).toNat)
      case atStart => exact ⟨0, Nat.zero_le _, rfl, HA.out.2, HA.out.1⟩
      case round =>
        obtain ⟨i, hi, rfl, hr, hbq⟩ := hrel
        by_cases hil : i < l.length
        · have hbwq : Below w.heap.size w wr := HW1.out.2.1.trans (hbq.mono HW1.out.2.2)
          obtain ⟨b, ob, rfl, hbl, hc⟩ := h4 (by omega)
          obtain ⟨b', ob', rfl, hbl', hc'⟩ := k4 (by omega)
          have q1 := (hbwq.cell (p := ⟨b, ob + i, none⟩) hbl).trans (hc i hil)
          have q2 := (hbwq.cell (p := ⟨b', ob' + i, none⟩) hbl').trans (hc' i (by omega))
          have iN : ((i : Nat) : Int) < (l.length : Int) := by omega
          have ML := meas_lt hil
          have Wi : Hid (wrap64 ((i : Int) + 1) = (i : Int) + 1) := wrap_succ (by omega)
          have HR : Hid (wr.rowIs w1.heap.size 57 l.length (fun t => .int .u16 (lag (fq wide) cf o i t : Nat)) ∧ Below w1.heap.size w1 wr) := ⟨hr, hbq⟩
          by_cases hv : co m i = 0
          · have T0 : (((co m i : Nat) : Int) == 0) = true := by simp; omega
            have HZ : Hid (∀ t, lag (fq wide) cf o (i + 1) t = lag (fq wide) cf o i t) := fun t => by
              rw [lag_succ, HCF.out i, hv, F.zero_fm, F.zero_fm, Nat.xor_zero]
            have W9 := Wi.out
            clear hr hbq hbwq hc hc' h4 k4 q1
            go_wp2
            go_roundw
            case rel => exact ⟨i + 1, hil, by first | (rw [W9]; rfl) | rfl, HR.out.1.congr (fun t _ => by rw [HZ.out t]), HR.out.2⟩
            case measure => first | (rw [W9]; exact ML) | exact ML
          · have T0 : (((co m i : Nat) : Int) == 0) = false := by simp; omega
            have lx : co l i < 65536 := co_lt l1 i
            have c4 := pdivide_any wide va (.slice (some ⟨wr.heap.size, 0, none⟩) 2 2) (lf (l.length + 1) (pv (fq wide) (co l) l.length)) [co l i, 1] (wr.alloc (.cells #[.int .u16 (co l i : Nat), .int .u16 1] 57)) (((HW1.out.1.below hbq).below ((Below.refl _ _).alloc (Nat.le_refl _) _)).sl) (sl_two lx)
              (lf_mem (fun j _ => F.el_pv _ _ j)) (fun y hy => by simp at hy; rcases hy with rfl | rfl; exact eL i; exact F.one_lt) (by rw [lf_len]; omega) (by simp) (by simp [nzl])
            have n2 : nzl [co l i, 1] = 2 := by simp [nzl]
            rw [n2, co_px, co_lf (F.pv_dg (co l) l.length)] at c4
            have hoi := HB.out.2.2 i hil
            have HQ : Hid (∀ Q M : Nat → Nat, Pol (dq wide) Q → El (dq wide) M → Dg M (2 - 1) → pv (fq wide) (co l) l.length = pa (pm (fq wide) Q (px (co l i))) M → Q = o i) := fun Q M pQ eMM dM he => (F.div_only (F.el_px (eL i)) (px_tp (co l i)) pQ ⟨hoi.el, _, hoi.dg⟩ dM (Dg.pz 1) (by rw [← he, pa_pz]; exact hoi.eq)).1
            have hto := oth_tp F hoi (eL i) (by omega)
            have HT : Hid (Tp (o i) (l.length - 1) ∧ Dg (o i) l.length ∧ El (dq wide) (o i)) := ⟨hto, hoi.dg, hoi.el⟩
            have hne : pe (fq wide) (co l i) l.length (o i) ≠ 0 := fun e => (F.oth_at hoi hlx HB.out.2.1 hil hil).1 e rfl
            have c6 := fun w => pinverse_nat wide (pe (fq wide) (co l i) l.length (o i)) w (F.pe_lt _ _ _) hne
            have c7 := fun w => ptimes_nat wide (co m i) (fi (fq wide) (pe (fq wide) (co l i) l.length (o i))) w (eM i) (F.fi_lt (F.pe_lt _ _ _) hne)
            rw [← HCF.out i] at c7
            have hcl : cf i < 2 ^ dq wide := by rw [HCF.out i]; exact F.fm_lt _ _
            have bA : Below w1.heap.size w1 (wr.alloc (.cells #[.int .u16 (co l i : Nat), .int .u16 1] 57)) := hbq.alloc hbq.size _
            have hsz := hbq.size
            have HC : Hid ((∀ j, j < l.length → w.cell? ⟨b, ob + j, none⟩ = some (.int .u16 (co l j : Nat))) ∧ (∀ j, j < m.length → w.cell? ⟨b', ob' + j, none⟩ = some (.int .u16 (co m j : Nat))) ∧ Below w1.heap.size w1 (wr.alloc (.cells #[.int .u16 (co l i : Nat), .int .u16 1] 57)) ∧ (wr.alloc (.cells #[.int .u16 (co l i : Nat), .int .u16 1] 57)).heap.size = wr.heap.size + 1 ∧ w1.heap.size < wr.heap.size ∧ l.length = m.length) := ⟨hc, hc', bA, by simp, hr.lt, by omega⟩
            clear hr hbq hbwq hc hc' h4 k4 bA hoi hto hv n2 hne
            go_wp2_with (go_at_call 34; ((with_reducible refine (c4).mono ?_); (rintro e w3 ⟨v3, u3, Q, M, rfl, hQ, hMM, hb3, pQ, eMM, dM, he⟩; have eQ := HQ.out Q M pQ eMM dM he; subst eQ)))
            obtain ⟨LO, fO, nO, cO⟩ := hQ
            have hLO : LO.length = l.length := by
              have p1 := neat_le nO (by rw [cO]; exact HT.out.2.1)
              have p2 : l.length - 1 < LO.length := by
                rcases Nat.lt_or_ge (l.length - 1) LO.length with p3 | p3
                · exact p3
                · exact absurd (by rw [← cO]; exact co_dg LO _ p3) HT.out.1.2
              omega
            have sO := fO.sl
            obtain ⟨z1, z2, gO, hgO, hv3, rO⟩ := fO
            have c5 := peval_any wide _ LO (co l i) w3.drew (show Sl w3.drew v3 LO from sO) (mem_of_el (by rw [cO]; exact HT.out.2.2)) (eL i)
            rw [hLO, cO] at c5
            rw [hLO] at hv3 rO
            rw [cO] at rO
            subst hv3
            obtain ⟨y1, y2, y3, y4, y5, y6⟩ := HC.out
            have b3 : Below w1.heap.size w1 w3 := y3.trans (hb3.mono (by omega))
            have bw3 : Below w.heap.size w w3 := HW1.out.2.1.trans (b3.mono HW1.out.2.2)
            have p1 := (bw3.cell (p := ⟨b, ob + i, none⟩) hbl).trans (y1 i hil)
            have p2 := (bw3.cell (p := ⟨b', ob' + i, none⟩) hbl').trans (y2 i (by omega))
            have rS : w3.rowIs w1.heap.size 57 l.length (fun t => .int .u16 (lag (fq wide) cf o i t : Nat)) := (HR.out.1.alloc _).of_block (hb3.block _ (by omega))
            have neO : w1.heap.size ≠ gO := by omega
            have HR3 : Hid (w3.rowIs w1.heap.size 57 l.length (fun t => .int .u16 (lag (fq wide) cf o i t : Nat)) ∧ w3.rowIs gO 57 l.length (fun t => .int .u16 (o i t : Nat)) ∧ Below w1.heap.size w1 w3) := ⟨rS, rO, b3⟩
            clear c4 q1 q2 rS rO b3 bw3 sO y1 y2 y3 y4 y5 y6 hb3 hMM he dM eMM pQ z1 z2
            refine region_still (by kernel_rfl) (by kernel_rfl) ?_
            repeat still_step
            still_call c5
            still_call (c6 _)
            still_call (c7 _)
            repeat still_step
            refine wpStill_nil ?_
            go_wp2
            clear c5 c6 c7 p1 p2
            go_loopw [17] (fun jv wq => ∃ j : Nat, j ≤ l.length ∧ jv = .int .i64 j ∧ wq.rowIs w1.heap.size 57 l.length (fun t => .int .u16 ((lag (fq wide) cf o i t ^^^ (if t < j then fm (fq wide) (cf i) (o i t) else 0) : Nat) : Int)) ∧ wq.rowIs gO 57 l.length (fun t => .int .u16 (o i t : Nat)) ∧ Below w1.heap.size w1 wq) (fun jv _ => l.length - (intOf jv).toNat)
            case atStart =>
              obtain ⟨x1, x2, x3⟩ := HR3.out
              exact ⟨0, Nat.zero_le _, rfl, World.rowIs.congr (World.rowIs.drew x1) (fun t _ => by rw [if_neg (by omega), Nat.xor_zero]), World.rowIs.drew x2, x3.drew⟩
            case round =>
              obtain ⟨j, hj, rfl, rS, rO, hbS⟩ := hrel
              by_cases hjl : j < l.length
              · have q1 := rS.cell (i := j) hjl
                rw [if_neg (by omega), Nat.xor_zero] at q1
                have f1 := rS.frozen j
                have q2 := rO.cell (i := j) hjl
                have jN : ((j : Nat) : Int) < (l.length : Int) := by omega
                have c8 := fun w => ptimes_nat wide (cf i) (o i j) w hcl (HT.out.2.2 j)
                obtain ⟨y, hy⟩ : ∃ y, y = fm (fq wide) (cf i) (o i j) := ⟨_, rfl⟩
                rw [← hy] at c8
                have ly : y < 65536 := by rw [hy]; exact Nat.lt_of_lt_of_le (F.fm_lt _ _) (dq_le wide)
                have lz : lag (fq wide) cf o i j < 65536 := Nat.lt_of_lt_of_le (F.el_lag _ _ _ _) (dq_le wide)
                have X := u16_xor_nat (lag (fq wide) cf o i j) y lz ly
                have ML2 := meas_lt hjl
                have Wj : Hid (wrap64 ((j : Int) + 1) = (j : Int) + 1) := wrap_succ (by omega)
                have HR4 : Hid (wr.rowIs w1.heap.size 57 l.length (fun t => .int .u16 ((lag (fq wide) cf o i t ^^^ (if t < j then fm (fq wide) (cf i) (o i t) else 0) : Nat) : Int)) ∧ wr.rowIs gO 57 l.length (fun t => .int .u16 (o i t : Nat)) ∧ Below w1.heap.size w1 wr) := ⟨rS, rO, hbS⟩
                have HY : Hid (y = fm (fq wide) (cf i) (o i j)) := hy
                clear rS rO hbS hy ly lz
                have W9 := Wj.out
                go_wp2
                refine region_tail 14 (by kernel_rfl) (by kernel_rfl) ?_
                simp only [List.take_succ_cons, List.take_zero, List.drop_succ_cons, List.drop_zero]
                repeat still_step
                still_call (c8 _)
                repeat still_step
                refine wpStill_nil ?_
                go_wp2
                go_roundw
                case rel =>
                  obtain ⟨x1, x2, x3⟩ := HR4.out
                  exact ⟨j + 1, hjl, by first | (rw [W9]; rfl) | rfl, World.rowIs.drew ((x1.set j _).congr (fun t _ => lag_put HY.out)), World.rowIs.drew (x2.setOther (a := ⟨w1.heap.size, j, none⟩) (Ne.symm neO) _), (x3.setCell (Nat.le_refl _) _).drew⟩
                case measure => first | (rw [W9]; exact ML2) | exact ML2
              · have hj6 : j = l.length := by omega
                subst hj6
                have HR4 : Hid (wr.rowIs w1.heap.size 57 l.length (fun t => .int .u16 (lag (fq wide) cf o (i + 1) t : Nat)) ∧ Below w1.heap.size w1 wr) := ⟨rS.congr (fun t ht => by rw [if_pos ht, lag_succ]), hbS⟩
                have W9 := Wi.out
                clear rS rO hbS
                go_wp2
                go_roundw
                case rel => exact ⟨i + 1, hil, by first | (rw [W9]; rfl) | rfl, HR4.out.1, HR4.out.2⟩
                case measure => first | (rw [W9]; exact ML) | exact ML
        · have hi7 : i = l.length := by omega
          subst hi7
          obtain ⟨x1, x2, x3⟩ := HB.out
          have hfr : Fr wr w.heap.size (.slice (some ⟨w1.heap.size, 0, none⟩) l.length l.length) (lf l.length (lag (fq wide) cf o l.length)) := fr_of_row HW1.out.2.2 (by omega) (fun j _ => Nat.lt_of_lt_of_le (F.el_lag _ _ _ j) (dq_le wide)) hr
          have dgl : Dg (lag (fq wide) cf o l.length) l.length := F.lag_dg _ (fun j hj => (x3 j hj).dg)
          have c9 := ptrim_any _ _ wr hfr.sl
          have hbF : Below w.heap.size w wr := HW1.out.2.1.trans (hbq.mono HW1.out.2.2)
          have HF : Hid (Below w.heap.size w wr ∧ co (lf l.length (lag (fq wide) cf o l.length)) = lag (fq wide) cf o l.length ∧ Thr (fq wide) (dq wide) l m (lag (fq wide) cf o l.length) ∧ Inj l) := ⟨hbF, co_lf dgl, ⟨F.el_lag _ _ _, dgl, fun j hj => F.lagrange hlx (fun j _ => eM j) x2 x3 (fun j _ => HCF.out j) hj⟩, x2⟩
          clear hr hbq hfr dgl h4 k4 hbF x1 x2 x3
          go_wp2_with (go_at_call 38; ((with_reducible refine (c9).mono ?_); (rintro e w2 ⟨v2, rfl, hf2, hb2⟩)))
          go_ret2
          obtain ⟨y1, y2, y3, y4⟩ := HF.out
          exact ⟨y1.trans (hb2.mono y1.size), fun hn => absurd y4 hn, fun _ => ⟨v2, _, rfl, ans_tri (hf2.mono y1.size) y2, y3⟩⟩
end Go.Proofs.Ytfhgamaakkoplaa
