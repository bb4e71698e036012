import Derived.Test.YtfhgamaakkoplaaMvao
import Derived.StillTailTactics
namespace Go.Proofs.Ytfhgamaakkoplaa
open Go.RowKit Gf2

namespace Gf2
end Gf2
open Gf2
theorem wrap_add {i j : Nat} (h : i + j ≤ 1000000) : wrap64 ((i : Int) + (j : Int)) = (i : Int) + (j : Int) := by unfold wrap64; omega
theorem wrap_succ {j : Nat} (h : j ≤ 1000000) : wrap64 ((j : Int) + 1) = (j : Int) + 1 := by unfold wrap64; omega
theorem kwrap_add {i j : Nat} (h : i + j ≤ 1000000) : IntKind.i64.wrap ((i : Int) + (j : Int)) = (i : Int) + (j : Int) := by rw [IntKind.wrap_i64]; omega
theorem el_list {wide : Bool} {l : List Nat} (h : ∀ x ∈ l, x < 2 ^ dq wide) : El (dq wide) (co l) := co_el h

theorem meas_lt {l k : Nat} (h : k < l) : l - (intOf (Value.int .i64 ((k : Int) + 1))).toNat < l - (intOf (Value.int .i64 (k : Int))).toNat := by
  simp [intOf]; omega
/-- a region that draws its order: all but its last operations only read. -/
theorem region_tail {P : Program} {id : Nat} {Q : Exit → Act → World → Prop} {a : Act} {w : World} {l : List Oper} (n : Nat) (hm : P.follows .mixedOrders = true) (hB : Region.lexTailB .any l.toArray n = true)
    (h : wpStill P l.toArray w.drew (fun a' => wpList P l.toArray Q (l.drop n) a' w.drew) (l.take n) a) : (Code.region id l.toArray true).wp P Q a w := wp_region_still_tail n hm hB h

end Go.Proofs.Ytfhgamaakkoplaa
namespace Go.Proofs.Ytfhgamaakkoplaa
open Go.RowKit Gf2

set_option maxHeartbeats 2000000 in
set_option maxRecDepth 100000 in
theorem peval_any (wide : Bool) (v : Value) (l : List Nat) (x : Nat) (w : World) (h : Sl w v l) (hl : ∀ y ∈ l, y < 2 ^ dq wide) (hx : x < 2 ^ dq wide) :
    Calls Try.prog 37 #[.bool wide, v, .int .u16 (x : Int)] w fun e w' => e = .returned (.int .u16 (pe (fq wide) x l.length (co l) : Nat)) ∧ w' = w := by
  obtain ⟨h1, h2, a, cap, rfl, h4⟩ := h
  have eL := el_list hl
  have F := fldq wide
  go_enter Try.func37, Try.ntmps37
  go_wp2
  go_loopw [7, 8, 9] (fun vv pv iv wr => ∃ i : Nat, i ≤ l.length ∧ vv = .int .u16 (pe (fq wide) x i (co l) : Nat) ∧ pv = .int .u16 (fp (fq wide) x i : Nat) ∧ iv = .int .i64 i ∧ wr = w) (fun _ _ iv _ => l.length - (intOf iv).toNat)
  case atStart => exact ⟨0, Nat.zero_le _, rfl, by rw [F.fp_zero]; rfl, rfl, rfl⟩
  case round =>
    obtain ⟨i, hi, rfl, rfl, rfl, hw⟩ := hrel
    have HQ : Hid (wr = w) := hw
    by_cases hil : i < l.length
    · obtain ⟨b, o, rfl, hb, hc⟩ := h4 (by omega)
      have q := hc i hil
      rw [← hw] at q
      have c1 := fun w => ptimes_nat wide (co l i) (fp (fq wide) x i) w (eL i) (F.fp_lt _ _)
      have c2 := fun w => ptimes_nat wide (fp (fq wide) x i) x w (F.fp_lt _ _) hx
      rw [← F.fp_succ hx i] at c2
      have l1 : pe (fq wide) x i (co l) < 65536 := Nat.lt_of_lt_of_le (F.pe_lt _ _ _) (dq_le wide)
      have l2 : fm (fq wide) (co l i) (fp (fq wide) x i) < 65536 := Nat.lt_of_lt_of_le (F.fm_lt _ _) (dq_le wide)
      have X := u16_xor_nat _ _ l1 l2
      have e1 : pe (fq wide) x (i + 1) (co l) = pe (fq wide) x i (co l) ^^^ fm (fq wide) (co l i) (fp (fq wide) x i) := rfl
      rw [← e1] at X
      have iN : ((i : Nat) : Int) < (l.length : Int) := by omega
      have Wi : wrap64 ((i : Int) + 1) = (i : Int) + 1 := by clear X l1 l2 q c1 c2; unfold wrap64; omega
      have ML := meas_lt hil
      clear hw l1 l2 e1 h2
      go_wp2_with (go_at_call 35; first | ((with_reducible refine (c1 _).mono ?_); (rintro e w9 ⟨rfl, hw9⟩; have hw9 := hw9.symm; subst hw9)) | ((with_reducible refine (c2 _).mono ?_); (rintro e w9 ⟨rfl, hw9⟩; have hw9 := hw9.symm; subst hw9)))
      go_roundw
      case rel => exact ⟨i + 1, hil, rfl, rfl, by rw [Wi]; rfl, HQ.out⟩
      case measure => rw [Wi]; exact ML
    · have hi6 : i = l.length := by omega
      subst hi6
      subst hw
      go_wp2
      go_ret
      exact ⟨rfl, rfl⟩

end Go.Proofs.Ytfhgamaakkoplaa
namespace Go.Proofs.Ytfhgamaakkoplaa
open Go.RowKit Gf2

/-- what stands between in a division: Q and M so far, M of a degree below K. -/
structure Dq (p d : Nat) (f g : Nat → Nat) (dd n0 K : Nat) (Q M : Nat → Nat) : Prop where
  eQ : El d Q
  eM : El d M
  dQ : Dg Q n0
  dM : Dg M n0
  dK : Dg M K
  qz : ∀ j, j + dd < K → Q j = 0
  eq : f = pa (pm p Q g) M
theorem Dq.start {p d : Nat} (h : Fld p d) {f g : Nat → Nat} {dd n0 : Nat} (ef : El d f) (df : Dg f n0) : Dq p d f g dd n0 n0 pz f :=
  ⟨El.pz d, ef, Dg.pz _, df, df, fun _ _ => rfl, by rw [h.pz_pm, pz_pa]⟩
theorem Dq.step {p d : Nat} (h : Fld p d) {f g Q M : Nat → Nat} {dd n0 k s c : Nat} (eg : El d g) (tg : Tp g dd) (hk : k = s + dd) (hkn : k < n0) (k0 : Dq p d f g dd n0 (k + 1) Q M) (hc : c = fm p (M k) (fi p (g dd))) :
    Dq p d f g dd n0 k (fun j => if j = s then c else Q j) (pa M (pm p (mo c s) g)) := by
  have hcl : c < 2 ^ d := by rw [hc]; exact h.fm_lt _ _
  have eQ' : (fun j => if j = s then c else Q j) = pa Q (mo c s) := by
    funext j
    unfold pa mo
    by_cases e : j = s
    · rw [if_pos e, if_pos e, e, k0.qz s (by omega), Nat.zero_xor]
    · rw [if_neg e, if_neg e, Nat.xor_zero]
  have dmo : Dg (pm p (mo c s) g) (s + dd + 1) := (h.dg_pm (mo_dg c s) tg.1).mono (by omega)
  refine ⟨?_, k0.eM.pa (h.el_pm _ _), ?_, ?_, ?_, ?_, ?_⟩
  · rw [eQ']; exact k0.eQ.pa (el_mo hcl s)
  · rw [eQ']; exact k0.dQ.pa ((mo_dg c s).mono (by omega))
  · exact k0.dM.pa (dmo.mono (by omega))
  · intro j hj
    rcases Nat.lt_or_ge k j with h1 | h1
    · show M j ^^^ _ = 0
      rw [k0.dK j (by omega), dmo j (by omega)]; rfl
    · have hjk : j = k := by omega
      subst hjk
      show M j ^^^ pm p (mo c s) g j = 0
      have top := h.top_pm (mo_dg c s) tg.1
      rw [← hk] at top
      rw [top]
      unfold mo
      rw [if_pos rfl, hc, h.div_mul (k0.eM j) (eg dd) tg.2, Nat.xor_self]
  · intro j hj
    show (if j = s then c else Q j) = 0
    rw [if_neg (by omega)]
    exact k0.qz j (by omega)
  · rw [eQ', h.pa_pm, k0.eq]
    funext i
    unfold pa
    have hx : ∀ A B C : Nat, A ^^^ B = A ^^^ C ^^^ (B ^^^ C) := by
      intro A B C
      rw [Nat.xor_comm B C, Nat.xor_assoc, ← Nat.xor_assoc C C B, Nat.xor_self, Nat.zero_xor]
    exact hx _ _ _
/-- the remainder's row, j coefficients of the divisor gone through. -/
def mrow (p : Nat) (M g : Nat → Nat) (c s j n : Nat) : Nat := M n ^^^ (if s ≤ n ∧ n < s + j then fm p c (g (n - s)) else 0)
theorem mrow_zero (p : Nat) (M g : Nat → Nat) (c s n : Nat) : mrow p M g c s 0 n = M n := by unfold mrow; rw [if_neg (by omega), Nat.xor_zero]
theorem mrow_at (p : Nat) (M g : Nat → Nat) (c s j : Nat) : mrow p M g c s j (s + j) = M (s + j) := by unfold mrow; rw [if_neg (by omega), Nat.xor_zero]
theorem mrow_step {p c s j n y : Nat} {M g : Nat → Nat} (hy : y = fm p c (g j)) :
    (if n = s + j then Value.int .u16 ((M (s + j) ^^^ y : Nat) : Int) else .int .u16 ((mrow p M g c s j n : Nat) : Int)) = .int .u16 ((mrow p M g c s (j + 1) n : Nat) : Int) := by
  unfold mrow
  by_cases e : n = s + j
  · subst e
    rw [if_pos rfl, if_pos ⟨Nat.le_add_right _ _, by omega⟩, Nat.add_sub_cancel_left, hy]
  · rw [if_neg e]
    by_cases e2 : s ≤ n ∧ n < s + j
    · rw [if_pos e2, if_pos ⟨e2.1, by omega⟩]
    · rw [if_neg e2, if_neg (fun h9 => e2 ⟨h9.1, by omega⟩)]
theorem mrow_end {p d : Nat} (h : Fld p d) {M g : Nat → Nat} {c s dd n : Nat} (tg : Dg g (dd + 1)) : mrow p M g c s (dd + 1) n = pa M (pm p (mo c s) g) n := by
  unfold mrow pa
  rw [h.mo_pm]
  unfold ps pc
  by_cases e : s ≤ n
  · by_cases e2 : n < s + (dd + 1)
    · rw [if_pos ⟨e, e2⟩, if_neg (by omega)]
    · rw [if_neg (fun h9 => e2 h9.2), if_neg (by omega), tg (n - s) (by omega), h.fm_zero]
  · rw [if_neg (fun h9 => e h9.1), if_pos (by omega)]
end Go.Proofs.Ytfhgamaakkoplaa
namespace Go.Proofs.Ytfhgamaakkoplaa
open Go.RowKit Gf2

theorem wrap_natP {s : Nat} (hs : s ≤ 1000000) : wrap64 (s : Int) = (s : Int) := by unfold wrap64; omega
theorem kwrap_natP {s : Nat} (hs : s ≤ 1000000) : IntKind.i64.wrap (s : Int) = (s : Int) := by rw [IntKind.wrap_i64]; omega
theorem wrap_pred {k : Nat} (hs : k ≤ 1000000) : wrap64 ((k : Int) - 1) = (k : Int) - 1 := by unfold wrap64; omega
theorem meas_down {K : Nat} : (intOf (Value.int .i64 ((K : Int) - 1)) + 1).toNat < (intOf (Value.int .i64 (K : Int)) + 1).toNat := by simp [intOf]

theorem mrow_exit {p d : Nat} (h : Fld p d) {M g : Nat → Nat} {c s dd j n : Nat} (tg : Dg g (dd + 1)) (hx : j = dd + 1 ∨ c = 0) : mrow p M g c s j n = pa M (pm p (mo c s) g) n := by
  rcases hx with rfl | rfl
  · exact mrow_end h tg
  · have e : mo 0 s = pz := funext fun i => by unfold mo pz; split <;> rfl
    rw [e, h.pz_pm, pa_pz]
    unfold mrow
    split
    · rw [h.zero_fm, Nat.xor_zero]
    · exact Nat.xor_zero _
theorem store_q {c s n : Nat} {Q : Nat → Nat} : (if n = s then Value.int .u16 (c : Int) else .int .u16 ((Q n : Nat) : Int)) = .int .u16 ((if n = s then c else Q n : Nat) : Int) := by
  split <;> rfl

set_option maxHeartbeats 8000000 in
set_option maxRecDepth 100000 in
theorem pdivide_any (wide : Bool) (v u : Value) (l m : List Nat) (w : World) (h : Sl w v l) (k : Sl w u m) (hl : ∀ x ∈ l, x < 2 ^ dq wide) (hm : ∀ x ∈ m, x < 2 ^ dq wide) (hlen : l.length ≤ 500000) (hlen2 : m.length ≤ 500000) (h0 : nzl m ≠ 0) :
    Calls Try.prog 34 #[.bool wide, v, u] w fun e w' => ∃ v' u' Q M, e = .returned (.tuple #[v', u']) ∧ AnsP w' w.heap.size v' Q ∧ AnsP w' w.heap.size u' M ∧ Below w.heap.size w w' ∧ Pol (dq wide) Q ∧ El (dq wide) M ∧ Dg M (nzl m - 1) ∧ co l = pa (pm (fq wide) Q (co m)) M := by
  obtain ⟨dd, hdd⟩ : ∃ dd, nzl m = dd + 1 := ⟨nzl m - 1, by omega⟩
  have tg : Tp (co m) dd := ⟨fun i hi => nzl_zero (by omega), by have := nzl_top h0; rw [hdd] at this; exact this⟩
  have eM := el_list hm
  have eL := el_list hl
  have F := fldq wide
  have c1 := pdegree_any u m w k
  rw [hdd, show (((dd + 1 : Nat) : Int) - 1) = (dd : Int) by omega] at c1
  have c2 := pinverse_nat wide (co m dd) w (eM dd) tg.2
  have c3 := ptrim_any v l w h
  have hnm := nzl_le m
  have hnl := nzl_le l
  obtain ⟨h1, h2, a, cap, rfl, h4⟩ := h
  obtain ⟨k1, k2, c, cap', rfl, k4⟩ := k
  obtain ⟨b, o, rfl, hb, hc⟩ := k4 (by omega)
  have q0 := hc dd (by omega)
  have d0 : ((dd : Nat) : Int) < (m.length : Int) := by omega
  obtain ⟨n0, hn0⟩ : ∃ n0, n0 = nzl l := ⟨_, rfl⟩
  have hmk := make_u16 n0 (by omega)
  have HL : Hid ((tri l).length = n0 ∧ co (tri l) = co l) := ⟨by rw [tri_len, hn0], tri_co l⟩
  have HS : Hid (Dg (co l) n0) := fun i hi => nzl_zero (by omega)
  have Hn : Hid (n0 ≤ 500000 ∧ dd + 1 ≤ m.length ∧ nzl m - 1 = dd) := ⟨by omega, by omega, by omega⟩
  have Wn : wrap64 ((n0 : Int) - 1) = (n0 : Int) - 1 := wrap_pred (by omega)
  clear hn0 hdd h0 hnm hnl
  go_enter Try.func34, Try.ntmps34
  go_wp2_with (first | (go_at_call 55; ((with_reducible refine (c1).mono ?_); (rintro e w9 ⟨rfl, hw9⟩; have hw9 := hw9.symm; subst hw9))) | (go_at_call 36; ((with_reducible refine (c2).mono ?_); (rintro e w9 ⟨rfl, hw9⟩; have hw9 := hw9.symm; subst hw9))) | (go_at_call 38; ((with_reducible refine (c3).mono ?_); (rintro e w1 ⟨v1, rfl, hf1, hb1⟩; obtain ⟨-, -, g1, hg1, hv1, hr1⟩ := hf1; rw [HL.out.1] at hv1 hr1; rw [HL.out.2] at hr1; subst hv1))))
  have HE : Hid (Below w.heap.size w w1 ∧ w1.heap.size ≠ g1 ∧ w.heap.size ≤ w1.heap.size) := ⟨hb1, by have := hr1.lt; omega, hb1.size⟩
  have cB : ∀ j, j < m.length → w1.cell? ⟨b, o + j, none⟩ = some (.int .u16 (co m j : Nat)) := fun j hj => (hb1.cell (p := ⟨b, o + j, none⟩) hb).trans (hc j hj)
  have HC : Hid (∀ j, j < m.length → w.cell? ⟨b, o + j, none⟩ = some (.int .u16 (co m j : Nat))) := hc
  have hr2 := hr1.alloc (.cells (madeCells #[.int .u16 0] n0) 57)
  have hbA : Below w.heap.size w (w1.alloc (.cells (madeCells #[.int .u16 0] n0) 57)) := hb1.alloc hb1.size _
  clear c1 c2 c3 hmk q0 d0 cB hc hb1 hr1 h4 k4 h2 k2
  go_loopw [12] (fun iv wr => ∃ (K : Nat) (Q M : Nat → Nat), K ≤ n0 ∧ iv = .int .i64 ((K : Int) - 1) ∧ Dq (fq wide) (dq wide) (co l) (co m) dd n0 K Q M ∧ wr.rowIs g1 57 n0 (fun n => .int .u16 (M n : Nat)) ∧ wr.rowIs w1.heap.size 57 n0 (fun n => .int .u16 (Q n : Nat)) ∧ wr.heap.size = w1.heap.size + 1 ∧ Below w.heap.size w wr) (fun iv _ => (intOf iv + 1).toNat)
  case atStart => exact ⟨n0, pz, co l, Nat.le_refl _, by rw [Wn], Dq.start F eL HS.out, hr2, World.rowIs_made w1 (.int .u16 0) n0 57, by simp, hbA⟩
  case round =>
    obtain ⟨K, Q, M, hK, rfl, hD, hrM, hrQ, hs, hbw⟩ := hrel
    clear hr2 hbA Wn
    by_cases hKd : dd < K
    · obtain ⟨k, rfl⟩ : ∃ k, K = k + 1 := ⟨K - 1, by omega⟩
      obtain ⟨s, hks⟩ : ∃ s, k = s + dd := ⟨k - dd, by omega⟩
      rw [show (((k + 1 : Nat) : Int) - 1) = (k : Int) by omega]
      obtain ⟨cc, hcc⟩ : ∃ cc, cc = fm (fq wide) (M k) (fi (fq wide) (co m dd)) := ⟨_, rfl⟩
      have hD' := hD.step F eM tg hks (by omega) hcc
      have c4 := fun w => ptimes_nat wide (M k) (fi (fq wide) (co m dd)) w (hD.eM k) (F.fi_lt (eM dd) tg.2)
      rw [← hcc] at c4
      have hcl : cc < 2 ^ dq wide := by rw [hcc]; exact F.fm_lt _ _
      have q1 := hrM.cell (i := k) (by omega)
      have q2 := hrQ.cell (i := s) (by omega)
      have f2 := hrQ.frozen s
      have hk5 : k ≤ 1000000 := Nat.le_trans (Nat.le_of_lt hK) (Nat.le_trans Hn.out.1 (by decide))
      have hs5 : s ≤ 1000000 := Nat.le_trans (by omega) hk5
      have HW : Hid (wrap64 (s : Int) = (s : Int) ∧ IntKind.i64.wrap (s : Int) = (s : Int) ∧ wrap64 ((k : Int) - 1) = (k : Int) - 1) := ⟨wrap_natP hs5, kwrap_natP hs5, wrap_pred hk5⟩
      have ea : ((k : Int) - (dd : Int)) = (s : Int) := by omega
      have kN : ((k : Nat) : Int) < (n0 : Int) := by omega
      have sN : ((s : Nat) : Int) < (n0 : Int) := by omega
      have kd : (dd : Int) ≤ (k : Int) := by omega
      have T1 : decide ((dd : Int) ≤ (k : Int)) = true := by simpa using kd
      have skn : Hid (s + dd < n0 ∧ k = s + dd ∧ k ≤ n0 ∧ k < n0) := ⟨by omega, hks, by omega, by omega⟩
      have HR : Hid (wr.rowIs g1 57 n0 (fun n => .int .u16 (M n : Nat)) ∧ wr.rowIs w1.heap.size 57 n0 (fun n => .int .u16 (Q n : Nat)) ∧ Below w.heap.size w wr ∧ El (dq wide) M ∧ wr.heap.size = w1.heap.size + 1) := ⟨hrM, hrQ, hbw, hD.eM, hs⟩
      have HD : Hid (Dq (fq wide) (dq wide) (co l) (co m) dd n0 k (fun j => if j = s then cc else Q j) (pa M (pm (fq wide) (mo cc s) (co m)))) := hD'
      have ne1 : w1.heap.size ≠ g1 := HE.out.2.1
      clear hrM hrQ hbw hD hD' hcc hKd hK hs hks hk5 hlen hlen2 hs5
      obtain ⟨Wa, Wc, Wd⟩ := HW.out
      go_wp2_with (go_at_call 35; ((with_reducible refine (c4 _).mono ?_); (rintro e w9 ⟨rfl, hw9⟩; have hw9 := hw9.symm; subst hw9)))
      clear c4 q1 q2 f2 Wa Wc Wd
      go_loopw [14] (fun jv wq => ∃ j : Nat, j ≤ dd + 1 ∧ jv = .int .i64 j ∧ wq.rowIs g1 57 n0 (fun n => .int .u16 (mrow (fq wide) M (co m) cc s j n : Nat)) ∧ wq.rowIs w1.heap.size 57 n0 (fun n => .int .u16 ((if n = s then cc else Q n : Nat) : Int)) ∧ wq.heap.size = w1.heap.size + 1 ∧ Below w.heap.size w wq) (fun jv _ => dd + 1 - (intOf jv).toNat)
      case atStart =>
        obtain ⟨r1, r2, r3, r4, r5⟩ := HR.out
        exact ⟨0, Nat.zero_le _, rfl, (r1.setOther (a := ⟨w1.heap.size, s, none⟩) (Ne.symm ne1) _).congr (fun n _ => by rw [mrow_zero]), (r2.set s _).congr (fun n _ => store_q), by simpa using r5, r3.setCell HE.out.2.2 _⟩
      case round =>
        obtain ⟨j, hj, rfl, hrM, hrQ, hs, hbw⟩ := hrel
        by_cases hgo : j ≤ dd ∧ cc ≠ 0
        · obtain ⟨n1, n2, n3, n4⟩ := skn.out
          have q1 := hrM.cell (i := s + j) (by omega)
          rw [mrow_at] at q1
          have f1 := hrM.frozen (s + j)
          have q3 := (hbw.cell (p := ⟨b, o + j, none⟩) hb).trans (HC.out j (by have := Hn.out.2.1; omega))
          have c5 := fun w => ptimes_nat wide cc (co m j) w hcl (eM j)
          obtain ⟨y, hy⟩ : ∃ y, y = fm (fq wide) cc (co m j) := ⟨_, rfl⟩
          rw [← hy] at c5
          have ly : y < 65536 := by rw [hy]; exact Nat.lt_of_lt_of_le (F.fm_lt _ _) (dq_le wide)
          have lx : M (s + j) < 65536 := Nat.lt_of_lt_of_le (HR.out.2.2.2.1 _) (dq_le wide)
          have HX : Hid (bits BinOp.xor IntKind.u16 ((M (s + j) : Nat) : Int) (y : Int) = ((M (s + j) ^^^ y : Nat) : Int)) := u16_xor_nat (M (s + j)) y lx ly
          have sj : s + j ≤ 1000000 := Nat.le_trans (by omega : s + j ≤ n0) (Nat.le_trans Hn.out.1 (by decide))
          have HW2 : Hid (wrap64 ((s : Int) + (j : Int)) = (s : Int) + (j : Int) ∧ IntKind.i64.wrap ((s : Int) + (j : Int)) = (s : Int) + (j : Int) ∧ ((s : Int) + (j : Int)).toNat = s + j ∧ (0 : Int) ≤ (s : Int) + (j : Int) ∧ wrap64 ((j : Int) + 1) = (j : Int) + 1) := ⟨wrap_add sj, kwrap_add sj, by rw [← Int.natCast_add]; rfl, Int.add_nonneg (Int.natCast_nonneg _) (Int.natCast_nonneg _), wrap_succ (Nat.le_trans (Nat.le_add_left j s) sj)⟩
          have sjN : ((s : Int) + (j : Int)) < (n0 : Int) := by omega
          have jN : ((j : Nat) : Int) < (m.length : Int) := by have := Hn.out.2.1; omega
          have jd : j ≤ dd := hgo.1
          have Tc : (((cc : Nat) : Int) != 0) = true := by simp; omega
          have Tc0 : (((cc : Nat) : Int) == 0) = false := by simp; omega
          have hj1 : j + 1 ≤ dd + 1 := by omega
          have ML := meas_lt (l := dd + 1) (k := j) (by omega)
          have HR2 : Hid (wr.rowIs g1 57 n0 (fun n => .int .u16 (mrow (fq wide) M (co m) cc s j n : Nat)) ∧ wr.rowIs w1.heap.size 57 n0 (fun n => .int .u16 ((if n = s then cc else Q n : Nat) : Int)) ∧ wr.heap.size = w1.heap.size + 1 ∧ Below w.heap.size w wr ∧ w.heap.size ≤ g1) := ⟨hrM, hrQ, hs, hbw, hg1⟩
          have HY : Hid (y = fm (fq wide) cc (co m j)) := hy
          clear hrM hrQ hs hbw hy lx ly sj n1 n2 n3 n4 hgo hj
          obtain ⟨Wa, Wc, Wd⟩ := HW.out
          obtain ⟨W1, W2, W3, W4, Wj⟩ := HW2.out
          have X := HX.out
          go_wp2
          refine region_tail 22 (by kernel_rfl) (by kernel_rfl) ?_
          simp only [List.take_succ_cons, List.take_zero, List.drop_succ_cons, List.drop_zero]
          repeat still_step
          still_call (c5 _)
          repeat still_step
          refine wpStill_nil ?_
          go_wp2
          go_roundw
          case rel =>
            obtain ⟨r1, r2, r3, r4, r5⟩ := HR2.out
            have HYo := HY.out
            clear W1 W2 W3 W4 X Wa Wc Wd c5
            exact ⟨j + 1, hj1, by rw [Wj]; rfl, World.rowIs.drew ((r1.set (s + j) _).congr (fun n _ => mrow_step HYo)), World.rowIs.drew (r2.setOther (a := ⟨g1, s + j, none⟩) ne1 _), by simpa using r3, (r4.setCell r5 _).drew⟩
          case measure => rw [Wj]; exact ML
        · have hx : j = dd + 1 ∨ cc = 0 := by
            by_cases e : cc = 0
            · exact .inr e
            · left
              have : ¬ j ≤ dd := fun h9 => hgo ⟨h9, e⟩
              omega
          have HR2 : Hid (wr.rowIs g1 57 n0 (fun n => .int .u16 (pa M (pm (fq wide) (mo cc s) (co m)) n : Nat)) ∧ wr.rowIs w1.heap.size 57 n0 (fun n => .int .u16 ((if n = s then cc else Q n : Nat) : Int)) ∧ wr.heap.size = w1.heap.size + 1 ∧ Below w.heap.size w wr) := ⟨hrM.congr (fun n _ => by rw [mrow_exit F tg.1 hx]), hrQ, hs, hbw⟩
          have MD := meas_down (K := k)
          clear hrM hrQ hs hbw hx
          by_cases hjd : j ≤ dd
          · have c0 : cc = 0 := Classical.byContradiction fun e => hgo ⟨hjd, e⟩
            have jd : j ≤ dd := hjd
            have Tc : (((cc : Nat) : Int) != 0) = false := by simp; omega
            have Tc0 : (((cc : Nat) : Int) == 0) = true := by simp; omega
            clear hgo hjd c0
            obtain ⟨Wa, Wc, Wd⟩ := HW.out
            go_wp2
            go_roundw
            case rel => exact ⟨k, _, _, skn.out.2.2.1, by rw [Wd], HD.out, HR2.out.1, HR2.out.2.1, HR2.out.2.2.1, HR2.out.2.2.2⟩
            case measure => rw [Wd]; exact MD
          · have jd : ¬ j ≤ dd := hjd
            have jd2 : decide (j ≤ dd) = false := by simpa using hjd
            clear hgo hjd
            obtain ⟨Wa, Wc, Wd⟩ := HW.out
            go_wp2
            go_roundw
            case rel => exact ⟨k, _, _, skn.out.2.2.1, by rw [Wd], HD.out, HR2.out.1, HR2.out.2.1, HR2.out.2.2.1, HR2.out.2.2.2⟩
            case measure => rw [Wd]; exact MD
    · have hlt : ((K : Int) - 1) < (dd : Int) := by omega
      have T1 : decide ((dd : Int) ≤ (K : Int) - 1) = false := by simp; omega
      have hn5 : n0 ≤ 70368744177664 := Nat.le_trans Hn.out.1 (by decide)
      have fQ : Fr wr w.heap.size (.slice (some ⟨w1.heap.size, 0, none⟩) n0 n0) (lf n0 Q) := fr_of_row HE.out.2.2 hn5 (fun j _ => Nat.lt_of_lt_of_le (hD.eQ j) (dq_le wide)) hrQ
      have fM : Fr wr w.heap.size (.slice (some ⟨g1, 0, none⟩) n0 n0) (lf n0 M) := fr_of_row hg1 hn5 (fun j _ => Nat.lt_of_lt_of_le (hD.eM j) (dq_le wide)) hrM
      have c6 := ptrim_any _ _ wr fQ.sl
      have HB : Hid (Below w.heap.size w wr ∧ w.heap.size ≤ wr.heap.size) := ⟨hbw, hbw.size⟩
      have HF : Hid (Fr wr w.heap.size (.slice (some ⟨g1, 0, none⟩) n0 n0) (lf n0 M)) := fM
      have HD : Hid (Pol (dq wide) Q ∧ El (dq wide) M ∧ Dg M (nzl m - 1) ∧ co l = pa (pm (fq wide) Q (co m)) M ∧ co (lf n0 Q) = Q ∧ co (lf n0 M) = M) := ⟨⟨hD.eQ, n0, hD.dQ⟩, hD.eM, by rw [Hn.out.2.2]; exact hD.dK.mono (by omega), hD.eq, co_lf hD.dQ, co_lf hD.dM⟩
      clear hrM hrQ hD hbw fQ fM hs hn5 hlen hlen2
      go_wp2_with (go_at_call 38; first | ((with_reducible refine (c7).mono ?_); (rintro e w3 ⟨v3, rfl, hf3, hb3⟩)) | ((with_reducible refine (c6).mono ?_); (rintro e w2 ⟨v2, rfl, hf2, hb2⟩; have c7 := ptrim_any _ _ w2 (HF.out.below hb2).sl)))
      go_ret2
      obtain ⟨d1, d2, d3, d4, d5, d6⟩ := HD.out
      have hs2 := hb2.size
      exact ⟨v2, v3, Q, M, rfl, ans_tri ((hf2.below hb3).mono HB.out.2) d5, ans_tri (hf3.mono (Nat.le_trans HB.out.2 hs2)) d6, (HB.out.1.trans (hb2.mono HB.out.2)).trans (hb3.mono (Nat.le_trans HB.out.2 hs2)), d1, d2, d3, d4⟩
end Go.Proofs.Ytfhgamaakkoplaa
namespace Go.Proofs.Ytfhgamaakkoplaa
open Go.RowKit Gf2

theorem mem_of_el {wide : Bool} {L : List Nat} (h : El (dq wide) (co L)) : ∀ x ∈ L, x < 2 ^ dq wide := by
  intro x hx
  obtain ⟨i, hi, rfl⟩ := List.getElem_of_mem hx
  have := h i
  unfold co at this
  rwa [Gf2.getD_in hi] at this
theorem neat_le {L : List Nat} {n : Nat} (h : Neat L) (hd : Dg (co L) n) : L.length ≤ n := by
  rcases h with h | h
  · omega
  · rcases Nat.lt_or_ge n L.length with h1 | h1
    · exact absurd (hd (L.length - 1) (by omega)) h
    · exact h1

set_option maxHeartbeats 1000000 in
set_option maxRecDepth 100000 in
theorem pdivmod_zero (wide : Bool) (v u : Value) (l m : List Nat) (w : World) (h : Sl w v l) (k : Sl w u m) (h1 : l.length ≤ 1024) (h2 : m.length ≤ 1024) (h0 : nzl m = 0) :
    Calls Try.prog 41 #[.bool wide, v, u] w fun e w' => e = .returned (.tuple #[.slice none 0 0, .slice none 0 0, .int .i64 40]) ∧ w' = w := by
  have c1 := pdegree_any u m w k
  rw [h0] at c1
  have c1 : Calls Try.prog 55 #[u] w fun e w' => e = .returned (.int .i64 (-1)) ∧ w' = w := c1
  obtain ⟨-, -, a, cap, rfl, -⟩ := h
  obtain ⟨-, -, c, cap', rfl, -⟩ := k
  have D1 : decide ((1024 : Int) < (l.length : Int)) = false := by simp; omega
  have D2 : decide ((1024 : Int) < (m.length : Int)) = false := by simp; omega
  go_enter Try.func41, Try.ntmps41
  go_wp2_with (go_at_call 55; ((with_reducible refine (c1).mono ?_); rintro e w' ⟨rfl, rfl⟩))
  go_ret3
  exact ⟨rfl, rfl⟩

set_option maxHeartbeats 1000000 in
set_option maxRecDepth 100000 in
theorem pdivmod_any (wide : Bool) (v u : Value) (l m : List Nat) (w : World) (h : Sl w v l) (k : Sl w u m) (hl : ∀ x ∈ l, x < 2 ^ dq wide) (hm : ∀ x ∈ m, x < 2 ^ dq wide) (h1 : l.length ≤ 1024) (h2 : m.length ≤ 1024) (h0 : nzl m ≠ 0) :
    Calls Try.prog 41 #[.bool wide, v, u] w fun e w' => ∃ v' u' Q M, e = .returned (.tuple #[v', u', .int .i64 0]) ∧ AnsP w' w.heap.size v' Q ∧ AnsP w' w.heap.size u' M ∧ Below w.heap.size w w' ∧ Pol (dq wide) Q ∧ El (dq wide) M ∧ Dg M (nzl m - 1) ∧ co l = pa (pm (fq wide) Q (co m)) M := by
  have c1 := pdegree_any u m w k
  have c2 := pdivide_any wide v u l m w h k hl hm (by omega) (by omega) h0
  obtain ⟨dd, hdd⟩ : ∃ dd, nzl m = dd + 1 := ⟨nzl m - 1, by omega⟩
  rw [hdd, show (((dd + 1 : Nat) : Int) - 1) = (dd : Int) by omega] at c1
  obtain ⟨-, -, a, cap, rfl, -⟩ := h
  obtain ⟨-, -, c, cap', rfl, -⟩ := k
  have D1 : decide ((1024 : Int) < (l.length : Int)) = false := by simp; omega
  have D2 : decide ((1024 : Int) < (m.length : Int)) = false := by simp; omega
  have Hd : Hid (nzl m = dd + 1) := hdd
  clear hdd h0
  go_enter Try.func41, Try.ntmps41
  go_wp2_with (first | (go_at_call 55; ((with_reducible refine (c1).mono ?_); (rintro e w9 ⟨rfl, hw9⟩; have hw9 := hw9.symm; subst hw9))) | (go_at_call 34; ((with_reducible refine (c2).mono ?_); (rintro e w1 ⟨v1, u1, Q, M, rfl, hQ, hM, hb, rest⟩))))
  go_ret3
  exact ⟨v1, u1, Q, M, rfl, hQ, hM, hb, rest⟩
end Go.Proofs.Ytfhgamaakkoplaa
namespace Go.Proofs.Ytfhgamaakkoplaa
open Go.RowKit Gf2

theorem pm_px {p d : Nat} (h : Fld p d) {f : Nat → Nat} (ef : El d f) {x : Nat} (n : Nat) : pm p f (px x) n = (if 1 ≤ n then f (n - 1) else 0) ^^^ fm p (f n) x := by
  have e : px x = pa (mo x 0) (mo 1 1) := by
    funext i
    unfold px pa mo
    by_cases h0 : i = 0
    · simp [h0]
    · by_cases h1 : i = 1
      · simp [h1]
      · simp [h0, h1]
  rw [e, h.pm_pa, h.pm_comm f (mo x 0), h.pm_comm f (mo 1 1), h.mo_pm, h.mo_pm]
  unfold pa ps pc
  rw [if_neg (by omega), Nat.sub_zero, fm_comm p x, Nat.xor_comm]
  congr 1
  by_cases h1 : 1 ≤ n
  · rw [if_neg (by omega), if_pos h1, h.one_fm (ef _)]
  · rw [if_pos (by omega), if_neg h1]
/-- the next row of the product, j of its steps done. -/
def vrow (p x : Nat) (P : Nat → Nat) (j n : Nat) : Nat := (if 1 ≤ n ∧ n ≤ j then P (n - 1) else 0) ^^^ (if n < j then fm p (P n) x else 0)
theorem vrow_zero (p x : Nat) (P : Nat → Nat) (n : Nat) : vrow p x P 0 n = 0 := by unfold vrow; rw [if_neg (by omega), if_neg (by omega)]; rfl
theorem vrow_next (p x : Nat) (P : Nat → Nat) (j : Nat) : vrow p x P j (j + 1) = 0 := by unfold vrow; rw [if_neg (by omega), if_neg (by omega)]; rfl
theorem vrow_step {p x j n y : Nat} {P : Nat → Nat} (hy : y = fm p (P j) x) :
    (if n = j then Value.int .u16 ((vrow p x P j j ^^^ y : Nat) : Int) else (if n = j + 1 then Value.int .u16 ((P j : Nat) : Int) else .int .u16 ((vrow p x P j n : Nat) : Int))) = .int .u16 ((vrow p x P (j + 1) n : Nat) : Int) := by
  subst hy
  by_cases e : n = j
  · subst e
    rw [if_pos rfl]
    congr 2
    unfold vrow
    rw [if_neg (by omega : ¬ n < n), Nat.xor_zero, if_pos (by omega : n < n + 1)]
    by_cases h1 : 1 ≤ n
    · rw [if_pos ⟨h1, Nat.le_refl _⟩, if_pos ⟨h1, by omega⟩]
    · rw [if_neg (fun h9 => h1 h9.1), if_neg (fun h9 => h1 h9.1)]
  · rw [if_neg e]
    by_cases e2 : n = j + 1
    · subst e2
      rw [if_pos rfl]
      congr 2
      unfold vrow
      rw [if_pos ⟨by omega, Nat.le_refl _⟩, if_neg (by omega), Nat.xor_zero, Nat.add_sub_cancel]
    · rw [if_neg e2]
      congr 2
      unfold vrow
      congr 1
      · by_cases h1 : 1 ≤ n ∧ n ≤ j
        · rw [if_pos h1, if_pos ⟨h1.1, by omega⟩]
        · rw [if_neg h1, if_neg (fun h9 => h1 ⟨h9.1, by omega⟩)]
      · by_cases h1 : n < j
        · rw [if_pos h1, if_pos (by omega)]
        · rw [if_neg h1, if_neg (by omega)]
theorem vrow_end {p d : Nat} (h : Fld p d) {pts : Nat → Nat} {i n : Nat} : vrow p (pts i) (pv p pts i) (i + 1) n = pv p pts (i + 1) n := by
  show _ = pm p (pv p pts i) (px (pts i)) n
  rw [pm_px h (h.el_pv pts i)]
  unfold vrow
  have dg := h.pv_dg pts i
  congr 1
  · by_cases h1 : 1 ≤ n
    · rw [if_pos h1]
      by_cases h2 : n ≤ i + 1
      · rw [if_pos ⟨h1, h2⟩]
      · rw [if_neg (fun h9 => h2 h9.2), dg (n - 1) (by omega)]
    · rw [if_neg (fun h9 => h1 h9.1), if_neg h1]
  · by_cases h1 : n < i + 1
    · rw [if_pos h1]
    · rw [if_neg h1, dg n (by omega), h.zero_fm]
theorem vrow_lt {p d : Nat} (h : Fld p d) {P : Nat → Nat} (eP : El d P) (x j n : Nat) : vrow p x P j n < 2 ^ d := by
  unfold vrow
  refine Nat.xor_lt_two_pow ?_ ?_
  · split
    · exact eP _
    · exact Nat.two_pow_pos d
  · split
    · exact h.fm_lt _ _
    · exact Nat.two_pow_pos d

theorem wrap_twoP {i : Nat} (h : i ≤ 1000000) : wrap64 ((i : Int) + 1 + 1) = (i : Int) + 1 + 1 := by unfold wrap64; omega

set_option maxHeartbeats 8000000 in
set_option maxRecDepth 100000 in
theorem pvanish_any (wide : Bool) (v : Value) (l : List Nat) (w : World) (h : Sl w v l) (hl : ∀ x ∈ l, x < 2 ^ dq wide) (hlen : l.length ≤ 1024) :
    Calls Try.prog 33 #[.bool wide, v] w fun e w' => ∃ v', e = .returned v' ∧ Fr w' w.heap.size v' (lf (l.length + 1) (pv (fq wide) (co l) l.length)) ∧ Below w.heap.size w w' := by
  have F := fldq wide
  have eL := el_list hl
  obtain ⟨h1, h2, a, cap, rfl, h4⟩ := h
  go_enter Try.func33, Try.ntmps33
  go_wp2
  go_loopw [5, 6] (fun pw iv wr => ∃ i g : Nat, i ≤ l.length ∧ iv = .int .i64 i ∧ pw = .slice (some ⟨g, 0, none⟩) (i + 1) (i + 1) ∧ w.heap.size ≤ g ∧ wr.rowIs g 57 (i + 1) (fun n => .int .u16 (pv (fq wide) (co l) i n : Nat)) ∧ Below w.heap.size w wr) (fun _ iv _ => l.length - (intOf iv).toNat)
  case atStart => exact ⟨0, w.heap.size, Nat.zero_le _, rfl, rfl, Nat.le_refl _, World.rowIs_alloc w #[.int .u16 1] 57 _ (fun i hi => by simp at hi; subst hi; rfl), (Below.refl _ _).alloc (Nat.le_refl _) _⟩
  case round =>
    obtain ⟨i, g, hi, rfl, rfl, hg, hr, hb⟩ := hrel
    by_cases hil : i < l.length
    · have hmk : ∀ w, (Instr.makeSlice 52 (.int .i64 ((i : Int) + 1 + 1)) (.int .i64 ((i : Int) + 1 + 1))).run Try.prog w = .ok (.slice (some ⟨w.heap.size, 0, none⟩) (i + 2) (i + 2)) (w.alloc (.cells (madeCells #[.int .u16 0] (i + 2)) 57)) := make_u16 (i + 2) (by omega)
      have iN : ((i : Nat) : Int) < (l.length : Int) := by omega
      obtain ⟨b, o, rfl, hbl, hc⟩ := h4 (by omega)
      have qx := hc i hil
      obtain ⟨G, hG⟩ : ∃ G, G = wr.heap.size := ⟨_, rfl⟩
      have ne1 : G ≠ g := by have := hr.lt; omega
      have ne2 : G ≠ b := by have := hb.size; omega
      have ne3 : g ≠ b := by omega
      have hwG : w.heap.size ≤ G := by rw [hG]; exact hb.size
      have HS : Hid ((wr.alloc (.cells (madeCells #[.int .u16 0] (i + 2)) 57)).rowIs G 57 (i + 2) (fun n => .int .u16 (vrow (fq wide) (co l i) (pv (fq wide) (co l) i) 0 n : Nat)) ∧ (wr.alloc (.cells (madeCells #[.int .u16 0] (i + 2)) 57)).rowIs g 57 (i + 1) (fun n => .int .u16 (pv (fq wide) (co l) i n : Nat)) ∧ Below w.heap.size w (wr.alloc (.cells (madeCells #[.int .u16 0] (i + 2)) 57))) :=
        ⟨by rw [hG]; exact (World.rowIs_made wr (.int .u16 0) (i + 2) 57).congr (fun n _ => by rw [vrow_zero]; rfl), hr.alloc _, hb.alloc hb.size _⟩
      have eP := F.el_pv (co l) i
      have exi := eL i
      have HC : Hid (w.cell? ⟨b, o + i, none⟩ = some (.int .u16 (co l i : Nat))) := qx
      have Wi : Hid (wrap64 ((i : Int) + 1) = (i : Int) + 1) := wrap_succ (by omega)
      have Hi : Hid (i ≤ 1024) := by show i ≤ 1024; omega
      have MLo := meas_lt hil
      obtain ⟨x, hx⟩ : ∃ x, x = co l i := ⟨_, rfl⟩
      obtain ⟨P, hP⟩ : ∃ P, P = pv (fq wide) (co l) i := ⟨_, rfl⟩
      rw [← hx] at HS HC exi
      rw [← hP] at HS eP
      have HE : Hid (∀ n, vrow (fq wide) x P (i + 1) n = pv (fq wide) (co l) (i + 1) n) := fun n => by rw [hx, hP]; exact vrow_end F
      have W12 := wrap_twoP (i := i) (by omega)
      clear hr hb hc qx hx hP hlen h2
      go_wp2
      rw [← hG]
      clear hmk W12 hG
      go_loopw [8] (fun jv wq => ∃ j : Nat, j ≤ i + 1 ∧ jv = .int .i64 j ∧ wq.rowIs G 57 (i + 2) (fun n => .int .u16 (vrow (fq wide) x P j n : Nat)) ∧ wq.rowIs g 57 (i + 1) (fun n => .int .u16 (P n : Nat)) ∧ Below w.heap.size w wq) (fun jv _ => i + 1 - (intOf jv).toNat)
      case atStart => exact ⟨0, Nat.zero_le _, rfl, HS.out.1, HS.out.2.1, HS.out.2.2⟩
      case round =>
        obtain ⟨j, hj, rfl, rG, rg, hbq⟩ := hrel
        by_cases hjl : j < i + 1
        · have q1 := rG.cell (i := j + 1) (by omega)
          rw [vrow_next] at q1
          have f1 := rG.frozen (j + 1)
          have q2 := rg.cell (i := j) hjl
          have q3 := rG.cell (i := j) (by omega)
          have f3 := rG.frozen j
          have q4 := (hbq.cell (p := ⟨b, o + i, none⟩) hbl).trans HC.out
          have c1 := fun w => ptimes_nat wide (P j) x w (eP j) exi
          obtain ⟨y, hy⟩ : ∃ y, y = fm (fq wide) (P j) x := ⟨_, rfl⟩
          obtain ⟨z, hz⟩ : ∃ z, z = vrow (fq wide) x P j j := ⟨_, rfl⟩
          rw [← hy] at c1
          rw [← hz] at q3
          have ly : y < 65536 := by rw [hy]; exact Nat.lt_of_lt_of_le (F.fm_lt _ _) (dq_le wide)
          have lz : z < 65536 := by rw [hz]; exact Nat.lt_of_lt_of_le (vrow_lt F eP _ _ _) (dq_le wide)
          have lp : P j < 65536 := Nat.lt_of_lt_of_le (eP j) (dq_le wide)
          have HX : Hid (bits BinOp.xor IntKind.u16 0 ((P j : Nat) : Int) = ((P j : Nat) : Int) ∧ bits BinOp.xor IntKind.u16 ((z : Nat) : Int) (y : Int) = ((z ^^^ y : Nat) : Int)) := ⟨by have h9 := u16_xor_nat 0 (P j) (by decide) lp; rw [Nat.zero_xor] at h9; exact h9, u16_xor_nat z y lz ly⟩
          have jN : ((j : Nat) : Int) < (i : Int) + 1 := by omega
          have jN0 : (0 : Int) ≤ ((j : Nat) : Int) + 1 := by omega
          have jN2 : ((j : Nat) : Int) + 1 < (i : Int) + 2 := by omega
          have jN3 : ((j : Nat) : Int) < (i : Int) + 2 := by omega
          have hj5 : j + 1 ≤ 1000000 := Nat.le_trans (Nat.succ_le_succ hj) (Nat.le_trans (Nat.succ_le_succ (Nat.succ_le_succ Hi.out)) (by decide))
          have HW : Hid (wrap64 ((j : Int) + 1) = (j : Int) + 1 ∧ IntKind.i64.wrap ((j : Int) + 1) = (j : Int) + 1) := ⟨wrap_succ (Nat.le_of_succ_le hj5), kwrap_add (i := j) (j := 1) hj5⟩
          have ML := meas_lt hjl
          have HR : Hid (wr.rowIs G 57 (i + 2) (fun n => .int .u16 (vrow (fq wide) x P j n : Nat)) ∧ wr.rowIs g 57 (i + 1) (fun n => .int .u16 (P n : Nat)) ∧ Below w.heap.size w wr) := ⟨rG, rg, hbq⟩
          have HY : Hid (y = fm (fq wide) (P j) x ∧ z = vrow (fq wide) x P j j) := ⟨hy, hz⟩
          clear rG rg hbq hy hz ly lz lp hj5 hj
          obtain ⟨W1, W2⟩ := HW.out
          obtain ⟨X1, X2⟩ := HX.out
          go_wp2
          refine region_tail 13 (by kernel_rfl) (by kernel_rfl) ?_
          simp only [List.take_succ_cons, List.take_zero, List.drop_succ_cons, List.drop_zero]
          repeat still_step
          refine wpStill_nil ?_
          go_wp2
          refine region_tail 17 (by kernel_rfl) (by kernel_rfl) ?_
          simp only [List.take_succ_cons, List.take_zero, List.drop_succ_cons, List.drop_zero]
          repeat still_step
          still_call (c1 _)
          repeat still_step
          refine wpStill_nil ?_
          go_wp2
          go_roundw
          case rel =>
            obtain ⟨r1, r2, r3⟩ := HR.out
            obtain ⟨y1, z1⟩ := HY.out
            clear W1 W2 X1 X2 c1
            refine ⟨j + 1, hjl, rfl, World.rowIs.drew (World.rowIs.drew (((r1.set (j + 1) _).set j _).congr (fun n _ => ?_))), World.rowIs.drew (World.rowIs.drew ((r2.setOther (a := ⟨G, j + 1, none⟩) (Ne.symm ne1) _).setOther (a := ⟨G, j, none⟩) (Ne.symm ne1) _)), (((r3.setCell hwG _).setCell hwG _).drew).drew⟩
            rw [z1]
            exact vrow_step y1
          case measure => exact ML
        · have hj6 : j = i + 1 := by omega
          subst hj6
          have HR : Hid (wr.rowIs G 57 (i + 2) (fun n => .int .u16 (pv (fq wide) (co l) (i + 1) n : Nat)) ∧ Below w.heap.size w wr) := ⟨rG.congr (fun n _ => by rw [HE.out n]), hbq⟩
          have W9 := Wi.out
          clear rG rg hbq
          go_wp2
          go_roundw
          case rel => exact ⟨i + 1, G, hil, by first | rfl | (rw [W9]; rfl), rfl, hwG, HR.out.1, HR.out.2⟩
          case measure => first | exact MLo | (rw [W9]; exact MLo)
    · have hi6 : i = l.length := by omega
      subst hi6
      have HF : Hid (Fr wr w.heap.size (.slice (some ⟨g, 0, none⟩) (l.length + 1) (l.length + 1)) (lf (l.length + 1) (pv (fq wide) (co l) l.length)) ∧ Below w.heap.size w wr) := ⟨fr_of_row hg (by omega) (fun j _ => Nat.lt_of_lt_of_le (F.el_pv _ _ j) (dq_le wide)) hr, hb⟩
      clear hr hb h4
      go_wp2
      go_ret
      exact ⟨_, rfl, HF.out.1, HF.out.2⟩
end Go.Proofs.Ytfhgamaakkoplaa
namespace Go.Proofs.Ytfhgamaakkoplaa
open Go.RowKit Gf2
set_option maxRecDepth 1000000 in
theorem zero_seen (w : World) : (zeroValue 75).run Try.prog w = .ok (.agg (Array.replicate 65536 (Value.bool false))) w := by kernel_rfl
end Go.Proofs.Ytfhgamaakkoplaa
