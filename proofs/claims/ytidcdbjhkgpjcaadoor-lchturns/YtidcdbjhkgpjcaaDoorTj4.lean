import Derived.Test.YtidcdbjhkgpjcaaDoorDgfm
import Derived.Test.YtidcdbjhkgpjcaaDoorTj3
import Derived.Test.YtidcdbjhkgpjcaaDoorDhfr
import Derived.Below
import Derived.Deep.OwnRows
import Derived.Laws.CopyOwn
import Derived.Deep.WholeRow
import Derived.StillTailTactics
namespace Go.Proofs.YtidcdbjhkgpjcaaDoor
open Go.RowKit Gf2

def gi4 (a : Nat) : Nat := if a = 0 then 0 else fi 285 a
def ge4 (a : Nat) : Nat := if a = 0 then 20 else 0
theorem inv_round4 {a : Nat} (i : Nat) : fm 285 (fp 285 a (2 ^ (i + 1) - 2)) (fp 285 a (2 ^ (i + 1))) = fp 285 a (2 ^ (i + 2) - 2) ∧ fm 285 (fp 285 a (2 ^ (i + 1))) (fp 285 a (2 ^ (i + 1))) = fp 285 a (2 ^ (i + 2)) := by
  have h : 2 ≤ 2 ^ (i + 1) := by
    have : 2 ^ 1 ≤ 2 ^ (i + 1) := Nat.pow_le_pow_right (by decide) (by omega)
    omega
  have h2 : 2 ^ (i + 2) = 2 ^ (i + 1) + 2 ^ (i + 1) := by rw [Nat.pow_succ 2 (i + 1)]; omega
  rw [← fld8.fp_add, ← fld8.fp_add, h2]
  exact ⟨by congr 1; omega, rfl⟩

end Go.Proofs.YtidcdbjhkgpjcaaDoor
namespace Go.Proofs.YtidcdbjhkgpjcaaDoor
open Go.RowKit Gf2

/-- the modulus and the degree of the field. -/
def fq (wide : Bool) : Nat := if wide then 65581 else 285
def dq (wide : Bool) : Nat := if wide then 16 else 8
theorem fldq : ∀ wide, Fld (fq wide) (dq wide)
  | true => fld16
  | false => fld8
theorem dq_le (wide : Bool) : 2 ^ dq wide ≤ 65536 := by cases wide <;> decide

/-- a list of words behind a slice value. -/
def Sl (w : World) (v : Value) (l : List Nat) : Prop := (∀ x ∈ l, x < 65536) ∧ l.length ≤ 70368744177664 ∧
  ∃ a cap, v = .slice a l.length cap ∧ (0 < l.length → ∃ b o, a = some ⟨b, o, none⟩ ∧ b < w.heap.size ∧ ∀ i, i < l.length → w.cell? ⟨b, o + i, none⟩ = some (.int .u16 (co l i : Nat)))
/-- the same, in a row of its own. -/
def Fr (w : World) (B : Nat) (v : Value) (l : List Nat) : Prop := (∀ x ∈ l, x < 65536) ∧ l.length ≤ 70368744177664 ∧
  ∃ g, B ≤ g ∧ v = .slice (some ⟨g, 0, none⟩) l.length l.length ∧ w.rowIs g 26 l.length (fun i => .int .u16 (co l i : Nat))
theorem Fr.sl {w : World} {B : Nat} {v : Value} {l : List Nat} (h : Fr w B v l) : Sl w v l := by
  obtain ⟨h1, h2, g, hg, rfl, hr⟩ := h
  exact ⟨h1, h2, _, _, rfl, fun _ => ⟨g, 0, rfl, hr.lt, fun i hi => by rw [Nat.zero_add]; exact hr.cell hi⟩⟩
theorem Sl.below {w w' : World} {v : Value} {l : List Nat} (h : Sl w v l) (hb : Below w.heap.size w w') : Sl w' v l := by
  obtain ⟨h1, h2, a, cap, h3, h4⟩ := h
  refine ⟨h1, h2, a, cap, h3, fun h0 => ?_⟩
  obtain ⟨b, o, e, hl, hc⟩ := h4 h0
  exact ⟨b, o, e, Nat.lt_of_lt_of_le hl hb.size, fun i hi => (hb.cell (p := ⟨b, o + i, none⟩) hl).trans (hc i hi)⟩
theorem Fr.below {w w' : World} {B : Nat} {v : Value} {l : List Nat} (h : Fr w B v l) (hb : Below w.heap.size w w') : Fr w' B v l := by
  obtain ⟨h1, h2, g, hg, rfl, hr⟩ := h
  exact ⟨h1, h2, g, hg, rfl, hr.of_block (hb.block _ hr.lt)⟩
theorem Fr.mono {w : World} {B B' : Nat} {v : Value} {l : List Nat} (h : Fr w B v l) (hb : B' ≤ B) : Fr w B' v l := by
  obtain ⟨h1, h2, g, hg, rfl, hr⟩ := h
  exact ⟨h1, h2, g, by omega, rfl, hr⟩
theorem co_lt {l : List Nat} (h : ∀ x ∈ l, x < 65536) (i : Nat) : co l i < 65536 := co_el (d := 16) h i
/-- the list of F 0, .., F (n - 1). -/
def lf (n : Nat) (F : Nat → Nat) : List Nat := (List.range n).map F
theorem lf_len (n : Nat) (F : Nat → Nat) : (lf n F).length = n := by simp [lf]
theorem lf_co {n : Nat} {F : Nat → Nat} {i : Nat} (h : i < n) : co (lf n F) i = F i := by unfold co lf; simp [List.getD_eq_getElem?_getD, h]
theorem lf_out {n : Nat} {F : Nat → Nat} {i : Nat} (h : n ≤ i) : co (lf n F) i = 0 := co_dg _ i (by rw [lf_len]; exact h)
theorem lf_mem {n : Nat} {F : Nat → Nat} {P : Nat → Prop} (h : ∀ i, i < n → P (F i)) : ∀ x ∈ lf n F, P x := by
  intro x hx
  obtain ⟨i, hi, rfl⟩ := List.mem_map.1 hx
  exact h i (List.mem_range.1 hi)
theorem fr_of_row {w : World} {B g n : Nat} {F : Nat → Nat} (hg : B ≤ g) (hn : n ≤ 70368744177664) (hF : ∀ i, i < n → F i < 65536) (h : w.rowIs g 26 n (fun i => .int .u16 (F i : Nat))) : Fr w B (.slice (some ⟨g, 0, none⟩) n n) (lf n F) := by
  refine ⟨lf_mem hF, by rw [lf_len]; exact hn, g, hg, by rw [lf_len], ?_⟩
  rw [lf_len]
  exact h.congr (fun i hi => by rw [lf_co hi])
theorem tri_mem {l : List Nat} {P : Nat → Prop} (h : ∀ x ∈ l, P x) : ∀ x ∈ tri l, P x := fun x hx => h x (List.mem_of_mem_take hx)

theorem info_u16m : (Tryd.prog.info? 26).map (fun i => (i.zero, i.size, i.bytes)) = some (some (Value.int .u16 0), 1, 2) := by kernel_rfl
theorem info_u16s : (Tryd.prog.info? 26).map (·.size) = some 1 := by kernel_rfl
theorem make_u16 (n : Nat) (hn : n ≤ 140737488355328) (w : World) : (Instr.makeSlice 27 (.int .i64 (n : Int)) (.int .i64 (n : Int))).run Tryd.prog w = .ok (.slice (some ⟨w.heap.size, 0, none⟩) n n) (w.alloc (.cells (madeCells #[.int .u16 0] n) 26)) :=
  run_make_row' (P := Tryd.prog) 27 26 (.int .u16 0) 2 Tryd.underlying27 info_u16m rfl .i64 .i64 n (by omega) (by omega) w
theorem made_rep (z : Value) (n : Nat) : madeCells #[z] n = (List.replicate n z).toArray := by
  apply Array.ext_getElem?
  intro i
  by_cases h : i < n
  · have hr := (World.rowIs_made default z n 0)
    obtain ⟨c, hb, hs, hc⟩ := hr
    have hb2 := heap_alloc_new (default : World) (.cells (madeCells #[z] n) 0)
    have e : c = madeCells #[z] n := by
      have := hb.symm.trans hb2
      simp only [Option.some.injEq, Obj.cells.injEq] at this
      exact this.1
    rw [← e, hc i h]
    simp [h]
  · rw [Array.getElem?_eq_none (by rw [size_madeCells]; omega), Array.getElem?_eq_none (by simp; omega)]

set_option maxHeartbeats 1000000 in
set_option maxRecDepth 10000 in
theorem ptimes_nat (wide : Bool) (a b : Nat) (w : World) (ha : a < 2 ^ dq wide) (hb : b < 2 ^ dq wide) :
    Calls Tryd.prog 65 #[.bool wide, .int .u16 (a : Int), .int .u16 (b : Int)] w fun e w' => e = .returned (.int .u16 (fm (fq wide) a b : Nat)) ∧ w' = w := by
  by_cases h0 : a = 0
  · subst h0
    rw [(fldq wide).zero_fm]
    go_enter Tryd.func65, Tryd.ntmps65
    go_wp2
    go_ret
    exact ⟨rfl, rfl⟩
  · by_cases h1 : b = 0
    · subst h1
      rw [(fldq wide).fm_zero]
      have T0 : ((a : Int) == 0) = false := by simp; omega
      clear h0
      go_enter Tryd.func65, Tryd.ntmps65
      go_wp2
      go_ret
      exact ⟨rfl, rfl⟩
    · have T0 : ((a : Int) == 0) = false := by simp; omega
      have T1 : ((b : Int) == 0) = false := by simp; omega
      clear h0 h1
      cases wide
      · have c1 := refMul_nat a b w ha hb
        have l1 : fm 285 a b < 256 := fld8.fm_lt a b
        have ha : a < 256 := ha
        have hb : b < 256 := hb
        have e : fq false = 285 := rfl
        rw [e]
        go_enter Tryd.func65, Tryd.ntmps65
        go_wp2_with (go_at_call 67; ((with_reducible refine (c1).mono ?_); rintro e w' ⟨rfl, rfl⟩))
        go_ret
        exact ⟨rfl, rfl⟩
      · have c1 := refMulH_nat a b w ha hb
        have e : fq true = 65581 := rfl
        rw [e]
        go_enter Tryd.func65, Tryd.ntmps65
        go_wp2_with (go_at_call 33; ((with_reducible refine (c1).mono ?_); rintro e w' ⟨rfl, rfl⟩))
        go_ret
        exact ⟨rfl, rfl⟩
end Go.Proofs.YtidcdbjhkgpjcaaDoor
namespace Go.Proofs.YtidcdbjhkgpjcaaDoor
open Go.RowKit Gf2

/-- numbers as values. -/
def vW (n : Nat) : Value := .int .u16 (n : Int)
theorem splice_all {α : Type} (L cs : List α) (h : cs.length = L.length) : splice L 0 cs = cs := by
  unfold splice
  rw [List.take_zero, List.nil_append, Nat.zero_add, h, List.drop_length, List.append_nil]
theorem rowIs_list {w : World} {g n : Nat} {F : Nat → Nat} (h : w.heap[g]? = some (.cells ((lf n F).map vW).toArray 26 (0, 0))) : w.rowIs g 26 n (fun i => .int .u16 (F i : Nat)) := by
  refine ⟨_, h, by simp [lf], fun i hi => ?_⟩
  simp [lf, vW, hi]

theorem tri_lf {l : List Nat} {n : Nat} (h : nzl l = n) : tri l = lf n (co l) := by
  have hle := nzl_le l
  apply List.ext_getElem?
  intro i
  by_cases hi : i < n
  · rw [co_get (by rw [tri_len]; omega), co_get (by rw [lf_len]; exact hi), tri_co, lf_co hi]
  · rw [List.getElem?_eq_none (by rw [tri_len]; omega), List.getElem?_eq_none (by rw [lf_len]; omega)]

/-- copy of a list into a new row. -/
theorem copy_run (w : World) {a : Option Addr} {l : List Nat} {cap n : Nat} (h4 : 0 < l.length → ∃ b o, a = some ⟨b, o, none⟩ ∧ b < w.heap.size ∧ ∀ i, i < l.length → w.cell? ⟨b, o + i, none⟩ = some (.int .u16 (co l i : Nat))) :
    (Builtin.copy_ #[27, 27] 3 #[.slice (some ⟨w.heap.size, 0, none⟩) n n, .slice a l.length cap]).run Tryd.prog (w.alloc (.cells (madeCells #[.int .u16 0] n) 26)) =
      .ok (goInt (Nat.min l.length n)) (w.alloc (.cells ((lf n (co l)).map vW).toArray 26)) := by
  obtain ⟨m, hm⟩ : ∃ m, m = Nat.min l.length n := ⟨_, rfl⟩
  have hml : m ≤ l.length := by rw [hm]; exact Nat.min_le_left _ _
  have hmn : m ≤ n := by rw [hm]; exact Nat.min_le_right _ _
  have hbig : ∀ i, m ≤ i → i < n → co l i = 0 := fun i h1 h2 => co_dg l i (by
    rcases Nat.le_total l.length n with h | h
    · have : m = l.length := by rw [hm]; exact Nat.min_eq_left h
      omega
    · have : m = n := by rw [hm]; exact Nat.min_eq_right h
      omega)
  rw [← hm]
  by_cases h0 : m = 0
  · rw [run_copy_none (P := Tryd.prog) _ 27 27 3 26 _ a n n l.length cap Tryd.underlying27 info_u16s (by rw [← hm]; exact h0), h0]
    have e : madeCells #[.int .u16 0] n = ((lf n (co l)).map vW).toArray := by
      rw [made_rep]
      congr 1
      apply List.ext_getElem?
      intro i
      by_cases hi : i < n
      · rw [List.getElem?_replicate, if_pos hi, List.getElem?_map, co_get (by rw [lf_len]; exact hi), lf_co hi, hbig i (by omega) hi]; rfl
      · rw [List.getElem?_eq_none (by rw [List.length_replicate]; omega), List.getElem?_eq_none (by rw [List.length_map, lf_len]; omega)]
    rw [e]; rfl
  · obtain ⟨b, o, rfl, hb, hc⟩ := h4 (by omega)
    have hlen : ((lf m (co l)).map vW).length = m := by rw [List.length_map, lf_len]
    have hr := run_copy_row (P := Tryd.prog) (w.alloc (.cells (madeCells #[.int .u16 0] n) 26)) 27 27 3 26 w.heap.size 0 n n ⟨b, o, none⟩ l.length cap _ 26 ((lf m (co l)).map vW) Tryd.underlying27 info_u16s (heap_alloc_new _ _) (by rw [hlen]; exact hm)
      (fun j u hu => by
        rw [List.getElem?_map] at hu
        obtain ⟨x, hx, rfl⟩ := Option.map_eq_some_iff.1 hu
        have hj : j < m := by
          rcases Nat.lt_or_ge j m with h9 | h9
          · exact h9
          · rw [List.getElem?_eq_none (by rw [lf_len]; exact h9)] at hx; cases hx
        have ex : x = co l j := by
          have := co_get (l := lf m (co l)) (i := j) (by rw [lf_len]; exact hj)
          rw [hx, lf_co hj] at this
          exact Option.some.inj this
        have ea : (⟨b, o, none⟩ : Addr).add j = ⟨b, o + j, none⟩ := by unfold Addr.add; split <;> simp_all
        have eb : (w.alloc (.cells (madeCells #[.int .u16 0] n) 26)).cell? ⟨b, o + j, none⟩ = w.cell? ⟨b, o + j, none⟩ := ((Below.refl w.heap.size w).alloc (Nat.le_refl _) _).cell hb
        rw [ea, eb, ex]
        exact hc j (by omega)) (by rw [size_madeCells, hlen]; omega) (fun u hu => by
        obtain ⟨x, _, rfl⟩ := List.mem_map.1 hu
        rfl)
    rw [hlen] at hr
    rw [hr, World.setRow_alloc_new]
    have fin : ((madeCells #[Value.int .u16 0] n).toList.take 0 ++ (lf m (co l)).map vW ++ (madeCells #[Value.int .u16 0] n).toList.drop (0 + m)) = (lf n (co l)).map vW := ?_
    · rw [fin]
    rw [made_rep, List.take_zero, List.nil_append, Nat.zero_add]
    apply List.ext_getElem?
    intro i
    by_cases hi : i < m
    · rw [List.getElem?_append_left (by rw [hlen]; exact hi), List.getElem?_map, List.getElem?_map, co_get (l := lf m (co l)) (by rw [lf_len]; exact hi), co_get (l := lf n (co l)) (by rw [lf_len]; omega), lf_co hi, lf_co (by omega)]
    · rw [List.getElem?_append_right (by rw [hlen]; omega), hlen]
      by_cases hin : i < n
      · rw [List.getElem?_map, co_get (by rw [lf_len]; exact hin), lf_co hin, hbig i (by omega) hin]
        rw [List.getElem?_drop, List.getElem?_replicate, if_pos (by omega)]; rfl
      · rw [List.getElem?_eq_none (by simp; omega), List.getElem?_eq_none (by rw [List.length_map, lf_len]; omega)]
theorem fr_lf {w : World} {n : Nat} {F : Nat → Nat} (hn : n ≤ 70368744177664) (hF : ∀ i, i < n → F i < 65536) : Fr (w.alloc (.cells ((lf n F).map vW).toArray 26)) w.heap.size (.slice (some ⟨w.heap.size, 0, none⟩) n n) (lf n F) :=
  fr_of_row (Nat.le_refl _) hn hF (rowIs_list (heap_alloc_new _ _))

set_option maxHeartbeats 2000000 in
set_option maxRecDepth 100000 in
theorem ptrim_any (v : Value) (l : List Nat) (w : World) (h : Sl w v l) :
    Calls Tryd.prog 66 #[v] w fun e w' => ∃ v', e = .returned v' ∧ Fr w' w.heap.size v' (tri l) ∧ Below w.heap.size w w' := by
  obtain ⟨h1, h2, a, cap, rfl, h4⟩ := h
  have hnz := nzl_le l
  go_enter Tryd.func66, Tryd.ntmps66
  go_wp2
  go_loopw [3] (fun nv wr => ∃ n : Nat, nzl l ≤ n ∧ n ≤ l.length ∧ nv = .int .i64 n ∧ wr = w) (fun nv _ => (intOf nv).toNat)
  case atStart => exact ⟨l.length, hnz, Nat.le_refl _, rfl, rfl⟩
  case round =>
    obtain ⟨n, hn1, hn2, rfl, hw⟩ := hrel
    by_cases hgo : 0 < n ∧ co l (n - 1) = 0
    · obtain ⟨b, o, rfl, hb, hc⟩ := h4 (by omega)
      obtain ⟨k, rfl⟩ : ∃ k, n = k + 1 := ⟨n - 1, by omega⟩
      have hz := hgo.2
      rw [Nat.add_sub_cancel] at hz
      have q := hc k (by omega)
      rw [← hw] at q
      have kb : ((k : Nat) : Int) < (l.length : Int) := by omega
      have hk1 : (((k + 1 : Nat) : Int) - 1) = (k : Int) := by omega
      have T0 : (((co l k : Nat) : Int) == 0) = true := by simp; omega
      have HQ : Hid (wr = w) := hw
      clear hw
      go_wp2
      go_roundw
      case rel =>
        refine ⟨k, ?_, by omega, by go_num, HQ.out⟩
        rcases Nat.lt_or_ge k (nzl l) with h9 | h9
        · have : nzl l = k + 1 := by omega
          have h8 := nzl_top (l := l) (by omega)
          rw [this] at h8
          exact absurd hz h8
        · exact h9
      case measure => simp [intOf]
    · have hN : nzl l = n := nzl_only (fun i hi => nzl_zero (by omega)) (by
        rcases Nat.eq_zero_or_pos n with h0 | h0
        · exact .inl h0
        · exact .inr (fun e => hgo ⟨h0, e⟩))
      have hmk := make_u16 n (by omega)
      subst hw
      have hcp := copy_run wr (cap := cap) (n := n) h4
      rcases Nat.eq_zero_or_pos n with h0 | h0
      · subst h0
        have hmk : ∀ w, (Instr.makeSlice 27 (.int .i64 0) (.int .i64 0)).run Tryd.prog w = .ok (.slice (some ⟨w.heap.size, 0, none⟩) 0 0) (w.alloc (.cells (madeCells #[.int .u16 0] 0) 26)) := make_u16 0 (by decide)
        clear hgo
        go_wp2
        go_ret
        refine ⟨_, rfl, ?_, (Below.refl _ _).alloc (Nat.le_refl _) _⟩
        rw [tri_lf hN]
        exact fr_lf (by omega) (fun i _ => co_lt h1 i)
      · obtain ⟨b, o, rfl, hb, hc⟩ := h4 (by omega)
        have q := hc (n - 1) (by omega)
        obtain ⟨k, hk⟩ : ∃ k, k = n - 1 := ⟨_, rfl⟩
        rw [← hk] at q
        have hz : co l k ≠ 0 := fun e => hgo ⟨h0, by rw [← hk]; exact e⟩
        have kb : ((k : Nat) : Int) < (l.length : Int) := by omega
        have hk1 : ((n : Int) - 1) = (k : Int) := by omega
        have T0 : (((co l k : Nat) : Int) == 0) = false := by simp; omega
        have D0 : decide ((0 : Int) < (n : Int)) = true := by simp; omega
        clear hk hgo hz h0
        go_wp2
        go_ret
        refine ⟨_, rfl, ?_, (Below.refl _ _).alloc (Nat.le_refl _) _⟩
        rw [tri_lf hN]
        exact fr_lf (by omega) (fun i _ => co_lt h1 i)
end Go.Proofs.YtidcdbjhkgpjcaaDoor
namespace Go.Proofs.YtidcdbjhkgpjcaaDoor
open Go.RowKit Gf2

/-- an answer: a neat list of its own, of the coefficients f. -/
def Ans (w' : World) (B : Nat) (v : Value) (f : Nat → Nat) : Prop := ∃ L, Fr w' B v L ∧ Neat L ∧ co L = f
theorem ans_tri {w' : World} {B : Nat} {v : Value} {l : List Nat} {f : Nat → Nat} (h : Fr w' B v (tri l)) (e : co l = f) : Ans w' B v f := ⟨tri l, h, tri_neat l, by rw [tri_co, e]⟩
theorem co_lf {n : Nat} {F : Nat → Nat} (h : Dg F n) : co (lf n F) = F := by
  funext i
  by_cases hi : i < n
  · rw [lf_co hi]
  · rw [lf_out (by omega), h i (by omega)]

end Go.Proofs.YtidcdbjhkgpjcaaDoor
namespace Go.Proofs.YtidcdbjhkgpjcaaDoor
open Go.RowKit Gf2

namespace Gf2
/-- the product, as far as the first i coefficients of f go. -/
def pacc (p : Nat) (f g : Nat → Nat) (i n : Nat) : Nat := sx i (fun a => fm p (f a) (if a ≤ n then g (n - a) else 0))
theorem pacc_succ (p : Nat) (f g : Nat → Nat) (i n : Nat) : pacc p f g (i + 1) n = pacc p f g i n ^^^ fm p (f i) (if i ≤ n then g (n - i) else 0) := rfl
theorem pacc_end {p d : Nat} (h : Fld p d) {f g : Nat → Nat} {m : Nat} (hf : Dg f m) (n : Nat) : pacc p f g m n = pm p f g n := by
  unfold pacc pm
  rcases Nat.le_total (n + 1) m with h1 | h1
  · rw [sx_cut h1 (fun i a b => by rw [if_neg (by omega), h.fm_zero])]
    exact sx_congr (fun i hi => by rw [if_pos (by omega)])
  · rw [sx_cut h1 (fun i a b => by rw [hf i a, h.zero_fm])]
    exact sx_congr (fun i hi => by rw [if_pos (by omega)])
theorem pacc_lt {p d : Nat} (h : Fld p d) (f g : Nat → Nat) (i n : Nat) : pacc p f g i n < 2 ^ d := sx_lt (fun _ _ => h.fm_lt _ _)
end Gf2
open Gf2
theorem wrap_add {i j : Nat} (h : i + j ≤ 1000000) : wrap64 ((i : Int) + (j : Int)) = (i : Int) + (j : Int) := by unfold wrap64; omega
theorem wrap_succ {j : Nat} (h : j ≤ 1000000) : wrap64 ((j : Int) + 1) = (j : Int) + 1 := by unfold wrap64; omega
theorem kwrap_add {i j : Nat} (h : i + j ≤ 1000000) : IntKind.i64.wrap ((i : Int) + (j : Int)) = (i : Int) + (j : Int) := by rw [IntKind.wrap_i64]; omega
theorem el_list {wide : Bool} {l : List Nat} (h : ∀ x ∈ l, x < 2 ^ dq wide) : El (dq wide) (co l) := co_el h

theorem meas_lt {l k : Nat} (h : k < l) : l - (intOf (Value.int .i64 ((k : Int) + 1))).toNat < l - (intOf (Value.int .i64 (k : Int))).toNat := by
  simp [intOf]; omega
theorem prod_step {p i j n x y : Nat} {f g : Nat → Nat} (hx : x = pacc p f g i (i + j)) (hy : y = fm p (f i) (g j)) :
    (if n = i + j then Value.int .u16 ((x ^^^ y : Nat) : Int) else .int .u16 ((pacc p f g i n ^^^ (if i ≤ n ∧ n < i + j then fm p (f i) (g (n - i)) else 0) : Nat) : Int)) = .int .u16 ((pacc p f g i n ^^^ (if i ≤ n ∧ n < i + (j + 1) then fm p (f i) (g (n - i)) else 0) : Nat) : Int) := by
  by_cases e : n = i + j
  · subst e
    rw [if_pos rfl, if_pos ⟨Nat.le_add_right _ _, by omega⟩, Nat.add_sub_cancel_left, hx, hy]
  · rw [if_neg e]
    by_cases e2 : i ≤ n ∧ n < i + j
    · rw [if_pos e2, if_pos ⟨e2.1, by omega⟩]
    · rw [if_neg e2, if_neg (fun h9 => e2 ⟨h9.1, by omega⟩)]
/-- a region that draws its order: all but its last operations only read. -/
theorem region_tail {P : Program} {id : Nat} {Q : Exit → Act → World → Prop} {a : Act} {w : World} {l : List Oper} (n : Nat) (hm : P.follows .mixedOrders = true) (hB : Region.lexTailB .any l.toArray n = true)
    (h : wpStill P l.toArray w.drew (fun a' => wpList P l.toArray Q (l.drop n) a' w.drew) (l.take n) a) : (Code.region id l.toArray true).wp P Q a w := wp_region_still_tail n hm hB h

set_option maxHeartbeats 8000000 in
set_option maxRecDepth 100000 in
theorem pproduct_any (wide : Bool) (v u : Value) (l m : List Nat) (w : World) (h : Sl w v l) (k : Sl w u m) (hl : ∀ x ∈ l, x < 2 ^ dq wide) (hm : ∀ x ∈ m, x < 2 ^ dq wide) (hlen : l.length + m.length ≤ 1000000) :
    Calls Tryd.prog 61 #[.bool wide, v, u] w fun e w' => ∃ v', e = .returned v' ∧ Ans w' w.heap.size v' (pm (fq wide) (co l) (co m)) ∧ Below w.heap.size w w' := by
  obtain ⟨h1, h2, a, cap, rfl, h4⟩ := h
  obtain ⟨k1, k2, c, cap', rfl, k4⟩ := k
  have eL := el_list hl
  have eM := el_list hm
  have F := fldq wide
  obtain ⟨N, hN⟩ : ∃ N, N = l.length + m.length := ⟨_, rfl⟩
  have hmk := make_u16 N (by omega)
  have W0 : wrap64 ((l.length : Int) + (m.length : Int)) = (N : Int) := by unfold wrap64; omega
  have hmk2 : ∀ w, (Instr.makeSlice 27 (.int .i64 ((l.length : Int) + (m.length : Int))) (.int .i64 ((l.length : Int) + (m.length : Int)))).run Tryd.prog w = .ok (.slice (some ⟨w.heap.size, 0, none⟩) N N) (w.alloc (.cells (madeCells #[.int .u16 0] N) 26)) := by
    rw [show (l.length : Int) + (m.length : Int) = (N : Int) by omega]; exact hmk
  have HN : Hid (N = l.length + m.length) := hN
  clear hN hmk
  go_enter Tryd.func61, Tryd.ntmps61
  go_wp2
  clear hmk2 W0
  go_loopw [8] (fun iv wr => ∃ (i : Nat), i ≤ l.length ∧ iv = .int .i64 i ∧ wr.rowIs w.heap.size 26 N (fun n => .int .u16 (pacc (fq wide) (co l) (co m) i n : Nat)) ∧ wr.heap.size = w.heap.size + 1 ∧ Below w.heap.size w wr) (fun iv _ => l.length - (intOf iv).toNat)
  case atStart => exact ⟨0, Nat.zero_le _, rfl, World.rowIs_made w (.int .u16 0) N 26, by simp, (Below.refl _ _).alloc (Nat.le_refl _) _⟩
  case round =>
    obtain ⟨i, hi, rfl, hr, hs, hb⟩ := hrel
    by_cases hil : i < l.length
    · obtain ⟨b, o, rfl, hbl, hc⟩ := h4 (by omega)
      have q1 := (hb.cell (p := ⟨b, o + i, none⟩) hbl).trans (hc i hil)
      have iN : ((i : Nat) : Int) < (l.length : Int) := by omega
      have HR : Hid (wr.rowIs w.heap.size 26 N (fun n => .int .u16 (pacc (fq wide) (co l) (co m) i n : Nat)) ∧ Below w.heap.size w wr ∧ wr.heap.size = w.heap.size + 1) := ⟨hr, hb, hs⟩
      by_cases hz : co l i = 0
      · have T0 : (((co l i : Nat) : Int) != 0) = false := by simp; omega
        have T1 : (((co l i : Nat) : Int) == 0) = true := by simp; omega
        clear hr hb h4 k4 hc
        go_wp2
        go_roundw
        case rel =>
          obtain ⟨g1, g2, g3⟩ := HR.out
          refine ⟨i + 1, by omega, by go_num, g1.congr (fun n hn => ?_), g3, g2⟩
          rw [pacc_succ, hz, F.zero_fm, Nat.xor_zero]
        case measure => simp [intOf]; omega
      · have T0 : (((co l i : Nat) : Int) != 0) = true := by simp; omega
        have T1 : (((co l i : Nat) : Int) == 0) = false := by simp; omega
        clear hr hb hs
        go_wp2
        go_loopw [9] (fun jv wq => ∃ (j : Nat), j ≤ m.length ∧ jv = .int .i64 j ∧ wq.rowIs w.heap.size 26 N (fun n => .int .u16 ((pacc (fq wide) (co l) (co m) i n ^^^ (if i ≤ n ∧ n < i + j then fm (fq wide) (co l i) (co m (n - i)) else 0) : Nat) : Int)) ∧ wq.heap.size = w.heap.size + 1 ∧ Below w.heap.size w wq) (fun jv _ => m.length - (intOf jv).toNat)
        case atStart =>
          obtain ⟨g1, g2, g3⟩ := HR.out
          exact ⟨0, Nat.zero_le _, rfl, g1.congr (fun n hn => by rw [if_neg (by omega), Nat.xor_zero]), g3, g2⟩
        case round =>
          obtain ⟨j, hj, rfl, hr2, hs2, hb2⟩ := hrel
          by_cases hjl : j < m.length
          · obtain ⟨b', o', rfl, hbl', hc'⟩ := k4 (by omega)
            have q2 := (hb2.cell (p := ⟨b, o + i, none⟩) hbl).trans (hc i hil)
            have q3 := (hb2.cell (p := ⟨b', o' + j, none⟩) hbl').trans (hc' j hjl)
            have hN := HN.out
            have q4 := hr2.cell (i := i + j) (by omega)
            have f4 := hr2.frozen (i + j)
            rw [if_neg (by omega), Nat.xor_zero] at q4
            have jN : ((j : Nat) : Int) < (m.length : Int) := by omega
            have ijN : ((i : Nat) : Int) + (j : Int) < (N : Int) := by omega
            have hij : i + j ≤ 1000000 := Nat.le_trans (Nat.add_le_add (Nat.le_of_lt hil) (Nat.le_of_lt hjl)) hlen
            have W1 := wrap_add hij
            have W2 := kwrap_add hij
            have W3 : ((i : Int) + (j : Int)).toNat = i + j := by rw [← Int.natCast_add]; rfl
            have Wj : wrap64 ((j : Int) + 1) = (j : Int) + 1 := wrap_succ (Nat.le_trans (Nat.le_add_left j i) hij)
            clear hij
            have W4 : (0 : Int) ≤ (i : Int) + (j : Int) := Int.add_nonneg (Int.natCast_nonneg _) (Int.natCast_nonneg _)
            have c1 := fun w => ptimes_nat wide (co l i) (co m j) w (eL i) (eM j)
            have lx : pacc (fq wide) (co l) (co m) i (i + j) < 65536 := Nat.lt_of_lt_of_le (pacc_lt F _ _ _ _) (dq_le wide)
            have ly : fm (fq wide) (co l i) (co m j) < 65536 := Nat.lt_of_lt_of_le (F.fm_lt _ _) (dq_le wide)
            have X := u16_xor_nat (pacc (fq wide) (co l) (co m) i (i + j)) (fm (fq wide) (co l i) (co m j)) lx ly
            have HR2 : Hid (wr.rowIs w.heap.size 26 N (fun n => .int .u16 ((pacc (fq wide) (co l) (co m) i n ^^^ (if i ≤ n ∧ n < i + j then fm (fq wide) (co l i) (co m (n - i)) else 0) : Nat) : Int)) ∧ Below w.heap.size w wr) := ⟨hr2, hb2⟩
            have ne : w.heap.size ≠ b := by omega
            have ne' : w.heap.size ≠ b' := by omega
            clear hlen h2 k2
            obtain ⟨x, hx⟩ : ∃ x, x = pacc (fq wide) (co l) (co m) i (i + j) := ⟨_, rfl⟩
            obtain ⟨y, hy⟩ : ∃ y, y = fm (fq wide) (co l i) (co m j) := ⟨_, rfl⟩
            rw [← hx] at q4 X
            rw [← hy] at c1 X
            have HX : Hid (x = pacc (fq wide) (co l) (co m) i (i + j) ∧ y = fm (fq wide) (co l i) (co m j)) := ⟨hx, hy⟩
            clear hr2 hb2 h4 k4 hc hc' HR hx hy lx ly q1 hN
            go_wp2
            refine region_tail 21 (by kernel_rfl) (by kernel_rfl) ?_
            simp only [List.take_succ_cons, List.take_zero, List.drop_succ_cons, List.drop_zero]
            repeat still_step
            still_call (c1 _)
            repeat still_step
            refine wpStill_nil ?_
            go_wp2
            go_roundw
            case rel =>
              obtain ⟨g1, g2⟩ := HR2.out
              obtain ⟨x1, y1⟩ := HX.out
              clear W1 W2 W3 W4 X c1
              refine ⟨j + 1, hjl, by rw [Wj]; rfl, World.rowIs.drew ((g1.set (i + j) _).congr (fun n hn => ?_)), by simpa using hs2, (g2.setCell (Nat.le_refl _) _).drew⟩
              exact prod_step x1 y1
            case measure => rw [Wj]; exact meas_lt hjl
          · have hj6 : j = m.length := by omega
            have HR2 : Hid (wr.rowIs w.heap.size 26 N (fun n => .int .u16 (pacc (fq wide) (co l) (co m) (i + 1) n : Nat)) ∧ Below w.heap.size w wr) := ⟨hr2.congr (fun n hn => by
              rw [pacc_succ]
              by_cases e : i ≤ n
              · rw [if_pos e]
                by_cases e2 : n < i + j
                · rw [if_pos ⟨e, e2⟩]
                · rw [if_neg (fun h9 => e2 h9.2), co_dg m (n - i) (by omega), F.fm_zero]
              · rw [if_neg e, if_neg (fun h9 => e h9.1), F.fm_zero]), hb2⟩
            have Wi : wrap64 ((i : Int) + 1) = (i : Int) + 1 := wrap_succ (by omega)
            subst hj6
            clear hr2 hb2 h4 k4 hc HR q1
            go_wp2
            go_roundw
            case rel => exact ⟨i + 1, hil, by go_num, HR2.out.1, hs2, HR2.out.2⟩
            case measure => simp [intOf]; omega
    · have hi6 : i = l.length := by omega
      subst hi6
      have hN := HN.out
      have dL := co_dg l
      have dM := co_dg m
      have hr3 : wr.rowIs w.heap.size 26 N (fun n => .int .u16 (pm (fq wide) (co l) (co m) n : Nat)) := hr.congr (fun n hn => by rw [pacc_end F dL])
      have hfr : Fr wr w.heap.size (.slice (some ⟨w.heap.size, 0, none⟩) N N) (lf N (pm (fq wide) (co l) (co m))) := fr_of_row (Nat.le_refl _) (by omega) (fun j hj => Nat.lt_of_lt_of_le (F.el_pm _ _ j) (dq_le wide)) hr3
      have hF2 : co (lf N (pm (fq wide) (co l) (co m))) = pm (fq wide) (co l) (co m) := co_lf ((F.dg_pm dL dM).mono (by omega))
      have c1 := ptrim_any _ _ wr hfr.sl
      have HB : Hid (Below w.heap.size w wr ∧ w.heap.size ≤ wr.heap.size) := ⟨hb, by omega⟩
      clear hr hb h4 k4 hfr hr3 hN dL dM
      go_wp2_with (go_at_call 66; ((with_reducible refine (c1).mono ?_); (rintro e w1 ⟨v1, rfl, hf1, hb1⟩)))
      go_ret
      exact ⟨v1, rfl, ans_tri (hf1.mono HB.out.2) hF2, HB.out.1.trans (hb1.mono HB.out.2)⟩
end Go.Proofs.YtidcdbjhkgpjcaaDoor
namespace Go.Proofs.YtidcdbjhkgpjcaaDoor
open Go.RowKit Gf2

set_option maxHeartbeats 1000000 in
set_option maxRecDepth 100000 in
theorem pmul_any (wide : Bool) (v u : Value) (l m : List Nat) (w : World) (h : Sl w v l) (k : Sl w u m) (hl : ∀ x ∈ l, x < 2 ^ dq wide) (hm : ∀ x ∈ m, x < 2 ^ dq wide) (h1 : l.length ≤ 1024) (h2 : m.length ≤ 1024) :
    Calls Tryd.prog 51 #[.bool wide, v, u] w fun e w' => ∃ v', e = .returned (.tuple #[v', .int .i64 0]) ∧ Ans w' w.heap.size v' (pm (fq wide) (co l) (co m)) ∧ Below w.heap.size w w' := by
  have c1 := pproduct_any wide v u l m w h k hl hm (by omega)
  obtain ⟨-, -, a, cap, rfl, -⟩ := h
  obtain ⟨-, -, c, cap', rfl, -⟩ := k
  have D1 : decide ((1024 : Int) < (l.length : Int)) = false := by simp; omega
  have D2 : decide ((1024 : Int) < (m.length : Int)) = false := by simp; omega
  go_enter Tryd.func51, Tryd.ntmps51
  go_wp2_with (go_at_call 61; ((with_reducible refine (c1).mono ?_); (rintro e w1 ⟨v1, rfl, hf1, hb1⟩)))
  go_ret2
  exact ⟨v1, rfl, hf1, hb1⟩

set_option maxHeartbeats 1000000 in
set_option maxRecDepth 100000 in
theorem pmul_big (wide : Bool) (v u : Value) (l m : List Nat) (w : World) (h : Sl w v l) (k : Sl w u m) (hbig : 1024 < l.length ∨ 1024 < m.length) :
    Calls Tryd.prog 51 #[.bool wide, v, u] w fun e w' => e = .returned (.tuple #[.slice none 0 0, .int .i64 5]) ∧ w' = w := by
  obtain ⟨-, -, a, cap, rfl, -⟩ := h
  obtain ⟨-, -, c, cap', rfl, -⟩ := k
  by_cases h1 : 1024 < l.length
  · have D1 : decide ((1024 : Int) < (l.length : Int)) = true := by simp; omega
    go_enter Tryd.func51, Tryd.ntmps51
    go_wp2
    go_ret2
    exact ⟨rfl, rfl⟩
  · have D1 : decide ((1024 : Int) < (l.length : Int)) = false := by simp; omega
    have D2 : decide ((1024 : Int) < (m.length : Int)) = true := by simp; omega
    go_enter Tryd.func51, Tryd.ntmps51
    go_wp2
    go_ret2
    exact ⟨rfl, rfl⟩

/-- the derivative, as far as its first i coefficients. -/
theorem pd_step {l : List Nat} {n i : Nat} (he : i % 2 = 0) : (if n = i then Value.int .u16 ((co l (i + 1) : Nat) : Int) else .int .u16 ((if n < i then pd (co l) n else 0 : Nat) : Int)) = .int .u16 ((if n < i + 2 then pd (co l) n else 0 : Nat) : Int) := by
  by_cases e : n = i
  · subst e
    rw [if_pos rfl, if_pos (by omega)]
    unfold pd; rw [if_pos he]
  · rw [if_neg e]
    by_cases e2 : n < i
    · rw [if_pos e2, if_pos (by omega)]
    · rw [if_neg e2]
      by_cases e3 : n < i + 2
      · rw [if_pos e3]
        unfold pd; rw [if_neg (by omega)]
      · rw [if_neg e3]

end Go.Proofs.YtidcdbjhkgpjcaaDoor
namespace Go.Proofs.YtidcdbjhkgpjcaaDoor
open Go.RowKit Gf2

/-- what stands between in a division: Q and M so far, M of a degree below K. -/
structure Dq (p d : Nat) (f g : Nat → Nat) (dd n0 K : Nat) (Q M : Nat → Nat) : Prop where
  eQ : El d Q
  eM : El d M
  dQ : Dg Q n0
  dM : Dg M n0
  dK : Dg M K
  qz : ∀ j, j + dd < K → Q j = 0
  eq : f = pa (pm p Q g) M
theorem Dq.start {p d : Nat} (h : Fld p d) {f g : Nat → Nat} {dd n0 : Nat} (ef : El d f) (df : Dg f n0) : Dq p d f g dd n0 n0 pz f :=
  ⟨El.pz d, ef, Dg.pz _, df, df, fun _ _ => rfl, by rw [h.pz_pm, pz_pa]⟩
theorem Dq.step {p d : Nat} (h : Fld p d) {f g Q M : Nat → Nat} {dd n0 k s c : Nat} (eg : El d g) (tg : Tp g dd) (hk : k = s + dd) (hkn : k < n0) (k0 : Dq p d f g dd n0 (k + 1) Q M) (hc : c = fm p (M k) (fi p (g dd))) :
    Dq p d f g dd n0 k (fun j => if j = s then c else Q j) (pa M (pm p (mo c s) g)) := by
  have hcl : c < 2 ^ d := by rw [hc]; exact h.fm_lt _ _
  have eQ' : (fun j => if j = s then c else Q j) = pa Q (mo c s) := by
    funext j
    unfold pa mo
    by_cases e : j = s
    · rw [if_pos e, if_pos e, e, k0.qz s (by omega), Nat.zero_xor]
    · rw [if_neg e, if_neg e, Nat.xor_zero]
  have dmo : Dg (pm p (mo c s) g) (s + dd + 1) := (h.dg_pm (mo_dg c s) tg.1).mono (by omega)
  refine ⟨?_, k0.eM.pa (h.el_pm _ _), ?_, ?_, ?_, ?_, ?_⟩
  · rw [eQ']; exact k0.eQ.pa (el_mo hcl s)
  · rw [eQ']; exact k0.dQ.pa ((mo_dg c s).mono (by omega))
  · exact k0.dM.pa (dmo.mono (by omega))
  · intro j hj
    rcases Nat.lt_or_ge k j with h1 | h1
    · show M j ^^^ _ = 0
      rw [k0.dK j (by omega), dmo j (by omega)]; rfl
    · have hjk : j = k := by omega
      subst hjk
      show M j ^^^ pm p (mo c s) g j = 0
      have top := h.top_pm (mo_dg c s) tg.1
      rw [← hk] at top
      rw [top]
      unfold mo
      rw [if_pos rfl, hc, h.div_mul (k0.eM j) (eg dd) tg.2, Nat.xor_self]
  · intro j hj
    show (if j = s then c else Q j) = 0
    rw [if_neg (by omega)]
    exact k0.qz j (by omega)
  · rw [eQ', h.pa_pm, k0.eq]
    funext i
    unfold pa
    have hx : ∀ A B C : Nat, A ^^^ B = A ^^^ C ^^^ (B ^^^ C) := by
      intro A B C
      rw [Nat.xor_comm B C, Nat.xor_assoc, ← Nat.xor_assoc C C B, Nat.xor_self, Nat.zero_xor]
    exact hx _ _ _
/-- the remainder's row, j coefficients of the divisor gone through. -/
def mrow (p : Nat) (M g : Nat → Nat) (c s j n : Nat) : Nat := M n ^^^ (if s ≤ n ∧ n < s + j then fm p c (g (n - s)) else 0)
theorem mrow_zero (p : Nat) (M g : Nat → Nat) (c s n : Nat) : mrow p M g c s 0 n = M n := by unfold mrow; rw [if_neg (by omega), Nat.xor_zero]
theorem mrow_at (p : Nat) (M g : Nat → Nat) (c s j : Nat) : mrow p M g c s j (s + j) = M (s + j) := by unfold mrow; rw [if_neg (by omega), Nat.xor_zero]
theorem mrow_step {p c s j n y : Nat} {M g : Nat → Nat} (hy : y = fm p c (g j)) :
    (if n = s + j then Value.int .u16 ((M (s + j) ^^^ y : Nat) : Int) else .int .u16 ((mrow p M g c s j n : Nat) : Int)) = .int .u16 ((mrow p M g c s (j + 1) n : Nat) : Int) := by
  unfold mrow
  by_cases e : n = s + j
  · subst e
    rw [if_pos rfl, if_pos ⟨Nat.le_add_right _ _, by omega⟩, Nat.add_sub_cancel_left, hy]
  · rw [if_neg e]
    by_cases e2 : s ≤ n ∧ n < s + j
    · rw [if_pos e2, if_pos ⟨e2.1, by omega⟩]
    · rw [if_neg e2, if_neg (fun h9 => e2 ⟨h9.1, by omega⟩)]
theorem mrow_end {p d : Nat} (h : Fld p d) {M g : Nat → Nat} {c s dd n : Nat} (tg : Dg g (dd + 1)) : mrow p M g c s (dd + 1) n = pa M (pm p (mo c s) g) n := by
  unfold mrow pa
  rw [h.mo_pm]
  unfold ps pc
  by_cases e : s ≤ n
  · by_cases e2 : n < s + (dd + 1)
    · rw [if_pos ⟨e, e2⟩, if_neg (by omega)]
    · rw [if_neg (fun h9 => e2 h9.2), if_neg (by omega), tg (n - s) (by omega), h.fm_zero]
  · rw [if_neg (fun h9 => e h9.1), if_pos (by omega)]
theorem mrow_lt {p d : Nat} (h : Fld p d) {M g : Nat → Nat} (eM : El d M) (c s j n : Nat) : mrow p M g c s j n < 2 ^ d := by
  unfold mrow
  refine Nat.xor_lt_two_pow (eM n) ?_
  split
  · exact h.fm_lt _ _
  · exact Nat.two_pow_pos d
end Go.Proofs.YtidcdbjhkgpjcaaDoor
namespace Go.Proofs.YtidcdbjhkgpjcaaDoor
open Go.RowKit Gf2

theorem wrap_sub {k dd s : Nat} (h : k = s + dd) (hs : k ≤ 1000000) : wrap64 ((k : Int) - (dd : Int)) = (s : Int) := by unfold wrap64; omega
theorem kwrap_sub {k dd s : Nat} (h : k = s + dd) (hs : k ≤ 1000000) : IntKind.i64.wrap ((k : Int) - (dd : Int)) = (s : Int) := by rw [IntKind.wrap_i64]; omega
theorem wrap_natP {s : Nat} (hs : s ≤ 1000000) : wrap64 (s : Int) = (s : Int) := by unfold wrap64; omega
theorem kwrap_natP {s : Nat} (hs : s ≤ 1000000) : IntKind.i64.wrap (s : Int) = (s : Int) := by rw [IntKind.wrap_i64]; omega
theorem wrap_pred {k : Nat} (hs : k ≤ 1000000) : wrap64 ((k : Int) - 1) = (k : Int) - 1 := by unfold wrap64; omega
theorem meas_down {K : Nat} : (intOf (Value.int .i64 ((K : Int) - 1)) + 1).toNat < (intOf (Value.int .i64 (K : Int)) + 1).toNat := by simp [intOf]

theorem mrow_exit {p d : Nat} (h : Fld p d) {M g : Nat → Nat} {c s dd j n : Nat} (tg : Dg g (dd + 1)) (hx : j = dd + 1 ∨ c = 0) : mrow p M g c s j n = pa M (pm p (mo c s) g) n := by
  rcases hx with rfl | rfl
  · exact mrow_end h tg
  · have e : mo 0 s = pz := funext fun i => by unfold mo pz; split <;> rfl
    rw [e, h.pz_pm, pa_pz]
    unfold mrow
    split
    · rw [h.zero_fm, Nat.xor_zero]
    · exact Nat.xor_zero _
theorem store_q {c s n : Nat} {Q : Nat → Nat} : (if n = s then Value.int .u16 (c : Int) else .int .u16 ((Q n : Nat) : Int)) = .int .u16 ((if n = s then c else Q n : Nat) : Int) := by
  split <;> rfl

end Go.Proofs.YtidcdbjhkgpjcaaDoor
namespace Go.Proofs.YtidcdbjhkgpjcaaDoor
open Go.RowKit Gf2

theorem mem_of_el {wide : Bool} {L : List Nat} (h : El (dq wide) (co L)) : ∀ x ∈ L, x < 2 ^ dq wide := by
  intro x hx
  obtain ⟨i, hi, rfl⟩ := List.getElem_of_mem hx
  have := h i
  unfold co at this
  rwa [Gf2.getD_in hi] at this
theorem neat_nzl {L : List Nat} (h : Neat L) : nzl L = L.length :=
  nzl_only (fun i hi => co_dg L i hi) h
theorem neat_le {L : List Nat} {n : Nat} (h : Neat L) (hd : Dg (co L) n) : L.length ≤ n := by
  rcases h with h | h
  · omega
  · rcases Nat.lt_or_ge n L.length with h1 | h1
    · exact absurd (hd (L.length - 1) (by omega)) h
    · exact h1

end Go.Proofs.YtidcdbjhkgpjcaaDoor
namespace Go.Proofs.YtidcdbjhkgpjcaaDoor
open Go.RowKit Gf2

theorem pm_px {p d : Nat} (h : Fld p d) {f : Nat → Nat} (ef : El d f) {x : Nat} (n : Nat) : pm p f (px x) n = (if 1 ≤ n then f (n - 1) else 0) ^^^ fm p (f n) x := by
  have e : px x = pa (mo x 0) (mo 1 1) := by
    funext i
    unfold px pa mo
    by_cases h0 : i = 0
    · simp [h0]
    · by_cases h1 : i = 1
      · simp [h1]
      · simp [h0, h1]
  rw [e, h.pm_pa, h.pm_comm f (mo x 0), h.pm_comm f (mo 1 1), h.mo_pm, h.mo_pm]
  unfold pa ps pc
  rw [if_neg (by omega), Nat.sub_zero, fm_comm p x, Nat.xor_comm]
  congr 1
  by_cases h1 : 1 ≤ n
  · rw [if_neg (by omega), if_pos h1, h.one_fm (ef _)]
  · rw [if_pos (by omega), if_neg h1]
/-- the next row of the product, j of its steps done. -/
def vrow (p x : Nat) (P : Nat → Nat) (j n : Nat) : Nat := (if 1 ≤ n ∧ n ≤ j then P (n - 1) else 0) ^^^ (if n < j then fm p (P n) x else 0)
theorem vrow_zero (p x : Nat) (P : Nat → Nat) (n : Nat) : vrow p x P 0 n = 0 := by unfold vrow; rw [if_neg (by omega), if_neg (by omega)]; rfl
theorem vrow_next (p x : Nat) (P : Nat → Nat) (j : Nat) : vrow p x P j (j + 1) = 0 := by unfold vrow; rw [if_neg (by omega), if_neg (by omega)]; rfl
theorem vrow_step {p x j n y : Nat} {P : Nat → Nat} (hy : y = fm p (P j) x) :
    (if n = j then Value.int .u16 ((vrow p x P j j ^^^ y : Nat) : Int) else (if n = j + 1 then Value.int .u16 ((P j : Nat) : Int) else .int .u16 ((vrow p x P j n : Nat) : Int))) = .int .u16 ((vrow p x P (j + 1) n : Nat) : Int) := by
  subst hy
  by_cases e : n = j
  · subst e
    rw [if_pos rfl]
    congr 2
    unfold vrow
    rw [if_neg (by omega : ¬ n < n), Nat.xor_zero, if_pos (by omega : n < n + 1)]
    by_cases h1 : 1 ≤ n
    · rw [if_pos ⟨h1, Nat.le_refl _⟩, if_pos ⟨h1, by omega⟩]
    · rw [if_neg (fun h9 => h1 h9.1), if_neg (fun h9 => h1 h9.1)]
  · rw [if_neg e]
    by_cases e2 : n = j + 1
    · subst e2
      rw [if_pos rfl]
      congr 2
      unfold vrow
      rw [if_pos ⟨by omega, Nat.le_refl _⟩, if_neg (by omega), Nat.xor_zero, Nat.add_sub_cancel]
    · rw [if_neg e2]
      congr 2
      unfold vrow
      congr 1
      · by_cases h1 : 1 ≤ n ∧ n ≤ j
        · rw [if_pos h1, if_pos ⟨h1.1, by omega⟩]
        · rw [if_neg h1, if_neg (fun h9 => h1 ⟨h9.1, by omega⟩)]
      · by_cases h1 : n < j
        · rw [if_pos h1, if_pos (by omega)]
        · rw [if_neg h1, if_neg (by omega)]
theorem vrow_end {p d : Nat} (h : Fld p d) {pts : Nat → Nat} {i n : Nat} : vrow p (pts i) (pv p pts i) (i + 1) n = pv p pts (i + 1) n := by
  show _ = pm p (pv p pts i) (px (pts i)) n
  rw [pm_px h (h.el_pv pts i)]
  unfold vrow
  have dg := h.pv_dg pts i
  congr 1
  · by_cases h1 : 1 ≤ n
    · rw [if_pos h1]
      by_cases h2 : n ≤ i + 1
      · rw [if_pos ⟨h1, h2⟩]
      · rw [if_neg (fun h9 => h2 h9.2), dg (n - 1) (by omega)]
    · rw [if_neg (fun h9 => h1 h9.1), if_neg h1]
  · by_cases h1 : n < i + 1
    · rw [if_pos h1]
    · rw [if_neg h1, dg n (by omega), h.zero_fm]
theorem vrow_lt {p d : Nat} (h : Fld p d) {P : Nat → Nat} (eP : El d P) (x j n : Nat) : vrow p x P j n < 2 ^ d := by
  unfold vrow
  refine Nat.xor_lt_two_pow ?_ ?_
  · split
    · exact eP _
    · exact Nat.two_pow_pos d
  · split
    · exact h.fm_lt _ _
    · exact Nat.two_pow_pos d

theorem wrap_twoP {i : Nat} (h : i ≤ 1000000) : wrap64 ((i : Int) + 1 + 1) = (i : Int) + 1 + 1 := by unfold wrap64; omega

set_option maxHeartbeats 8000000 in
set_option maxRecDepth 100000 in
theorem pvanish_any (wide : Bool) (v : Value) (l : List Nat) (w : World) (h : Sl w v l) (hl : ∀ x ∈ l, x < 2 ^ dq wide) (hlen : l.length ≤ 1024) :
    Calls Tryd.prog 60 #[.bool wide, v] w fun e w' => ∃ v', e = .returned v' ∧ Fr w' w.heap.size v' (lf (l.length + 1) (pv (fq wide) (co l) l.length)) ∧ Below w.heap.size w w' := by
  have F := fldq wide
  have eL := el_list hl
  obtain ⟨h1, h2, a, cap, rfl, h4⟩ := h
  go_enter Tryd.func60, Tryd.ntmps60
  go_wp2
  go_loopw [5, 6] (fun pw iv wr => ∃ i g : Nat, i ≤ l.length ∧ iv = .int .i64 i ∧ pw = .slice (some ⟨g, 0, none⟩) (i + 1) (i + 1) ∧ w.heap.size ≤ g ∧ wr.rowIs g 26 (i + 1) (fun n => .int .u16 (pv (fq wide) (co l) i n : Nat)) ∧ Below w.heap.size w wr) (fun _ iv _ => l.length - (intOf iv).toNat)
  case atStart => exact ⟨0, w.heap.size, Nat.zero_le _, rfl, rfl, Nat.le_refl _, World.rowIs_alloc w #[.int .u16 1] 26 _ (fun i hi => by simp at hi; subst hi; rfl), (Below.refl _ _).alloc (Nat.le_refl _) _⟩
  case round =>
    obtain ⟨i, g, hi, rfl, rfl, hg, hr, hb⟩ := hrel
    by_cases hil : i < l.length
    · have hmk : ∀ w, (Instr.makeSlice 27 (.int .i64 ((i : Int) + 1 + 1)) (.int .i64 ((i : Int) + 1 + 1))).run Tryd.prog w = .ok (.slice (some ⟨w.heap.size, 0, none⟩) (i + 2) (i + 2)) (w.alloc (.cells (madeCells #[.int .u16 0] (i + 2)) 26)) := make_u16 (i + 2) (by omega)
      have iN : ((i : Nat) : Int) < (l.length : Int) := by omega
      obtain ⟨b, o, rfl, hbl, hc⟩ := h4 (by omega)
      have qx := hc i hil
      obtain ⟨G, hG⟩ : ∃ G, G = wr.heap.size := ⟨_, rfl⟩
      have ne1 : G ≠ g := by have := hr.lt; omega
      have ne2 : G ≠ b := by have := hb.size; omega
      have ne3 : g ≠ b := by omega
      have hwG : w.heap.size ≤ G := by rw [hG]; exact hb.size
      have HS : Hid ((wr.alloc (.cells (madeCells #[.int .u16 0] (i + 2)) 26)).rowIs G 26 (i + 2) (fun n => .int .u16 (vrow (fq wide) (co l i) (pv (fq wide) (co l) i) 0 n : Nat)) ∧ (wr.alloc (.cells (madeCells #[.int .u16 0] (i + 2)) 26)).rowIs g 26 (i + 1) (fun n => .int .u16 (pv (fq wide) (co l) i n : Nat)) ∧ Below w.heap.size w (wr.alloc (.cells (madeCells #[.int .u16 0] (i + 2)) 26))) :=
        ⟨by rw [hG]; exact (World.rowIs_made wr (.int .u16 0) (i + 2) 26).congr (fun n _ => by rw [vrow_zero]; rfl), hr.alloc _, hb.alloc hb.size _⟩
      have eP := F.el_pv (co l) i
      have exi := eL i
      have HC : Hid (w.cell? ⟨b, o + i, none⟩ = some (.int .u16 (co l i : Nat))) := qx
      have Wi : Hid (wrap64 ((i : Int) + 1) = (i : Int) + 1) := wrap_succ (by omega)
      have Hi : Hid (i ≤ 1024) := by show i ≤ 1024; omega
      have MLo := meas_lt hil
      obtain ⟨x, hx⟩ : ∃ x, x = co l i := ⟨_, rfl⟩
      obtain ⟨P, hP⟩ : ∃ P, P = pv (fq wide) (co l) i := ⟨_, rfl⟩
      rw [← hx] at HS HC exi
      rw [← hP] at HS eP
      have HE : Hid (∀ n, vrow (fq wide) x P (i + 1) n = pv (fq wide) (co l) (i + 1) n) := fun n => by rw [hx, hP]; exact vrow_end F
      have W12 := wrap_twoP (i := i) (by omega)
      clear hr hb hc qx hx hP hlen h2
      go_wp2
      rw [← hG]
      clear hmk W12 hG
      go_loopw [8] (fun jv wq => ∃ j : Nat, j ≤ i + 1 ∧ jv = .int .i64 j ∧ wq.rowIs G 26 (i + 2) (fun n => .int .u16 (vrow (fq wide) x P j n : Nat)) ∧ wq.rowIs g 26 (i + 1) (fun n => .int .u16 (P n : Nat)) ∧ Below w.heap.size w wq) (fun jv _ => i + 1 - (intOf jv).toNat)
      case atStart => exact ⟨0, Nat.zero_le _, rfl, HS.out.1, HS.out.2.1, HS.out.2.2⟩
      case round =>
        obtain ⟨j, hj, rfl, rG, rg, hbq⟩ := hrel
        by_cases hjl : j < i + 1
        · have q1 := rG.cell (i := j + 1) (by omega)
          rw [vrow_next] at q1
          have f1 := rG.frozen (j + 1)
          have q2 := rg.cell (i := j) hjl
          have q3 := rG.cell (i := j) (by omega)
          have f3 := rG.frozen j
          have q4 := (hbq.cell (p := ⟨b, o + i, none⟩) hbl).trans HC.out
          have c1 := fun w => ptimes_nat wide (P j) x w (eP j) exi
          obtain ⟨y, hy⟩ : ∃ y, y = fm (fq wide) (P j) x := ⟨_, rfl⟩
          obtain ⟨z, hz⟩ : ∃ z, z = vrow (fq wide) x P j j := ⟨_, rfl⟩
          rw [← hy] at c1
          rw [← hz] at q3
          have ly : y < 65536 := by rw [hy]; exact Nat.lt_of_lt_of_le (F.fm_lt _ _) (dq_le wide)
          have lz : z < 65536 := by rw [hz]; exact Nat.lt_of_lt_of_le (vrow_lt F eP _ _ _) (dq_le wide)
          have lp : P j < 65536 := Nat.lt_of_lt_of_le (eP j) (dq_le wide)
          have HX : Hid (bits BinOp.xor IntKind.u16 0 ((P j : Nat) : Int) = ((P j : Nat) : Int) ∧ bits BinOp.xor IntKind.u16 ((z : Nat) : Int) (y : Int) = ((z ^^^ y : Nat) : Int)) := ⟨by have h9 := u16_xor_nat 0 (P j) (by decide) lp; rw [Nat.zero_xor] at h9; exact h9, u16_xor_nat z y lz ly⟩
          have jN : ((j : Nat) : Int) < (i : Int) + 1 := by omega
          have jN0 : (0 : Int) ≤ ((j : Nat) : Int) + 1 := by omega
          have jN2 : ((j : Nat) : Int) + 1 < (i : Int) + 2 := by omega
          have jN3 : ((j : Nat) : Int) < (i : Int) + 2 := by omega
          have hj5 : j + 1 ≤ 1000000 := Nat.le_trans (Nat.succ_le_succ hj) (Nat.le_trans (Nat.succ_le_succ (Nat.succ_le_succ Hi.out)) (by decide))
          have HW : Hid (wrap64 ((j : Int) + 1) = (j : Int) + 1 ∧ IntKind.i64.wrap ((j : Int) + 1) = (j : Int) + 1) := ⟨wrap_succ (Nat.le_of_succ_le hj5), kwrap_add (i := j) (j := 1) hj5⟩
          have ML := meas_lt hjl
          have HR : Hid (wr.rowIs G 26 (i + 2) (fun n => .int .u16 (vrow (fq wide) x P j n : Nat)) ∧ wr.rowIs g 26 (i + 1) (fun n => .int .u16 (P n : Nat)) ∧ Below w.heap.size w wr) := ⟨rG, rg, hbq⟩
          have HY : Hid (y = fm (fq wide) (P j) x ∧ z = vrow (fq wide) x P j j) := ⟨hy, hz⟩
          clear rG rg hbq hy hz ly lz lp hj5 hj
          obtain ⟨W1, W2⟩ := HW.out
          obtain ⟨X1, X2⟩ := HX.out
          go_wp2
          refine region_tail 13 (by kernel_rfl) (by kernel_rfl) ?_
          simp only [List.take_succ_cons, List.take_zero, List.drop_succ_cons, List.drop_zero]
          repeat still_step
          refine wpStill_nil ?_
          go_wp2
          refine region_tail 17 (by kernel_rfl) (by kernel_rfl) ?_
          simp only [List.take_succ_cons, List.take_zero, List.drop_succ_cons, List.drop_zero]
          repeat still_step
          still_call (c1 _)
          repeat still_step
          refine wpStill_nil ?_
          go_wp2
          go_roundw
          case rel =>
            obtain ⟨r1, r2, r3⟩ := HR.out
            obtain ⟨y1, z1⟩ := HY.out
            clear W1 W2 X1 X2 c1
            refine ⟨j + 1, hjl, rfl, World.rowIs.drew (World.rowIs.drew (((r1.set (j + 1) _).set j _).congr (fun n _ => ?_))), World.rowIs.drew (World.rowIs.drew ((r2.setOther (a := ⟨G, j + 1, none⟩) (Ne.symm ne1) _).setOther (a := ⟨G, j, none⟩) (Ne.symm ne1) _)), (((r3.setCell hwG _).setCell hwG _).drew).drew⟩
            rw [z1]
            exact vrow_step y1
          case measure => exact ML
        · have hj6 : j = i + 1 := by omega
          subst hj6
          have HR : Hid (wr.rowIs G 26 (i + 2) (fun n => .int .u16 (pv (fq wide) (co l) (i + 1) n : Nat)) ∧ Below w.heap.size w wr) := ⟨rG.congr (fun n _ => by rw [HE.out n]), hbq⟩
          have W9 := Wi.out
          clear rG rg hbq
          go_wp2
          go_roundw
          case rel => exact ⟨i + 1, G, hil, by first | rfl | (rw [W9]; rfl), rfl, hwG, HR.out.1, HR.out.2⟩
          case measure => first | exact MLo | (rw [W9]; exact MLo)
    · have hi6 : i = l.length := by omega
      subst hi6
      have HF : Hid (Fr wr w.heap.size (.slice (some ⟨g, 0, none⟩) (l.length + 1) (l.length + 1)) (lf (l.length + 1) (pv (fq wide) (co l) l.length)) ∧ Below w.heap.size w wr) := ⟨fr_of_row hg (by omega) (fun j _ => Nat.lt_of_lt_of_le (F.el_pv _ _ j) (dq_le wide)) hr, hb⟩
      clear hr hb h4
      go_wp2
      go_ret
      exact ⟨_, rfl, HF.out.1, HF.out.2⟩
end Go.Proofs.YtidcdbjhkgpjcaaDoor
