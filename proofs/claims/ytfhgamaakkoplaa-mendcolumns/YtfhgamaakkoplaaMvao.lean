import Derived.Test.YtfhgamaakkoplaaMvan
import Derived.Deep.WholeRow
namespace Go.Proofs.Ytfhgamaakkoplaa
open Go.RowKit Gf2

set_option maxHeartbeats 1000000 in
set_option maxRecDepth 10000 in
theorem pinverse_nat (wide : Bool) (a : Nat) (w : World) (ha : a < 2 ^ dq wide) (h0 : a ≠ 0) :
    Calls Try.prog 36 #[.bool wide, .int .u16 (a : Int)] w fun e w' => e = .returned (.int .u16 (fi (fq wide) a : Nat)) ∧ w' = w := by
  cases wide
  · have c1 := refInv4_nat a w ha
    have e1 : gi4 a = fi 285 a := by unfold gi4; rw [if_neg h0]
    have e2 : ge4 a = 0 := by unfold ge4; rw [if_neg h0]
    rw [e1, e2] at c1
    have l1 : fi 285 a < 256 := fld8.fi_lt ha h0
    have ha : a < 256 := ha
    have e : fq false = 285 := rfl
    rw [e]
    clear e1 e2 h0
    go_enter Try.func36, Try.ntmps36
    go_wp2_with (go_at_call 58; ((with_reducible refine (c1).mono ?_); rintro e w' ⟨rfl, rfl⟩))
    go_ret
    exact ⟨rfl, rfl⟩
  · have c1 := refInvH_nat a w ha
    have e1 : hi a = fi 65581 a := by unfold hi; rw [if_neg h0]
    have e2 : he a = 0 := by unfold he; rw [if_neg h0]
    rw [e1, e2] at c1
    have e : fq true = 65581 := rfl
    rw [e]
    clear e1 e2 h0
    go_enter Try.func36, Try.ntmps36
    go_wp2_with (go_at_call 57; ((with_reducible refine (c1).mono ?_); rintro e w' ⟨rfl, rfl⟩))
    go_ret
    exact ⟨rfl, rfl⟩

/-- numbers as values. -/
def vW (n : Nat) : Value := .int .u16 (n : Int)
theorem rowIs_list {w : World} {g n : Nat} {F : Nat → Nat} (h : w.heap[g]? = some (.cells ((lf n F).map vW).toArray 57 (0, 0))) : w.rowIs g 57 n (fun i => .int .u16 (F i : Nat)) := by
  refine ⟨_, h, by simp [lf], fun i hi => ?_⟩
  simp [lf, vW, hi]

theorem tri_lf {l : List Nat} {n : Nat} (h : nzl l = n) : tri l = lf n (co l) := by
  have hle := nzl_le l
  apply List.ext_getElem?
  intro i
  by_cases hi : i < n
  · rw [co_get (by rw [tri_len]; omega), co_get (by rw [lf_len]; exact hi), tri_co, lf_co hi]
  · rw [List.getElem?_eq_none (by rw [tri_len]; omega), List.getElem?_eq_none (by rw [lf_len]; omega)]

/-- copy of a list into a new row. -/
theorem copy_run (w : World) {a : Option Addr} {l : List Nat} {cap n : Nat} (h4 : 0 < l.length → ∃ b o, a = some ⟨b, o, none⟩ ∧ b < w.heap.size ∧ ∀ i, i < l.length → w.cell? ⟨b, o + i, none⟩ = some (.int .u16 (co l i : Nat))) :
    (Builtin.copy_ #[52, 52] 3 #[.slice (some ⟨w.heap.size, 0, none⟩) n n, .slice a l.length cap]).run Try.prog (w.alloc (.cells (madeCells #[.int .u16 0] n) 57)) =
      .ok (goInt (Nat.min l.length n)) (w.alloc (.cells ((lf n (co l)).map vW).toArray 57)) := by
  obtain ⟨m, hm⟩ : ∃ m, m = Nat.min l.length n := ⟨_, rfl⟩
  have hml : m ≤ l.length := by rw [hm]; exact Nat.min_le_left _ _
  have hmn : m ≤ n := by rw [hm]; exact Nat.min_le_right _ _
  have hbig : ∀ i, m ≤ i → i < n → co l i = 0 := fun i h1 h2 => co_dg l i (by
    rcases Nat.le_total l.length n with h | h
    · have : m = l.length := by rw [hm]; exact Nat.min_eq_left h
      omega
    · have : m = n := by rw [hm]; exact Nat.min_eq_right h
      omega)
  rw [← hm]
  by_cases h0 : m = 0
  · rw [run_copy_none (P := Try.prog) _ 52 52 3 57 _ a n n l.length cap Try.underlying52 info_u16s (by rw [← hm]; exact h0), h0]
    have e : madeCells #[.int .u16 0] n = ((lf n (co l)).map vW).toArray := by
      rw [made_rep]
      congr 1
      apply List.ext_getElem?
      intro i
      by_cases hi : i < n
      · rw [List.getElem?_replicate, if_pos hi, List.getElem?_map, co_get (by rw [lf_len]; exact hi), lf_co hi, hbig i (by omega) hi]; rfl
      · rw [List.getElem?_eq_none (by rw [List.length_replicate]; omega), List.getElem?_eq_none (by rw [List.length_map, lf_len]; omega)]
    rw [e]; rfl
  · obtain ⟨b, o, rfl, hb, hc⟩ := h4 (by omega)
    have hlen : ((lf m (co l)).map vW).length = m := by rw [List.length_map, lf_len]
    have hr := run_copy_row (P := Try.prog) (w.alloc (.cells (madeCells #[.int .u16 0] n) 57)) 52 52 3 57 w.heap.size 0 n n ⟨b, o, none⟩ l.length cap _ 57 ((lf m (co l)).map vW) Try.underlying52 info_u16s (heap_alloc_new _ _) (by rw [hlen]; exact hm)
      (fun j u hu => by
        rw [List.getElem?_map] at hu
        obtain ⟨x, hx, rfl⟩ := Option.map_eq_some_iff.1 hu
        have hj : j < m := by
          rcases Nat.lt_or_ge j m with h9 | h9
          · exact h9
          · rw [List.getElem?_eq_none (by rw [lf_len]; exact h9)] at hx; cases hx
        have ex : x = co l j := by
          have := co_get (l := lf m (co l)) (i := j) (by rw [lf_len]; exact hj)
          rw [hx, lf_co hj] at this
          exact Option.some.inj this
        have ea : (⟨b, o, none⟩ : Addr).add j = ⟨b, o + j, none⟩ := by unfold Addr.add; split <;> simp_all
        have eb : (w.alloc (.cells (madeCells #[.int .u16 0] n) 57)).cell? ⟨b, o + j, none⟩ = w.cell? ⟨b, o + j, none⟩ := ((Below.refl w.heap.size w).alloc (Nat.le_refl _) _).cell hb
        rw [ea, eb, ex]
        exact hc j (by omega)) (by rw [size_madeCells, hlen]; omega) (fun u hu => by
        obtain ⟨x, _, rfl⟩ := List.mem_map.1 hu
        rfl)
    rw [hlen] at hr
    rw [hr, World.setRow_alloc_new]
    have fin : ((madeCells #[Value.int .u16 0] n).toList.take 0 ++ (lf m (co l)).map vW ++ (madeCells #[Value.int .u16 0] n).toList.drop (0 + m)) = (lf n (co l)).map vW := ?_
    · rw [fin]
    rw [made_rep, List.take_zero, List.nil_append, Nat.zero_add]
    apply List.ext_getElem?
    intro i
    by_cases hi : i < m
    · rw [List.getElem?_append_left (by rw [hlen]; exact hi), List.getElem?_map, List.getElem?_map, co_get (l := lf m (co l)) (by rw [lf_len]; exact hi), co_get (l := lf n (co l)) (by rw [lf_len]; omega), lf_co hi, lf_co (by omega)]
    · rw [List.getElem?_append_right (by rw [hlen]; omega), hlen]
      by_cases hin : i < n
      · rw [List.getElem?_map, co_get (by rw [lf_len]; exact hin), lf_co hin, hbig i (by omega) hin]
        rw [List.getElem?_drop, List.getElem?_replicate, if_pos (by omega)]; rfl
      · rw [List.getElem?_eq_none (by simp; omega), List.getElem?_eq_none (by rw [List.length_map, lf_len]; omega)]
theorem fr_lf {w : World} {n : Nat} {F : Nat → Nat} (hn : n ≤ 70368744177664) (hF : ∀ i, i < n → F i < 65536) : Fr (w.alloc (.cells ((lf n F).map vW).toArray 57)) w.heap.size (.slice (some ⟨w.heap.size, 0, none⟩) n n) (lf n F) :=
  fr_of_row (Nat.le_refl _) hn hF (rowIs_list (heap_alloc_new _ _))

set_option maxHeartbeats 2000000 in
set_option maxRecDepth 100000 in
theorem ptrim_any (v : Value) (l : List Nat) (w : World) (h : Sl w v l) :
    Calls Try.prog 38 #[v] w fun e w' => ∃ v', e = .returned v' ∧ Fr w' w.heap.size v' (tri l) ∧ Below w.heap.size w w' := by
  obtain ⟨h1, h2, a, cap, rfl, h4⟩ := h
  have hnz := nzl_le l
  go_enter Try.func38, Try.ntmps38
  go_wp2
  go_loopw [3] (fun nv wr => ∃ n : Nat, nzl l ≤ n ∧ n ≤ l.length ∧ nv = .int .i64 n ∧ wr = w) (fun nv _ => (intOf nv).toNat)
  case atStart => exact ⟨l.length, hnz, Nat.le_refl _, rfl, rfl⟩
  case round =>
    obtain ⟨n, hn1, hn2, rfl, hw⟩ := hrel
    by_cases hgo : 0 < n ∧ co l (n - 1) = 0
    · obtain ⟨b, o, rfl, hb, hc⟩ := h4 (by omega)
      obtain ⟨k, rfl⟩ : ∃ k, n = k + 1 := ⟨n - 1, by omega⟩
      have hz := hgo.2
      rw [Nat.add_sub_cancel] at hz
      have q := hc k (by omega)
      rw [← hw] at q
      have kb : ((k : Nat) : Int) < (l.length : Int) := by omega
      have hk1 : (((k + 1 : Nat) : Int) - 1) = (k : Int) := by omega
      have T0 : (((co l k : Nat) : Int) == 0) = true := by simp; omega
      have HQ : Hid (wr = w) := hw
      clear hw
      go_wp2
      go_roundw
      case rel =>
        refine ⟨k, ?_, by omega, by go_num, HQ.out⟩
        rcases Nat.lt_or_ge k (nzl l) with h9 | h9
        · have : nzl l = k + 1 := by omega
          have h8 := nzl_top (l := l) (by omega)
          rw [this] at h8
          exact absurd hz h8
        · exact h9
      case measure => simp [intOf]
    · have hN : nzl l = n := nzl_only (fun i hi => nzl_zero (by omega)) (by
        rcases Nat.eq_zero_or_pos n with h0 | h0
        · exact .inl h0
        · exact .inr (fun e => hgo ⟨h0, e⟩))
      have hmk := make_u16 n (by omega)
      subst hw
      have hcp := copy_run wr (cap := cap) (n := n) h4
      rcases Nat.eq_zero_or_pos n with h0 | h0
      · subst h0
        have hmk : ∀ w, (Instr.makeSlice 52 (.int .i64 0) (.int .i64 0)).run Try.prog w = .ok (.slice (some ⟨w.heap.size, 0, none⟩) 0 0) (w.alloc (.cells (madeCells #[.int .u16 0] 0) 57)) := make_u16 0 (by decide)
        clear hgo
        go_wp2
        go_ret
        refine ⟨_, rfl, ?_, (Below.refl _ _).alloc (Nat.le_refl _) _⟩
        rw [tri_lf hN]
        exact fr_lf (by omega) (fun i _ => co_lt h1 i)
      · obtain ⟨b, o, rfl, hb, hc⟩ := h4 (by omega)
        have q := hc (n - 1) (by omega)
        obtain ⟨k, hk⟩ : ∃ k, k = n - 1 := ⟨_, rfl⟩
        rw [← hk] at q
        have hz : co l k ≠ 0 := fun e => hgo ⟨h0, by rw [← hk]; exact e⟩
        have kb : ((k : Nat) : Int) < (l.length : Int) := by omega
        have hk1 : ((n : Int) - 1) = (k : Int) := by omega
        have T0 : (((co l k : Nat) : Int) == 0) = false := by simp; omega
        have D0 : decide ((0 : Int) < (n : Int)) = true := by simp; omega
        clear hk hgo hz h0
        go_wp2
        go_ret
        refine ⟨_, rfl, ?_, (Below.refl _ _).alloc (Nat.le_refl _) _⟩
        rw [tri_lf hN]
        exact fr_lf (by omega) (fun i _ => co_lt h1 i)
end Go.Proofs.Ytfhgamaakkoplaa
namespace Go.Proofs.Ytfhgamaakkoplaa
open Go.RowKit Gf2

set_option maxHeartbeats 1000000 in
set_option maxRecDepth 100000 in
theorem pdegree_any (v : Value) (l : List Nat) (w : World) (h : Sl w v l) :
    Calls Try.prog 55 #[v] w fun e w' => e = .returned (.int .i64 ((nzl l : Nat) - 1)) ∧ w' = w := by
  obtain ⟨h1, h2, a, cap, rfl, h4⟩ := h
  have hnz := nzl_le l
  have W0 : wrap64 ((l.length : Int) - 1) = (l.length : Int) - 1 := by unfold wrap64; omega
  go_enter Try.func55, Try.ntmps55
  go_wp2
  go_loopw [3] (fun nv wr => ∃ n : Nat, nzl l ≤ n ∧ n ≤ l.length ∧ nv = .int .i64 ((n : Int) - 1) ∧ wr = w) (fun nv _ => (intOf nv + 1).toNat)
  case atStart => exact ⟨l.length, hnz, Nat.le_refl _, rfl, rfl⟩
  case round =>
    obtain ⟨n, hn1, hn2, rfl, hw⟩ := hrel
    have HQ : Hid (wr = w) := hw
    rcases Nat.eq_zero_or_pos n with h0 | h0
    · have hN : nzl l = 0 := by omega
      subst h0
      subst hw
      clear W0
      go_wp2
      go_ret
      exact ⟨by first | rfl | (rw [hN]; rfl), rfl⟩
    · obtain ⟨b, o, rfl, hb, hc⟩ := h4 (by omega)
      obtain ⟨k, rfl⟩ : ∃ k, n = k + 1 := ⟨n - 1, by omega⟩
      have q := hc k (by omega)
      rw [← hw] at q
      have kb : ((k : Nat) : Int) < (l.length : Int) := by omega
      have hk1 : (((k + 1 : Nat) : Int) - 1) = (k : Int) := by omega
      rw [hk1]
      by_cases hz : co l k = 0
      · have T0 : (((co l k : Nat) : Int) == 0) = true := by simp; omega
        have W1 : wrap64 ((k : Int) - 1) = (k : Int) - 1 := by unfold wrap64; omega
        clear hw W0
        go_wp2
        go_roundw
        case rel =>
          refine ⟨k, ?_, by omega, rfl, HQ.out⟩
          rcases Nat.lt_or_ge k (nzl l) with h9 | h9
          · have : nzl l = k + 1 := by omega
            have h8 := nzl_top (l := l) (by omega)
            rw [this] at h8
            exact absurd hz h8
          · exact h9
        case measure => simp [intOf]
      · have T0 : (((co l k : Nat) : Int) == 0) = false := by simp; omega
        have T1 : (((co l k : Nat) : Int) != 0) = true := by simp; omega
        have hN : nzl l = k + 1 := nzl_only (fun i hi => nzl_zero (by omega)) (.inr (by rw [Nat.add_sub_cancel]; exact hz))
        subst hw
        clear W0
        go_wp2
        go_ret
        exact ⟨ret_int (by first | rfl | (rw [hN]; omega)), rfl⟩

/-- an answer: a neat list of its own, of the coefficients f. -/
def AnsP (w' : World) (B : Nat) (v : Value) (f : Nat → Nat) : Prop := ∃ L, Fr w' B v L ∧ Neat L ∧ co L = f
theorem ans_tri {w' : World} {B : Nat} {v : Value} {l : List Nat} {f : Nat → Nat} (h : Fr w' B v (tri l)) (e : co l = f) : AnsP w' B v f := ⟨tri l, h, tri_neat l, by rw [tri_co, e]⟩
theorem co_lf {n : Nat} {F : Nat → Nat} (h : Dg F n) : co (lf n F) = F := by
  funext i
  by_cases hi : i < n
  · rw [lf_co hi]
  · rw [lf_out (by omega), h i (by omega)]

end Go.Proofs.Ytfhgamaakkoplaa
