import Derived.Test.YtefolifecbhgoaaGreatMbbf
import Derived.Test.YtefolifecbhgoaaGreatMbbn
import Derived.Lib.JoinLaws
namespace Go.Proofs.YtefolifecbhgoaaGreat
open Go.RowKit Gf2
set_option linter.unusedVariables false


def eN (P : Nat → Bool) (n i : Nat) : Nat := (ems P n).getD i 0
theorem emz_eN (P : Nat → Bool) (n i : Nat) : emz P n i = (eN P n i : Int) := rfl
theorem ems_mono (P : Nat → Bool) (s : Nat) : ∀ d, (ems P s).length ≤ (ems P (s + d)).length
  | 0 => Nat.le_refl _
  | d + 1 => by
    refine Nat.le_trans (ems_mono P s d) ?_
    show (ems P (s + d)).length ≤ (ems P (s + d + 1)).length
    cases e : P (s + d)
    · rw [ems_no e]; exact Nat.le_refl _
    · rw [ems_len_yes e]; exact Nat.le_succ _
theorem ems_up {P : Nat → Bool} {s n : Nat} (h : s ≤ n) : (ems P s).length ≤ (ems P n).length := by
  have := ems_mono P s (n - s)
  rw [show s + (n - s) = n by omega] at this
  exact this
theorem eN_pre (P : Nat → Bool) (s : Nat) : ∀ d i, i < (ems P s).length → eN P (s + d) i = eN P s i
  | 0, i, _ => rfl
  | d + 1, i, h => by
    rw [← eN_pre P s d i h]
    unfold eN
    show (ems P (s + d + 1)).getD i 0 = _
    have hl := ems_mono P s d
    cases e : P (s + d)
    · rw [ems_no e]
    · rw [ems_yes e, List.getD_eq_getElem?_getD, List.getD_eq_getElem?_getD, List.getElem?_append_left (by omega)]
theorem eN_at {P : Nat → Bool} {s n : Nat} (hs : s < n) (h : P s = true) : (ems P s).length < (ems P n).length ∧ eN P n (ems P s).length = s := by
  have h1 := ems_len_yes h
  have h2 := ems_up (P := P) (show s + 1 ≤ n by omega)
  refine ⟨by omega, ?_⟩
  have h3 := eN_pre P (s + 1) (n - (s + 1)) (ems P s).length (by omega)
  rw [show s + 1 + (n - (s + 1)) = n by omega] at h3
  rw [h3]
  unfold eN
  rw [ems_yes h, List.getD_eq_getElem?_getD, List.getElem?_append_right (Nat.le_refl _), Nat.sub_self]
  rfl
theorem eN_mem {P : Nat → Bool} {n i : Nat} (h : i < (ems P n).length) : eN P n i < n ∧ P (eN P n i) = true := by
  have hm : eN P n i ∈ ems P n := by
    unfold eN
    rw [List.getD_eq_getElem?_getD, List.getElem?_eq_getElem h]
    exact List.getElem_mem h
  unfold ems at hm
  rw [List.mem_filter, List.mem_range] at hm
  exact hm
theorem ems_pair (P : Nat → Bool) (n : Nat) : (ems P n).Pairwise (· < ·) := (List.pairwise_lt_range).filter P
theorem eN_lt {P : Nat → Bool} {n i j : Nat} (hij : i < j) (hj : j < (ems P n).length) : eN P n i < eN P n j := by
  have h := List.pairwise_iff_getElem.1 (ems_pair P n) i j (by omega) hj hij
  unfold eN
  rw [List.getD_eq_getElem?_getD, List.getD_eq_getElem?_getD, List.getElem?_eq_getElem (by omega), List.getElem?_eq_getElem hj]
  exact h
theorem eN_inj {P : Nat → Bool} {n i j : Nat} (hi : i < (ems P n).length) (hj : j < (ems P n).length) (h : eN P n i = eN P n j) : i = j := by
  rcases Nat.lt_trichotomy i j with e | e | e
  · have := eN_lt e hj; omega
  · exact e
  · have := eN_lt e hi; omega
theorem eN_not {P : Nat → Bool} {s n : Nat} (h : P s = false) (hl : (ems P s).length < (ems P n).length) : eN P n (ems P s).length ≠ s := fun e => by
  have := (eN_mem hl).2
  rw [e, h] at this
  cases this
theorem ems_both (P : Nat → Bool) : ∀ n, (ems P n).length + (ems (fun i => !P i) n).length = n
  | 0 => rfl
  | n + 1 => by
    have ih := ems_both P n
    cases e : P n
    · rw [ems_no e, ems_len_yes (P := fun i => !P i) (by rw [e]; rfl)]; omega
    · rw [ems_len_yes e, ems_no (P := fun i => !P i) (by rw [e]; rfl)]; omega

theorem info_l17 : (Tryz.prog.info? 27).map (fun i => (i.zero, i.size, i.bytes)) = some (some (Value.slice none 0 0), 1, 24) := by kernel_rfl
theorem make_roomI17 (n : Nat) (hn : n ≤ 1000) (w : World) : (Instr.makeSlice 40 (.int .i64 0) (.int .i64 (n : Int))).run Tryz.prog w = .ok (.slice (some ⟨w.heap.size, 0, none⟩) 0 n) (w.alloc (.cells (madeCells #[.int .i64 0] n) 3)) :=
  run_make_room (P := Tryz.prog) 40 3 (.int .i64 0) 8 Tryz.underlying40 info_int rfl .i64 .i64 n (by omega) (by omega) w
theorem make_roomL17 (n : Nat) (hn : n ≤ 1000) (w : World) : (Instr.makeSlice 33 (.int .i64 0) (.int .i64 (n : Int))).run Tryz.prog w = .ok (.slice (some ⟨w.heap.size, 0, none⟩) 0 n) (w.alloc (.cells (madeCells #[.slice none 0 0] n) 27)) :=
  run_make_room (P := Tryz.prog) 33 27 (.slice none 0 0) 24 Tryz.underlying33 info_l17 rfl .i64 .i64 n (by omega) (by omega) w
theorem gi_made17 (w : World) (n : Nat) (hn : n ≤ 1000) (S : Nat → Int) : Gi w (w.alloc (.cells (madeCells #[.int .i64 0] n) 3)) (.slice (some ⟨w.heap.size, 0, none⟩) 0 n) 0 S :=
  ⟨(Below.refl _ _).alloc (Nat.le_refl _) _, .inr ⟨w.heap.size, n, fun _ => 0, rfl, Nat.zero_le _, Nat.le_refl _, ⟨by unfold big; omega, trivial, World.rowIs_made w (.int .i64 0) n 3⟩, fun i hi => absurd hi (Nat.not_lt_zero _)⟩⟩
def Gp (lo : Nat) (W : World) (v : Value) (L : Nat) (V : Nat → Value) : Prop := ∃ g C F, v = .slice (some ⟨g, 0, none⟩) L C ∧ L ≤ C ∧ C ≤ big ∧ lo ≤ g ∧ W.rowIs g 27 C F ∧ ∀ i, i < L → F i = V i
theorem gp_made17 (w : World) (n : Nat) (hn : n ≤ 1000) (V : Nat → Value) : Gp w.heap.size (w.alloc (.cells (madeCells #[.slice none 0 0] n) 27)) (.slice (some ⟨w.heap.size, 0, none⟩) 0 n) 0 V :=
  ⟨w.heap.size, n, fun _ => .slice none 0 0, rfl, Nat.zero_le _, by unfold big; omega, Nat.le_refl _, World.rowIs_made w (.slice none 0 0) n 27, fun i hi => absurd hi (Nat.not_lt_zero _)⟩
theorem Gp.form {lo : Nat} {W : World} {v : Value} {L : Nat} {V : Nat → Value} (h : Gp lo W v L V) : ∃ a C, v = .slice a L C := by
  obtain ⟨g, C, F, e, -⟩ := h
  exact ⟨_, _, e⟩
theorem Gp.lv {lo : Nat} {W : World} {v : Value} {L : Nat} {V : Nat → Value} (h : Gp lo W v L V) {E : Nat → Prop} (hE : ∀ x, E x → x < lo) : Lv E W v L V := by
  obtain ⟨g, C, F, e, h1, h2, h3, h4, h5⟩ := h
  refine ⟨by omega, _, _, e, h1, h2, fun h0 => ⟨g, 0, rfl, ⟨h4.lt, fun x => by have := hE g x; omega⟩, fun i hi => ?_⟩⟩
  rw [Nat.zero_add, h4.cell (by omega), h5 i hi]
theorem Gp.app {lo : Nat} {W : World} {v : Value} {L : Nat} {V : Nat → Value} (h : Gp lo W v L V) (hlo : lo ≤ W.heap.size) (x : Value) (hx : x.oneCell' = true) (hL : L ≤ 1000) :
    ∃ w' v', (Builtin.append_ #[33, 33] 33 #[v, .slice (some ⟨W.heap.size, 0, none⟩) 1 1]).run Tryz.prog (W.alloc (.cells #[x] 27)) = .ok v' w' ∧ Gp lo w' v' (L + 1) (fun i => if i < L then V i else x) ∧ Below lo W w' := by
  obtain ⟨g, C, F, rfl, h1, h2, h3, h4, h5⟩ := h
  have b0 : Below W.heap.size W (W.alloc (.cells #[x] 27)) := (Below.refl _ _).alloc (Nat.le_refl _) _
  have hsz : (W.alloc (.cells #[x] 27)).heap.size = W.heap.size + 1 := by simp
  obtain ⟨w', g', C', F', hrun, k1, k2, k3, k4, k5⟩ := appv elm_l8 (W.alloc (.cells #[x] 27)) (h4.alloc (.cells #[x] 27)) h1 (x := some ⟨W.heap.size, 0, none⟩) (n := 1) (cx := 1) (S := fun _ => x) (fun _ _ => hx)
    (fun _ => ⟨_, _, rfl, fun i hi => by
      obtain rfl : i = 0 := by omega
      rw [cell_of_row _ _ _ _ _ _ (heap_alloc_new _ _)]; rfl⟩) (by omega)
  refine ⟨w', _, hrun, ?_, ?_⟩
  · refine ⟨g', C', F', rfl, k1, ?_, ?_, k2, fun i hi => ?_⟩
    · rcases k5 with ⟨-, e, -⟩ | ⟨-, e, -⟩
      · rw [e]; exact h2
      · exact e
    · rcases k5 with ⟨e, -⟩ | ⟨e, -⟩
      · rw [e]; exact h3
      · rw [e, hsz]; omega
    · show F' i = if i < L then V i else x
      by_cases hi2 : i < L
      · rw [if_pos hi2, k3 i hi2, h5 i hi2]
      · rw [if_neg hi2]
        have := k4 0 (by decide)
        rw [Nat.add_zero] at this
        rw [show i = L by omega, this]
  · rcases k5 with ⟨e, -, ho⟩ | ⟨e, -, -, hb⟩
    · refine (b0.mono hlo).trans (ho.kp.ke.below (fun x hx => by omega) (by omega))
    · exact (b0.trans (hb.mono (by omega))).mono hlo
set_option maxHeartbeats 2000000 in
set_option maxRecDepth 100000 in
theorem lost17 (n : Nat) (P : Nat → Bool) (v : Value) (w : World) (hn : n ≤ 256) (hv : Qi w v (ems P n).length (emz P n)) :
    Calls Tryz.prog 83 #[.int .i64 (n : Int), v] w fun e w' => ∃ u, e = .returned (.tuple #[u, .int .i64 0]) ∧ Gi w w' u (ems (fun i => !P i) n).length (emz (fun i => !P i) n) := by
  have hle := ems_le P n
  have hbo := ems_both P n
  have c1 := rising11_yes v n (ems P n).length (eN P n) w hv (by omega) (by omega) (fun i hi => (eN_mem hi).1) (fun i j h1 h2 => eN_lt h1 h2)
  have HV : Hid (Qi w v (ems P n).length (emz P n)) := hv
  obtain ⟨-, -, a, cap, rfl, -⟩ := hv
  obtain ⟨m, hm⟩ : ∃ m, m = n - (ems P n).length := ⟨_, rfl⟩
  obtain ⟨N, hN⟩ : ∃ N, N = (ems P n).length := ⟨_, rfl⟩
  have HN : Hid (N = (ems P n).length) := hN
  rw [← hN] at hm c1 hle HV ⊢
  have S1 : wrap64 ((n : Int) - (N : Int)) = (m : Int) := by unfold wrap64; omega
  have mk := make_roomI17 m (by omega)
  have D1 : ¬ 65536 < n := by omega
  have HG : Hid (Gi w (w.alloc (.cells (madeCells #[.int .i64 0] m) 3)) (.slice (some ⟨w.heap.size, 0, none⟩) 0 m) 0 (emz (fun i => !P i) 0)) := gi_made17 w m (by omega) _
  have HB : Hid (n ≤ 256 ∧ N ≤ n) := ⟨hn, hle⟩
  clear hn hle hm hbo hN
  go_enter Tryz.func83, Tryz.ntmps83
  go_wp2_with (go_at_call 121; (with_reducible refine c1.mono ?_); rintro e w9 ⟨rfl, hw9⟩; have hw9 := hw9.symm; subst hw9; clear c1)
  clear S1 mk D1
  go_loopw [6, 7, 25] (fun s q i wr => ∃ k : Nat, k ≤ n ∧ i = .int .i64 k ∧ q = .int .i64 ((ems P k).length : Nat) ∧ Gi w wr s (ems (fun i => !P i) k).length (emz (fun i => !P i) k)) (fun _ _ i _ => n - (intOf i).toNat)
  case atStart => exact ⟨0, Nat.zero_le _, rfl, rfl, HG.out⟩
  case round =>
    obtain ⟨k, hk, rfl, rfl, hG⟩ := hrel
    obtain ⟨sa, sC, rfl⟩ := hG.form
    clear HG
    by_cases hlt : k < n
    · have ib : ((k : Nat) : Int) < (n : Int) := by omega
      have W1 := wrap_succ8 (j := k) (by have := HB.out; unfold big; omega)
      have hle := ems_le P k
      have W2 := wrap_succ8 (j := (ems P k).length) (by have := HB.out; unfold big; omega)
      obtain ⟨q, hq⟩ : ∃ q, q = (ems P k).length := ⟨_, rfl⟩
      rw [← hq] at W2 ⊢
      have hbk := hG.1
      cases hP : P k
      · -- not named
        obtain ⟨w5, v5, hrun, hG5⟩ := app_gi hG (k : Int) (by have := HB.out; have := ems_le (fun i => !P i) k; omega)
        have hPn : (fun i => !P i) k = true := by show (!P k) = true; rw [hP]; rfl
        have HG5 : Hid (Gi w w5 v5 (ems (fun i => !P i) (k + 1)).length (emz (fun i => !P i) (k + 1))) := by
          show Gi _ _ _ _ _
          rw [ems_len_yes (P := fun i => !P i) (k := k) hPn]
          exact hG5.congr (fun i hi => emz_step (P := fun i => !P i) (k := k) hPn i (by rw [ems_len_yes (P := fun i => !P i) (k := k) hPn]; exact hi))
        have HQ : Hid (q = (ems P (k + 1)).length) := by show _ = _; rw [ems_no hP, hq]
        by_cases hql : q < N
        · have hc := (HV.out.below hbk)
          obtain ⟨-, -, a', cap', e', -, -, h6⟩ := hc
          cases e'
          obtain ⟨b, o, rfl, -, hcell⟩ := h6 (by omega)
          have q1 := hcell q hql
          have hne : emz P n q ≠ (k : Int) := by
            rw [emz_eN, hq]
            have := eN_not (n := n) hP (by rw [← hq, ← HN.out]; exact hql)
            omega
          have D2 : (emz P n q == (k : Int)) = false := by simpa using hne
          generalize emz P n q = z at q1 D2
          clear hG hG5 hcell h6 hP hPn hle hq hne hbk
          go_wp2_with (at_builtin; refine Lib.wpList_append_run _ rfl _ _ _ _ rfl _ _ rfl rfl _ _ hrun ?_)
          go_roundw
          case rel => exact ⟨k + 1, hlt, by first | rfl | (rw [W1]; rfl), by rw [← HQ.out], HG5.out⟩
          case measure => first | exact meas_lt8 hlt | (rw [W1]; exact meas_lt8 hlt)
        · clear hG hG5 hP hPn hle hq hbk
          go_wp2_with (at_builtin; refine Lib.wpList_append_run _ rfl _ _ _ _ rfl _ _ rfl rfl _ _ hrun ?_)
          go_roundw
          case rel => exact ⟨k + 1, hlt, by first | rfl | (rw [W1]; rfl), by rw [← HQ.out], HG5.out⟩
          case measure => first | exact meas_lt8 hlt | (rw [W1]; exact meas_lt8 hlt)
      · obtain ⟨e1, e2⟩ := eN_at hlt hP
        rw [← hq] at e1 e2
        rw [← HN.out] at e1
        obtain ⟨-, -, a', cap', e', -, -, h6⟩ := HV.out.below hbk
        cases e'
        obtain ⟨b, o, rfl, -, hcell⟩ := h6 (by omega)
        have q1 := hcell q e1
        rw [emz_eN, e2] at q1
        have hPn : (fun i => !P i) k = false := by show (!P k) = false; rw [hP]; rfl
        have HG5 : Hid (Gi w wr (.slice sa (ems (fun i => !P i) (k + 1)).length sC) (ems (fun i => !P i) (k + 1)).length (emz (fun i => !P i) (k + 1))) := by
          show Gi _ _ _ _ _
          have := ems_no (P := fun i => !P i) (k := k) hPn
          unfold emz at hG ⊢
          rw [this]; exact hG
        have HL : Hid ((ems (fun i => !P i) (k + 1)).length = (ems (fun i => !P i) k).length) := by show _ = _; rw [ems_no (P := fun i => !P i) (k := k) hPn]
        have HQ : Hid (q + 1 = (ems P (k + 1)).length) := by show _ = _; rw [ems_len_yes hP, hq]
        clear hG hcell h6 hP hPn hle hq hbk e2
        go_wp2
        go_roundw
        case rel => exact ⟨k + 1, hlt, by first | rfl | (rw [W1]; rfl), by first | (rw [← HQ.out]; first | rfl | (rw [W2]; rfl)) , by rw [← HL.out]; exact HG5.out⟩
        case measure => first | exact meas_lt8 hlt | (rw [W1]; exact meas_lt8 hlt)
    · have htl : ¬ ((k : Nat) : Int) < (n : Int) := fun e => hlt (Int.ofNat_lt.1 e)
      obtain rfl : k = n := by omega
      clear HV HN HB
      go_wp2
      go_ret2
      exact ⟨_, rfl, hG⟩
end Go.Proofs.YtefolifecbhgoaaGreat
namespace Go.Proofs.YtefolifecbhgoaaGreat
open Go.RowKit Gf2
set_option linter.unusedVariables false


set_option maxHeartbeats 2000000 in
set_option maxRecDepth 100000 in
theorem picked17 (v u : Value) (n N : Nat) (V : Nat → Value) (Q : Nat → Nat) (w : World) (hv : Lv (fun _ => False) w v n V) (hV : ∀ i, i < n → ∃ a l c, V i = .slice a l c) (hu : Qi w u N (fun i => (Q i : Int))) (hQ : ∀ i, i < N → Q i < n) (hN : N ≤ 256) :
    Calls Tryz.prog 45 #[v, u] w fun e w' => ∃ x, e = .returned x ∧ Gp w.heap.size w' x N (fun r => V (Q r)) ∧ Below w.heap.size w w' := by
  have mk := make_roomL17 N (by omega)
  have HG : Hid (Gp w.heap.size (w.alloc (.cells (madeCells #[.slice none 0 0] N) 27)) (.slice (some ⟨w.heap.size, 0, none⟩) 0 N) 0 (fun r => V (Q r)) ∧ Below w.heap.size w (w.alloc (.cells (madeCells #[.slice none 0 0] N) 27))) := ⟨gp_made17 w N (by omega) _, (Below.refl _ _).alloc (Nat.le_refl _) _⟩
  have HV : Hid (Lv (fun _ => False) w v n V) := hv
  have HU : Hid (Qi w u N (fun i => (Q i : Int))) := hu
  obtain ⟨-, va, vc, rfl, -⟩ := hv
  obtain ⟨-, -, ua, uc, rfl, -⟩ := hu
  have HN : Hid (N ≤ 256) := hN
  clear hN
  go_enter Tryz.func45, Tryz.ntmps45
  go_wp2
  clear mk
  go_loopw [5, 13] (fun s i wr => ∃ k : Nat, k ≤ N ∧ i = .int .i64 k ∧ Gp w.heap.size wr s k (fun r => V (Q r)) ∧ Below w.heap.size w wr) (fun _ i _ => N - (intOf i).toNat)
  case atStart => exact ⟨0, Nat.zero_le _, rfl, HG.out.1, HG.out.2⟩
  case round =>
    obtain ⟨k, hk, rfl, hG, hb⟩ := hrel
    obtain ⟨sa, sC, rfl⟩ := hG.form
    clear HG
    by_cases hlt : k < N
    · have ib : ((k : Nat) : Int) < (N : Int) := by omega
      have W1 := wrap_succ8 (j := k) (by have := HN.out; unfold big; omega)
      have hq := hQ k hlt
      obtain ⟨a0, l0, c0, e0⟩ := hV (Q k) hq
      obtain ⟨-, va', vc', e1, -, -, h6⟩ := HV.out.ke (ke_below hb _)
      cases e1
      obtain ⟨vb, vo, rfl, -, hvc⟩ := h6 (by omega)
      have q2 := hvc (Q k) hq
      obtain ⟨-, -, ua', uc', e2, -, -, h7⟩ := HU.out.below hb
      cases e2
      obtain ⟨ub, uo, rfl, -, huc⟩ := h7 (by omega)
      have q1 : wr.cell? ⟨ub, uo + k, none⟩ = some (.int .i64 ((Q k : Nat) : Int)) := huc k hlt
      rw [e0] at q2
      obtain ⟨w5, v5, hrun, hG5, hb5⟩ := hG.app hb.size (.slice a0 l0 c0) rfl (by have := HN.out; omega)
      have HG5 : Hid (Gp w.heap.size w5 v5 (k + 1) (fun r => V (Q r)) ∧ Below w.heap.size w w5) := by
        refine ⟨?_, hb.trans hb5⟩
        obtain ⟨g, C, F, h1, h2, h3, h4, h5, h6⟩ := hG5
        refine ⟨g, C, F, h1, h2, h3, h4, h5, fun i hi => (h6 i hi).trans ?_⟩
        show (if i < k then V (Q i) else _) = V (Q i)
        by_cases hi2 : i < k
        · rw [if_pos hi2]
        · rw [if_neg hi2, show i = k by omega, e0]
      have ib2 : ((Q k : Nat) : Int) < (n : Int) := by omega
      generalize Q k = qk at q1 q2 ib2 hq
      clear hG hb hG5 hb5 hvc huc h6 h7 e0
      go_wp2_with (at_builtin; refine Lib.wpList_append_run _ rfl _ _ _ _ rfl _ _ rfl rfl _ _ hrun ?_)
      go_roundw
      case rel => exact ⟨k + 1, hlt, by first | rfl | (rw [W1]; rfl), HG5.out.1, HG5.out.2⟩
      case measure => first | exact meas_lt8 hlt | (rw [W1]; exact meas_lt8 hlt)
    · have htl : ¬ ((k : Nat) : Int) < (N : Int) := fun e => hlt (Int.ofNat_lt.1 e)
      obtain rfl : k = N := by omega
      clear HV HU HN
      go_wp2
      go_ret
      exact ⟨_, rfl, hG, hb⟩
set_option maxHeartbeats 400000 in
theorem nan17 (x : Int) (w : World) : Calls Tryz.prog 125 #[.int .i64 x] w fun e w' => e = .returned (.bool false) ∧ w' = w := by
  go_enter Tryz.func125, Tryz.ntmps125
  go_wp2
  go_ret
  exact ⟨rfl, rfl⟩
set_option maxHeartbeats 400000 in
theorem snan17 (x : Int) (w : World) : Calls Tryz.prog 87 #[.int .i64 x] w fun e w' => e = .returned (.bool false) ∧ w' = w := by
  go_enter Tryz.func87, Tryz.ntmps87
  go_wp2
  go_ret
  exact ⟨rfl, rfl⟩
set_option maxHeartbeats 400000 in
theorem less17 (x y : Int) (w : World) : Calls Tryz.prog 86 #[.int .i64 x, .int .i64 y] w fun e w' => e = .returned (.bool (decide (x < y))) ∧ w' = w := by
  have c1 := fun x w => nan17 x w
  by_cases h : x < y
  · have d : decide (x < y) = true := by simpa using h
    rw [d]
    go_enter Tryz.func86, Tryz.ntmps86
    go_wp2_with (go_at_call 125; (with_reducible refine (c1 _ _).mono ?_); rintro e w9 ⟨rfl, hw9⟩; have hw9 := hw9.symm; subst hw9)
    go_ret
    exact ⟨rfl, rfl⟩
  · have d : decide (x < y) = false := by simpa using h
    rw [d]
    go_enter Tryz.func86, Tryz.ntmps86
    go_wp2_with (go_at_call 125; (with_reducible refine (c1 _ _).mono ?_); rintro e w9 ⟨rfl, hw9⟩; have hw9 := hw9.symm; subst hw9)
    go_ret
    exact ⟨rfl, rfl⟩
structure Bs17 (N i T : Nat) (Q : Nat → Nat) : Prop where
  le : i ≤ N
  lo : ∀ a, a < i → Q a < T
  hi : ∀ a, i ≤ a → a < N → T ≤ Q a
theorem Bs17.ems {P : Nat → Bool} {n i T : Nat} (h : Bs17 (ems P n).length i T (eN P n)) (hT : T ≤ n) : i = (ems P T).length := by
  have hu := ems_up (P := P) hT
  rcases Nat.lt_trichotomy i (Go.Proofs.YtefolifecbhgoaaGreat.ems P T).length with e | e | e
  · have h1 := h.hi i (Nat.le_refl _) (by omega)
    have h2 := eN_pre P T (n - T) i e
    rw [show T + (n - T) = n by omega] at h2
    have h3 := (eN_mem e).1
    omega
  · exact e
  · have h1 := h.lo (Go.Proofs.YtefolifecbhgoaaGreat.ems P T).length e
    have h2 := h.le
    have h3 := (eN_mem (P := P) (n := n) (i := (Go.Proofs.YtefolifecbhgoaaGreat.ems P T).length) (by omega)).2
    have h4 := (eN_at h1 h3).1
    have h5 := eN_at (n := n) (by omega) h3
    have h6 := eN_inj (P := P) (n := n) h5.1 (by omega) h5.2
    omega
def BsP17 (w w' : World) (e : Ending) (N T : Nat) (Q : Nat → Nat) : Prop := ∃ (i : Nat) (bo : Bool), e = .returned (.tuple #[.int .i64 (i : Nat), .bool bo]) ∧ Bs17 N i T Q ∧ w' = w
theorem half17 {i j h : Nat} (hlt : i < j) (hj : j ≤ 256) (hh : h = (i + j) / 2) : ∃ s : Nat, wrap64 ((i : Int) + (j : Int)) = (s : Int) ∧ wrap64 (IntKind.u64.wrap (s : Int) / 2) = (h : Int) := by
  refine ⟨i + j, by unfold wrap64; omega, ?_⟩
  have e : IntKind.u64.wrap ((i + j : Nat) : Int) = ((i + j : Nat) : Int) := by
    rw [IntKind.wrap_u64]; omega
  rw [e]
  unfold wrap64
  omega
set_option maxHeartbeats 2000000 in
set_option maxRecDepth 100000 in
theorem bsearch17 (u : Value) (N T : Nat) (Q : Nat → Nat) (w : World) (hu : Qi w u N (fun i => (Q i : Int))) (hN : N ≤ 256) (up : ∀ i j, i < j → j < N → Q i < Q j) :
    Calls Tryz.prog 44 #[u, .int .i64 (T : Int)] w fun e w' => BsP17 w w' e N T Q := by
  have c1 := fun x w => snan17 x w
  have c2 := fun x y w => less17 x y w
  obtain ⟨-, -, a, cap, rfl, -, -, h6⟩ := hu
  go_enter Tryz.func44, Tryz.ntmps44
  go_wp2
  have HN : Hid (N ≤ 256) := hN
  clear hN
  go_loopw [7, 8] (fun x y wr => ∃ i j : Nat, i ≤ j ∧ j ≤ N ∧ x = .int .i64 i ∧ y = .int .i64 j ∧ (∀ a, a < i → Q a < T) ∧ (∀ a, j ≤ a → a < N → T ≤ Q a) ∧ wr = w) (fun x y _ => (intOf y).toNat - (intOf x).toNat)
  case atStart => exact ⟨0, N, Nat.zero_le _, Nat.le_refl _, rfl, rfl, fun a ha => absurd ha (Nat.not_lt_zero _), fun a h1 h2 => absurd h1 (by omega), rfl⟩
  case round =>
    obtain ⟨i, j, hij, hjN, rfl, rfl, hlo, hhi, rfl⟩ := hrel
    by_cases hlt : i < j
    · obtain ⟨h, hh⟩ : ∃ h, h = (i + j) / 2 := ⟨_, rfl⟩
      have hhN : h < N := by omega
      obtain ⟨b, o, rfl, -, hcell⟩ := h6 (by omega)
      have q1 := hcell h hhN
      have ih : ((h : Nat) : Int) < (N : Int) := by omega
      have c3 := c2 (Q h : Int) (T : Int) wr
      have hm1 : j - (h + 1) < j - i := by omega
      have hm2 : h - i < j - i := by omega
      have W2 := wrap_succ8 (j := h) (by have := HN.out; unfold big; omega)
      by_cases hq : Q h < T
      · have d : decide (((Q h : Nat) : Int) < (T : Int)) = true := by simpa using hq
        rw [d] at c3
        have HR : Hid (h + 1 ≤ j ∧ j ≤ N ∧ (∀ a, a < h + 1 → Q a < T) ∧ (∀ a, j ≤ a → a < N → T ≤ Q a)) := ⟨by omega, hjN, fun a ha => by
          rcases Nat.lt_or_ge a h with e | e
          · exact Nat.lt_trans (up a h e hhN) hq
          · rw [show a = h by omega]; exact hq, hhi⟩
        obtain ⟨s0, W0, W1⟩ := half17 hlt (by have := HN.out; omega) hh
        generalize Q h = qh at q1 c3
        clear hcell h6 c1 c2 hlo hhi d hh hhN hq hij hjN up
        go_wp2_with (go_at_call 86; (with_reducible refine c3.mono ?_); rintro e w9 ⟨rfl, hw9⟩; have hw9 := hw9.symm; subst hw9; clear c3)
        go_roundw
        case rel => exact ⟨h + 1, j, HR.out.1, HR.out.2.1, by first | rfl | (rw [W2]; rfl), rfl, HR.out.2.2.1, HR.out.2.2.2, by trivial⟩
        case measure => first | exact hm1 | (rw [W2]; exact hm1)
      · have d : decide (((Q h : Nat) : Int) < (T : Int)) = false := by simpa using hq
        rw [d] at c3
        have HR : Hid (i ≤ h ∧ h ≤ N ∧ (∀ a, a < i → Q a < T) ∧ (∀ a, h ≤ a → a < N → T ≤ Q a)) := ⟨by omega, by omega, hlo, fun a h1 h2 => by
          rcases Nat.lt_or_ge h a with e | e
          · have := up h a e h2; omega
          · rw [show a = h by omega]; omega⟩
        obtain ⟨s0, W0, W1⟩ := half17 hlt (by have := HN.out; omega) hh
        generalize Q h = qh at q1 c3
        clear hcell h6 c1 c2 hlo hhi d hh hhN hq hij hjN up
        go_wp2_with (go_at_call 86; (with_reducible refine c3.mono ?_); rintro e w9 ⟨rfl, hw9⟩; have hw9 := hw9.symm; subst hw9; clear c3)
        go_roundw
        case rel => exact ⟨i, h, HR.out.1, HR.out.2.1, rfl, by first | rfl | (rw [W1]), HR.out.2.2.1, HR.out.2.2.2, by trivial⟩
        case measure => first | exact hm2 | (rw [W1]; exact hm2)
    · obtain rfl : i = j := by omega
      have HB : Hid (Bs17 N i T Q) := ⟨hjN, hlo, hhi⟩
      by_cases hiN : i < N
      · obtain ⟨b, o, rfl, -, hcell⟩ := h6 (by omega)
        have q1 := hcell i hiN
        have ib : ((i : Nat) : Int) < (N : Int) := by omega
        by_cases hq : Q i = T
        · have d : (((Q i : Nat) : Int) == (T : Int)) = true := by rw [hq]; simp
          generalize Q i = qi at q1 d
          clear hcell h6 c2 hlo hhi hq up hlt
          go_wp2_with (go_at_call 87; (with_reducible refine (c1 _ _).mono ?_); rintro e w9 ⟨rfl, hw9⟩; have hw9 := hw9.symm; subst hw9)
          go_ret2
          exact ⟨i, _, rfl, HB.out, rfl⟩
        · have d : (((Q i : Nat) : Int) == (T : Int)) = false := by
            have : ((Q i : Nat) : Int) ≠ (T : Int) := by omega
            simpa using this
          generalize Q i = qi at q1 d
          clear hcell h6 c2 hlo hhi hq up hlt
          go_wp2_with (go_at_call 87; (with_reducible refine (c1 _ _).mono ?_); rintro e w9 ⟨rfl, hw9⟩; have hw9 := hw9.symm; subst hw9)
          go_ret2
          exact ⟨i, _, rfl, HB.out, rfl⟩
      · have ib : ¬ ((i : Nat) : Int) < (N : Int) := by omega
        clear h6 c2 hlo hhi up hlt
        go_wp2_with (go_at_call 87; (with_reducible refine (c1 _ _).mono ?_); rintro e w9 ⟨rfl, hw9⟩; have hw9 := hw9.symm; subst hw9)
        go_ret2
        exact ⟨i, _, rfl, HB.out, rfl⟩
end Go.Proofs.YtefolifecbhgoaaGreat
