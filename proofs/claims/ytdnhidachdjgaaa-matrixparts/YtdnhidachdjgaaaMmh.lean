import Derived.Test.YtdnhidachdjgaaaMmg
namespace Go.Proofs.Ytdnhidachdjgaaa
open Go.RowKit Gf2
set_option linter.unusedVariables false

-- layer 10: the document's Mul
/-- the product, cell by cell, of the cell at hand the first i terms. -/
def mcell (n : Nat) (S T : Nat → Nat → Nat) (r c i : Nat) : Nat → Nat → Nat := fun x y => if x = r ∧ y = c then mm i S T r c else fil (mm n S T) (fun _ _ => 0) r c x y
theorem mcell_zero (n : Nat) (S T : Nat → Nat → Nat) (r c x y : Nat) : fil (mm n S T) (fun _ _ => 0) r c x y = mcell n S T r c 0 x y := by
  unfold mcell
  by_cases e : x = r ∧ y = c
  · rw [if_pos e]
    unfold fil
    rw [if_neg (by omega)]
    rfl
  · rw [if_neg e]
theorem mcell_step (n : Nat) (S T : Nat → Nat → Nat) (r c i x y : Nat) : st2 (mcell n S T r c i) r c (mm i S T r c ^^^ fm 285 (S r i) (T i c)) x y = mcell n S T r c (i + 1) x y := by
  unfold st2 mcell
  by_cases e : x = r ∧ y = c
  · rw [if_pos e, if_pos e]; rfl
  · rw [if_neg e, if_neg e, if_neg e]
theorem mcell_done (n : Nat) (S T : Nat → Nat → Nat) (r c x y : Nat) : mcell n S T r c n x y = fil (mm n S T) (fun _ _ => 0) r (c + 1) x y := by
  unfold mcell fil
  by_cases e : x = r ∧ y = c
  · rw [if_pos e, if_pos (by omega), e.1, e.2]
  · rw [if_neg e]
    by_cases e2 : x < r ∨ x = r ∧ y < c
    · rw [if_pos e2, if_pos (by omega)]
    · rw [if_neg e2, if_neg (by omega)]
set_option maxHeartbeats 4000000 in
set_option maxRecDepth 100000 in
theorem rmul10_yes (u v : Value) (m n k : Nat) (S T : Nat → Nat → Nat) (w : World) (hu : Lb w u m (fun _ => n) S) (hv : Lb w v n (fun _ => k) T) (hm : 1 ≤ m) (hm2 : m ≤ 256) (hn : 1 ≤ n) (hn2 : n ≤ 256) (hk : 1 ≤ k) (hk2 : k ≤ 512) :
    Calls Try.prog 46 #[u, v] w fun e w' => ∃ x, e = .returned (.tuple #[x, .int .i64 0]) ∧ Ans w w' x m k (mm n S T) := by
  have c1 : Calls Try.prog 42 #[u] w fun e w1 => e = .returned (.int .i64 0) ∧ Calls Try.prog 42 #[v] w1 fun e w2 => e = .returned (.int .i64 0) ∧ Below w.heap.size w w2 :=
    (rcheck10_b u m _ S w hu 0 (.inl ⟨rfl, fm_n hm hm2 hn (by omega)⟩)).mono fun e w1 ⟨he, b1⟩ => ⟨he, (rcheck10_b v n _ T w1 (Lb.below hv b1) 0 (.inl ⟨rfl, fm_n hn hn2 hk hk2⟩)).mono fun e w2 ⟨he, b2⟩ => ⟨he, bthen10 b1 b2⟩⟩
  have c4 := fun x => rzeros10 m k x (by omega) (by omega)
  obtain ⟨b, o, cap, X, CX, rfl, hU⟩ := rows10f hu hm
  obtain ⟨b', o', cap', Y, CY, rfl, hV⟩ := rows10f hv hn
  have i0 : (0 : Int) < (m : Int) := Int.ofNat_lt.2 hm
  have i1 : (0 : Int) < (n : Int) := Int.ofNat_lt.2 hn
  have HK : Hid (m ≤ 1000 ∧ n ≤ 1000 ∧ m ≤ big ∧ k ≤ big ∧ 0 < m ∧ 0 < n ∧ k ≤ 1000) := ⟨by omega, by omega, by unfold big; omega, by unfold big; omega, hm, hn, by omega⟩
  have HU : Hid _ := hU
  have HV : Hid _ := hV
  clear hu hv hm hm2 hn hn2 hk hk2 hU hV
  go_enter Try.func46, Try.ntmps46
  go_wp2_with (first
    | (go_at_call 42; first | ((with_reducible refine c1.mono ?_); rintro e w1 ⟨rfl, c2⟩; clear c1) | ((with_reducible refine c2.mono ?_); rintro e w9 ⟨rfl, b9⟩; obtain ⟨z0, -⟩ := HU.out w9 b9 0 HK.out.2.2.2.2.1; obtain ⟨z1, -⟩ := HV.out w9 b9 0 HK.out.2.2.2.2.2.1; rw [Nat.add_zero] at z0 z1; have H9 : Hid (Below w.heap.size w w9) := b9; clear c2 b9))
    | (go_at_call 68; (with_reducible refine (c4 _).mono ?_); rintro e w1 ⟨rfl, hz⟩; clear c4))
  have hC := hz.cs HK.out.2.2.1 HK.out.2.2.2.1
  have hb1 := hz.bel
  clear hz z0 z1
  generalize hB : (fun i => w9.heap.size + 1 + i) = B at hC
  clear hB
  go_loopw [7] (fun i wr => ∃ r : Nat, r ≤ m ∧ i = .int .i64 r ∧ Cs w9.heap.size w1.heap.size wr (.slice (some ⟨w9.heap.size, 0, none⟩) m m) m (fun _ => k) (fun _ => k) B (fil (mm n S T) (fun _ _ => 0) r 0) ∧ Below w9.heap.size w9 wr) (fun i _ => m - (intOf i).toNat)
  case atStart => exact ⟨0, Nat.zero_le _, rfl, hC.fil_start _, hb1⟩
  case round =>
    obtain ⟨r, hr, rfl, hC', hb'⟩ := hrel
    clear hC hb1
    by_cases hlt : r < m
    · have ib : ((r : Nat) : Int) < (m : Int) := Int.ofNat_lt.2 hlt
      have W1 := wrap_lt8 hlt HK.out.1
      have HX : Hid (r < m) := hlt
      clear hr hlt
      go_wp2
      go_loopw [8] (fun j wr2 => ∃ c : Nat, c ≤ k ∧ j = .int .i64 c ∧ Cs w9.heap.size w1.heap.size wr2 (.slice (some ⟨w9.heap.size, 0, none⟩) m m) m (fun _ => k) (fun _ => k) B (fil (mm n S T) (fun _ _ => 0) r c) ∧ Below w9.heap.size w9 wr2) (fun j _ => k - (intOf j).toNat)
      case atStart => exact ⟨0, Nat.zero_le _, rfl, hC', hb'⟩
      case round =>
        obtain ⟨c, hc, rfl, hC2, hb2⟩ := hrel
        clear hC' hb'
        obtain ⟨z1, -⟩ := HV.out wr (bthen10 H9.out hb2) 0 HK.out.2.2.2.2.2.1
        rw [Nat.add_zero] at z1
        by_cases hct : c < k
        · have jb : ((c : Nat) : Int) < (k : Int) := Int.ofNat_lt.2 hct
          have W2 := wrap_lt8 hct HK.out.2.2.2.2.2.2
          have HY : Hid (c < k) := hct
          have HS : Hid (Cs w9.heap.size w1.heap.size wr (.slice (some ⟨w9.heap.size, 0, none⟩) m m) m (fun _ => k) (fun _ => k) B (mcell n S T r c 0) ∧ Below w9.heap.size w9 wr) := ⟨hC2.congr (fun x _ y _ => mcell_zero n S T r c x y), hb2⟩
          clear hc hct hC2 hb2
          go_wp2
          clear z1
          go_loopw [9] (fun tv wr3 => ∃ i : Nat, i ≤ n ∧ tv = .int .i64 i ∧ Cs w9.heap.size w1.heap.size wr3 (.slice (some ⟨w9.heap.size, 0, none⟩) m m) m (fun _ => k) (fun _ => k) B (mcell n S T r c i) ∧ Below w9.heap.size w9 wr3) (fun tv _ => n - (intOf tv).toNat)
          case atStart => exact ⟨0, Nat.zero_le _, rfl, HS.out.1, HS.out.2⟩
          case round =>
            obtain ⟨i, hi, rfl, hC3, hb3⟩ := hrel
            clear HS
            by_cases hit : i < n
            · obtain ⟨q1, hfa⟩ := HU.out wr (bthen10 H9.out hb3) r HX.out
              obtain ⟨la, hfa⟩ := hfa _ (Nat.le_refl _)
              obtain ⟨bx, ox, eX, -, hbl, hca⟩ := hfa (Nat.lt_of_le_of_lt (Nat.zero_le _) hit)
              have q3 := hca i hit
              obtain ⟨q6, hfb⟩ := HV.out wr (bthen10 H9.out hb3) i hit
              obtain ⟨lb, hfb⟩ := hfb _ (Nat.le_refl _)
              obtain ⟨by', oy, eY, -, hbl', hcb⟩ := hfb (Nat.lt_of_le_of_lt (Nat.zero_le _) HY.out)
              have q7 := hcb c HY.out
              have q2 := hC3.at_ HX.out
              have q4 := hC3.cell_ HX.out (j := c) HY.out
              have q5 := hC3.froz HX.out c
              have em : mcell n S T r c i r c = mm i S T r c := if_pos ⟨rfl, rfl⟩
              rw [em] at q4
              have tb : ((i : Nat) : Int) < (n : Int) := Int.ofNat_lt.2 hit
              have ib2 : ((r : Nat) : Int) < (m : Int) := Int.ofNat_lt.2 HX.out
              have jb2 : ((c : Nat) : Int) < (k : Int) := Int.ofNat_lt.2 HY.out
              have W3 := wrap_lt8 hit HK.out.2.1
              have c5 := fun x => refMul_nat (S r i) (T i c) x (la i hit) (lb c HY.out)
              have lx := mm_lt i S T r c
              have lf : fm 285 (S r i) (T i c) < 256 := fld8.fm_lt _ _
              have X1 := u8_xor_nat (mm i S T r c) (fm 285 (S r i) (T i c)) lx lf
              have HE : Hid (Cs w9.heap.size w1.heap.size (wr.setCell ⟨B r, c, none⟩ (.int .u8 ((mm i S T r c ^^^ fm 285 (S r i) (T i c) : Nat) : Int))) (.slice (some ⟨w9.heap.size, 0, none⟩) m m) m (fun _ => k) (fun _ => k) B (mcell n S T r c (i + 1)) ∧ Below w9.heap.size w9 (wr.setCell ⟨B r, c, none⟩ (.int .u8 ((mm i S T r c ^^^ fm 285 (S r i) (T i c) : Nat) : Int)))) := ⟨(hC3.set HX.out c _ (Nat.xor_lt_two_pow (n := 8) lx lf)).congr (fun x _ y _ => mcell_step n S T r c i x y), hC3.bel hb3 HX.out c _⟩
              have HI : Hid (i < n) := hit
              rw [eX] at q1
              rw [eY] at q6
              generalize fm 285 (S r i) (T i c) = P0 at c5 X1 HE
              generalize mm i S T r c = M0 at q4 X1 HE
              generalize S r i = A0 at q3 c5
              generalize T i c = B0 at q7 c5
              clear hC3 hb3 hfa hca hbl la hit hi eX hfb hcb hbl' lb eY em lx lf
              go_wp2
              refine region_tail8 29 (by kernel_rfl) (by kernel_rfl) ?_
              simp only [List.take_succ_cons, List.take_zero, List.drop_succ_cons, List.drop_zero]
              repeat still_step
              still_call (c5 _)
              repeat still_step
              refine wpStill_nil ?_
              go_wp2
              go_roundw
              case rel => exact ⟨i + 1, HI.out, by first | rfl | (rw [W3]; rfl), HE.out.1.drewN 1, below_drewM HE.out.2 1⟩
              case measure => first | exact meas_lt8 HI.out | (rw [W3]; exact meas_lt8 HI.out)
            · have hin : n = i := Nat.le_antisymm (Nat.le_of_not_lt hit) hi
              subst hin
              have tb : ¬ ((n : Nat) : Int) < (n : Int) := Int.lt_irrefl _
              have HC : Hid (Cs w9.heap.size w1.heap.size wr (.slice (some ⟨w9.heap.size, 0, none⟩) m m) m (fun _ => k) (fun _ => k) B (fil (mm n S T) (fun _ _ => 0) r (c + 1)) ∧ Below w9.heap.size w9 wr) := ⟨hC3.congr (fun x _ y _ => mcell_done n S T r c x y), hb3⟩
              clear hC3 hb3 hi hit
              go_wp2
              go_roundw
              case rel => exact ⟨c + 1, HY.out, by first | rfl | (rw [W2]; rfl), HC.out.1, HC.out.2⟩
              case measure => first | exact meas_lt8 HY.out | (rw [W2]; exact meas_lt8 HY.out)
        · have hcn : c = k := Nat.le_antisymm hc (Nat.le_of_not_lt hct)
          subst hcn
          have HC : Hid (Cs w9.heap.size w1.heap.size wr (.slice (some ⟨w9.heap.size, 0, none⟩) m m) m (fun _ => c) (fun _ => c) B (fil (mm n S T) (fun _ _ => 0) (r + 1) 0) ∧ Below w9.heap.size w9 wr) := ⟨hC2.fil_row, hb2⟩
          have jb : ¬ ((c : Nat) : Int) < (c : Int) := Int.lt_irrefl _
          clear hC2 hb2 hc hct
          go_wp2
          go_roundw
          case rel => exact ⟨r + 1, HX.out, by first | rfl | (rw [W1]; rfl), HC.out.1, HC.out.2⟩
          case measure => first | exact meas_lt8 HX.out | (rw [W1]; exact meas_lt8 HX.out)
    · have hrm : r = m := Nat.le_antisymm hr (Nat.le_of_not_lt hlt)
      subst hrm
      have ib : ¬ ((r : Nat) : Int) < (r : Int) := Int.lt_irrefl _
      go_wp2
      go_ret2
      exact ⟨_, rfl, (hC'.fil_end.ans (Nat.le_refl _) hb').after H9.out⟩
end Go.Proofs.Ytdnhidachdjgaaa
