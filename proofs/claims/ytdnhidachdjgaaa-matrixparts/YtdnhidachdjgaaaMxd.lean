import Derived.Test.YtdnhidachdjgaaaMxc
namespace Go.Proofs.Ytdnhidachdjgaaa
open Go.RowKit Gf2
set_option linter.unusedVariables false

/-- the cells of a Vandermonde matrix. -/
def vdm : Nat → Nat → Nat := fun r c => fp 285 r c
/-- the cells of a Cauchy matrix of k columns. -/
def cau (k : Nat) : Nat → Nat → Nat := fun r c => ti ((k + r) ^^^ c)
theorem vdm_lt (r c : Nat) : vdm r c < 256 := fld8.fp_lt r c
theorem vdm_zero (r : Nat) : vdm r 0 = 1 := fld8.fp_zero r
theorem vdm_succ {r : Nat} (h : r < 256) (c : Nat) : fm 285 (vdm r c) r = vdm r (c + 1) := (fld8.fp_succ h c).symm
theorem u8_small {r : Nat} (h : r < 256) : IntKind.u8.wrap (r : Int) = (r : Int) := by
  rw [IntKind.wrap_u8]
  omega

set_option maxHeartbeats 2000000 in
set_option maxRecDepth 100000 in
theorem vander10_no (r c : Int) (w : World) (h : r < 1 ∨ 256 < r ∨ c < 1 ∨ 512 < c) :
    Calls Try.prog 20 #[.int .i64 r, .int .i64 c] w fun e w' => e = .returned (.tuple #[.slice none 0 0, .int .i64 100]) ∧ w' = w := by
  by_cases h1 : 1 ≤ r ∧ r ≤ 256
  · have c1 := fun x => within10_yes r 256 x h1.1 h1.2
    have c2 := fun x => within10_no c 512 x (by omega)
    go_enter Try.func20, Try.ntmps20
    go_wp2_with (go_at_call 37; first | ((with_reducible refine (c1 _).mono ?_); rintro e w9 ⟨rfl, hw9⟩; have hw9 := hw9.symm; subst hw9) | ((with_reducible refine (c2 _).mono ?_); rintro e w9 ⟨rfl, hw9⟩; have hw9 := hw9.symm; subst hw9))
    go_ret2
    exact ⟨rfl, rfl⟩
  · have c1 := fun x => within10_no r 256 x (by omega)
    go_enter Try.func20, Try.ntmps20
    go_wp2_with (go_at_call 37; (with_reducible refine (c1 _).mono ?_); rintro e w9 ⟨rfl, hw9⟩; have hw9 := hw9.symm; subst hw9)
    go_ret2
    exact ⟨rfl, rfl⟩
set_option maxHeartbeats 2000000 in
set_option maxRecDepth 100000 in
theorem vander10_yes (m k : Nat) (w : World) (h1 : 1 ≤ m) (h2 : m ≤ 256) (h3 : 1 ≤ k) (h4 : k ≤ 512) :
    Calls Try.prog 20 #[.int .i64 (m : Int), .int .i64 (k : Int)] w fun e w' => ∃ v, e = .returned (.tuple #[v, .int .i64 0]) ∧ Ans w w' v m k vdm := by
  have c1 := fun x => within10_yes (m : Int) 256 x (by omega) (by omega)
  have c2 := fun x => within10_yes (k : Int) 512 x (by omega) (by omega)
  have c3 := new_tab w
  have c4 := fun x => zeros10_any m k x (by omega) (by omega)
  go_enter Try.func20, Try.ntmps20
  go_wp2_with (first | (go_at_call 37; first | ((with_reducible refine (c1 _).mono ?_); rintro e w9 ⟨rfl, hw9⟩; have hw9 := hw9.symm; subst hw9) | ((with_reducible refine (c2 _).mono ?_); rintro e w9 ⟨rfl, hw9⟩; have hw9 := hw9.symm; subst hw9)) | (go_at_call 38; (with_reducible refine c3.mono ?_); rintro e w9 ⟨rfl, w0, hw9, hs0, ht, hb0⟩; subst hw9) | (go_at_call 39; (with_reducible refine (c4 _).mono ?_); rintro e w1 ⟨rfl, hz⟩))
  clear c1 c2 c3 c4
  have hz : Zr w0 w1 m k m := hz
  have hC := hz.cs (by unfold big; omega) (by unfold big; omega)
  have hb1 := hz.bel
  clear hz
  generalize hB : (fun i => w0.heap.size + 1 + i) = B at hC
  clear hB
  rw [hs0] at hC hb1
  have HT : Hid (∀ x, Below (w.heap.size + 1) w0 x → Tab8 x w.heap.size) := fun x hx => ht.of_heap (hx.block _ (by omega))
  have HB : Hid (Below w.heap.size w w0 ∧ w.heap.size ≤ w.heap.size + 1) := ⟨hb0, by omega⟩
  clear hb0 ht
  go_loopw [26] (fun i wr => ∃ r : Nat, r ≤ m ∧ i = .int .i64 r ∧ Cs (w.heap.size + 1) w1.heap.size wr (.slice (some ⟨w.heap.size + 1, 0, none⟩) m m) m (fun _ => k) (fun _ => k) B (fil vdm (fun _ _ => 0) r 0) ∧ Below (w.heap.size + 1) w0 wr) (fun i _ => m - (intOf i).toNat)
  case atStart => exact ⟨0, Nat.zero_le _, rfl, hC.fil_start _, hb1⟩
  case round =>
    obtain ⟨r, hr, rfl, hC', hb'⟩ := hrel
    clear hC hb1
    by_cases hlt : r < m
    · have q1 := hC'.at_ hlt
      have ib : ((r : Nat) : Int) < (m : Int) := by omega
      have W1 := wrap_succ8 (j := r) (by unfold big; omega)
      go_wp2
      go_loopw [10, 33] (fun p j wr => ∃ c : Nat, c ≤ k ∧ p = .int .u8 (vdm r c : Nat) ∧ j = .int .i64 c ∧ Cs (w.heap.size + 1) w1.heap.size wr (.slice (some ⟨w.heap.size + 1, 0, none⟩) m m) m (fun _ => k) (fun _ => k) B (fil vdm (fun _ _ => 0) r c) ∧ Below (w.heap.size + 1) w0 wr) (fun _ j _ => k - (intOf j).toNat)
      case atStart => exact ⟨0, Nat.zero_le _, by rw [vdm_zero]; rfl, rfl, hC', hb'⟩
      case round =>
        obtain ⟨c, hc, rfl, rfl, hC2, hb2⟩ := hrel
        clear hC' hb' q1
        by_cases hct : c < k
        · have q2 := hC2.cell_ hlt (j := c) hct
          have q3 := hC2.froz hlt c
          have jb : ((c : Nat) : Int) < (k : Int) := by omega
          have W2 := wrap_succ8 (j := c) (by unfold big; omega)
          have hC3 := hC2.fil_set hlt (vdm_lt r c)
          have hb3 := hC2.bel hb2 hlt c (.int .u8 (vdm r c : Nat))
          have c5 : Calls Try.prog 41 #[.pointer (some ⟨w.heap.size, 0, none⟩), .int .u8 (vdm r c : Nat), .int .u8 (r : Int)] (wr.setCell ⟨B r, c, none⟩ (.int .u8 (vdm r c : Nat))) fun e w' => e = .returned (.int .u8 (vdm r (c + 1) : Nat)) ∧ ∃ q, w' = (wr.setCell ⟨B r, c, none⟩ (.int .u8 (vdm r c : Nat))).drewN q := by
            have := tmul_nat w.heap.size (vdm r c) r (wr.setCell ⟨B r, c, none⟩ (.int .u8 (vdm r c : Nat))) (HT.out _ hb3) (vdm_lt r c) (by omega)
            rw [vdm_succ (by omega)] at this
            exact this
          have U8 := u8_small (r := r) (by omega)
          have HC : Hid (Cs (w.heap.size + 1) w1.heap.size (wr.setCell ⟨B r, c, none⟩ (.int .u8 (vdm r c : Nat))) (.slice (some ⟨w.heap.size + 1, 0, none⟩) m m) m (fun _ => k) (fun _ => k) B (fil vdm (fun _ _ => 0) r (c + 1)) ∧ Below (w.heap.size + 1) w0 (wr.setCell ⟨B r, c, none⟩ (.int .u8 (vdm r c : Nat)))) := ⟨hC3, hb3⟩
          clear hC2 hb2 hC3 hb3
          go_wp2_with (go_at_call 41; (with_reducible refine c5.mono ?_); rintro e w9 ⟨rfl, q9, rfl⟩)
          go_roundw
          case rel => exact ⟨c + 1, hct, rfl, by first | rfl | (rw [W2]; rfl), HC.out.1.drewN _, below_drewN HC.out.2 _⟩
          case measure => first | exact meas_lt8 hct | (rw [W2]; exact meas_lt8 hct)
        · have hck : c = k := by omega
          subst hck
          have HC : Hid (Cs (w.heap.size + 1) w1.heap.size wr (.slice (some ⟨w.heap.size + 1, 0, none⟩) m m) m (fun _ => c) (fun _ => c) B (fil vdm (fun _ _ => 0) (r + 1) 0) ∧ Below (w.heap.size + 1) w0 wr) := ⟨hC2.fil_row, hb2⟩
          clear hC2 hb2
          go_wp2
          go_roundw
          case rel => exact ⟨r + 1, hlt, by first | rfl | (rw [W1]; rfl), HC.out.1, HC.out.2⟩
          case measure => first | exact meas_lt8 hlt | (rw [W1]; exact meas_lt8 hlt)
    · have hrm : r = m := by omega
      subst hrm
      go_wp2
      go_ret2
      exact ⟨_, rfl, hC'.fil_end.ans HB.out.2 (HB.out.1.trans (hb'.mono (Nat.le_trans HB.out.2 (Nat.le_refl _))))⟩
end Go.Proofs.Ytdnhidachdjgaaa
