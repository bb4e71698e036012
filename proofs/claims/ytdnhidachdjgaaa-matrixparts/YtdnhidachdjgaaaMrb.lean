import Derived.Test.YtdnhidachdjgaaaMra
import Derived.Test.YtdnhidachdjgaaaMj5
namespace Go.Proofs.Ytdnhidachdjgaaa
open Go.RowKit Gf2
set_option linter.unusedVariables false

theorem rcau_facts {m k r c : Nat} (h3 : m + k ≤ 256) (hr : r < m) (hc : c < k) : ∃ x : Nat, x = (k + r) ^^^ c ∧ x < 256 ∧ bits .xor .i64 ((k : Int) + (r : Int)) (c : Int) = (x : Int) ∧ IntKind.u8.wrap (bits .xor .i64 (IntKind.i64.wrap ((k : Int) + (r : Int))) (c : Int)) = (x : Int) := by
  have h1 : k + r < 256 := by omega
  have h2 : c < 256 := by omega
  have hx : (k + r) ^^^ c < 256 := Nat.xor_lt_two_pow (n := 8) h1 h2
  have X := i64_xor_nat (k + r) c (by omega) (by omega)
  have W3 : IntKind.i64.wrap ((k : Int) + (r : Int)) = (k : Int) + (r : Int) := by rw [IntKind.wrap_i64]; omega
  rw [Int.natCast_add] at X
  exact ⟨(k + r) ^^^ c, rfl, hx, X, by rw [W3, X]; exact u8_small hx⟩
set_option maxHeartbeats 2000000 in
set_option maxRecDepth 100000 in
theorem rvander10_no (r c : Int) (w : World) (h : r < 1 ∨ 256 < r ∨ c < 1 ∨ 512 < c) :
    Calls Try.prog 44 #[.int .i64 r, .int .i64 c] w fun e w' => e = .returned (.tuple #[.slice none 0 0, .int .i64 100]) ∧ w' = w := by
  by_cases h1 : r < 1
  · clear h
    go_enter Try.func44, Try.ntmps44
    go_wp2
    go_ret2
    exact ⟨rfl, rfl⟩
  by_cases h2 : 256 < r
  · clear h
    go_enter Try.func44, Try.ntmps44
    go_wp2
    go_ret2
    exact ⟨rfl, rfl⟩
  by_cases h3 : c < 1
  · clear h
    go_enter Try.func44, Try.ntmps44
    go_wp2
    go_ret2
    exact ⟨rfl, rfl⟩
  have h4 : 512 < c := by omega
  clear h
  go_enter Try.func44, Try.ntmps44
  go_wp2
  go_ret2
  exact ⟨rfl, rfl⟩
set_option maxHeartbeats 2000000 in
set_option maxRecDepth 100000 in
theorem rvander10_yes (m k : Nat) (w : World) (h1 : 1 ≤ m) (h2 : m ≤ 256) (h3 : 1 ≤ k) (h4 : k ≤ 512) :
    Calls Try.prog 44 #[.int .i64 (m : Int), .int .i64 (k : Int)] w fun e w' => ∃ v, e = .returned (.tuple #[v, .int .i64 0]) ∧ Ans w w' v m k vdm := by
  have i1 : ¬ (m : Int) < 1 := by omega
  have i2 : ¬ (256 : Int) < (m : Int) := by omega
  have i3 : ¬ (k : Int) < 1 := by omega
  have i4 : ¬ (512 : Int) < (k : Int) := by omega
  have c4 := fun x => rzeros10 m k x (by omega) (by omega)
  have hm1 : m ≤ 1000 := by omega
  have hkk : k ≤ 1000 := by omega
  go_enter Try.func44, Try.ntmps44
  go_wp2_with (go_at_call 68; (with_reducible refine (c4 _).mono ?_); rintro e w1 ⟨rfl, hz⟩)
  clear c4 i1 i2 i3 i4
  have hC := hz.cs (by unfold big; omega) (by unfold big; omega)
  have hb1 := hz.bel
  clear hz
  generalize hB : (fun i => w.heap.size + 1 + i) = B at hC
  clear hB
  go_loopw [7] (fun i wr => ∃ r : Nat, r ≤ m ∧ i = .int .i64 r ∧ Cs w.heap.size w1.heap.size wr (.slice (some ⟨w.heap.size, 0, none⟩) m m) m (fun _ => k) (fun _ => k) B (fil vdm (fun _ _ => 0) r 0) ∧ Below w.heap.size w wr) (fun i _ => m - (intOf i).toNat)
  case atStart => exact ⟨0, Nat.zero_le _, rfl, hC.fil_start _, hb1⟩
  case round =>
    obtain ⟨r, hr, rfl, hC', hb'⟩ := hrel
    clear hC hb1
    by_cases hlt : r < m
    · have ib : ((r : Nat) : Int) < (m : Int) := Int.ofNat_lt.2 hlt
      have W1 := wrap_lt hlt hm1
      go_wp2
      go_loopw [8, 9] (fun p j wr => ∃ c : Nat, c ≤ k ∧ p = .int .u8 (vdm r c : Nat) ∧ j = .int .i64 c ∧ Cs w.heap.size w1.heap.size wr (.slice (some ⟨w.heap.size, 0, none⟩) m m) m (fun _ => k) (fun _ => k) B (fil vdm (fun _ _ => 0) r c) ∧ Below w.heap.size w wr) (fun _ j _ => k - (intOf j).toNat)
      case atStart => exact ⟨0, Nat.zero_le _, by rw [vdm_zero]; rfl, rfl, hC', hb'⟩
      case round =>
        obtain ⟨c, hc, rfl, rfl, hC2, hb2⟩ := hrel
        clear hC' hb'
        by_cases hct : c < k
        · have q1 := hC2.at_ hlt
          obtain ⟨y2, q2⟩ : ∃ y : Nat, wr.cell? ⟨B r, c, none⟩ = some (.int .u8 (y : Nat)) := ⟨_, hC2.cell_ hlt (j := c) hct⟩
          have q3 := hC2.froz hlt c
          have jb : ((c : Nat) : Int) < (k : Int) := Int.ofNat_lt.2 hct
          have W2 := wrap_lt hct hkk
          have r8 : r < 256 := Nat.lt_of_lt_of_le hlt h2
          have c5 := fun x => refMul_nat (vdm r c) r x (vdm_lt r c) r8
          rw [vdm_succ r8] at c5
          have U8 := u8_small r8
          have HC : Hid (Cs w.heap.size w1.heap.size (wr.setCell ⟨B r, c, none⟩ (.int .u8 (vdm r c : Nat))) (.slice (some ⟨w.heap.size, 0, none⟩) m m) m (fun _ => k) (fun _ => k) B (fil vdm (fun _ _ => 0) r (c + 1)) ∧ Below w.heap.size w (wr.setCell ⟨B r, c, none⟩ (.int .u8 (vdm r c : Nat)))) := ⟨hC2.fil_set hlt (vdm_lt r c), hC2.bel hb2 hlt c (.int .u8 (vdm r c : Nat))⟩
          have HX : Hid (c < k) := hct
          clear hC2 hb2 hct hc hr hlt h1 h2 h3 h4 hm1 hkk r8
          go_wp2_with (go_at_call 69; (with_reducible refine (c5 _).mono ?_); rintro e w9 ⟨rfl, hw9⟩; have hw9 := hw9.symm; subst hw9)
          go_roundw
          case rel => exact ⟨c + 1, HX.out, rfl, by first | rfl | (rw [W2]; rfl), HC.out.1, HC.out.2⟩
          case measure => first | exact meas_lt8 HX.out | (rw [W2]; exact meas_lt8 HX.out)
        · have hck : c = k := Nat.le_antisymm hc (Nat.le_of_not_lt hct)
          subst hck
          have HC : Hid (Cs w.heap.size w1.heap.size wr (.slice (some ⟨w.heap.size, 0, none⟩) m m) m (fun _ => c) (fun _ => c) B (fil vdm (fun _ _ => 0) (r + 1) 0) ∧ Below w.heap.size w wr) := ⟨hC2.fil_row, hb2⟩
          clear hC2 hb2
          go_wp2
          go_roundw
          case rel => exact ⟨r + 1, hlt, by first | rfl | (rw [W1]; rfl), HC.out.1, HC.out.2⟩
          case measure => first | exact meas_lt8 hlt | (rw [W1]; exact meas_lt8 hlt)
    · have hrm : r = m := Nat.le_antisymm hr (Nat.le_of_not_lt hlt)
      subst hrm
      go_wp2
      go_ret2
      exact ⟨_, rfl, hC'.fil_end.ans (Nat.le_refl _) hb'⟩
set_option maxHeartbeats 2000000 in
set_option maxRecDepth 100000 in
theorem rcauchy10_no (r c : Int) (w : World) (h : r < 1 ∨ c < 1 ∨ 256 < r + c) :
    Calls Try.prog 45 #[.int .i64 r, .int .i64 c] w fun e w' => e = .returned (.tuple #[.slice none 0 0, .int .i64 100]) ∧ w' = w := by
  by_cases h1 : r < 1
  · clear h
    go_enter Try.func45, Try.ntmps45
    go_wp2
    go_ret2
    exact ⟨rfl, rfl⟩
  by_cases h2 : c < 1
  · clear h
    go_enter Try.func45, Try.ntmps45
    go_wp2
    go_ret2
    exact ⟨rfl, rfl⟩
  by_cases h3 : 256 < r
  · clear h
    go_enter Try.func45, Try.ntmps45
    go_wp2
    go_ret2
    exact ⟨rfl, rfl⟩
  by_cases h4 : 256 < c
  · clear h
    go_enter Try.func45, Try.ntmps45
    go_wp2
    go_ret2
    exact ⟨rfl, rfl⟩
  have h5 : 256 < r + c := by omega
  have W : wrap64 (r + c) = r + c := by unfold wrap64; omega
  clear h
  go_enter Try.func45, Try.ntmps45
  go_wp2
  go_ret2
  exact ⟨rfl, rfl⟩
end Go.Proofs.Ytdnhidachdjgaaa
