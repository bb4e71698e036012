import Derived.Test.YtdnhidachdjgaaaMxd
namespace Go.Proofs.Ytdnhidachdjgaaa
open Go.RowKit Gf2
set_option linter.unusedVariables false

theorem wrap_256 {m k : Nat} (h2 : 1 ≤ k) (h3 : m + k ≤ 256) : wrap64 (256 - (k : Int)) = 256 - (k : Int) := by unfold wrap64; omega
theorem wrap_lt {j b : Nat} (h : j < b) (hb : b ≤ 1000) : wrap64 ((j : Int) + 1) = (j : Int) + 1 := wrap_succ8 (by unfold big; omega)
theorem add_small {a b : Nat} (h : a ≤ 256) (k : b ≤ 256) : wrap64 ((a : Int) + (b : Int)) = ((a + b : Nat) : Int) := by
  unfold wrap64
  omega

theorem cau_facts {m k r c : Nat} (h3 : m + k ≤ 256) (hr : r < m) (hc : c < k) : ∃ x : Nat, x = (k + r) ^^^ c ∧ x < 256 ∧ bits .xor .u8 ((k : Int) + (r : Int)) (c : Int) = (x : Int) ∧ wrap64 ((k : Int) + (r : Int)) = (k : Int) + (r : Int) ∧ IntKind.u8.wrap ((k : Int) + (r : Int)) = (k : Int) + (r : Int) ∧ IntKind.u8.wrap (c : Int) = (c : Int) := by
  have h1 : k + r < 256 := by omega
  have h2 : c < 256 := by omega
  have X := u8_xor_nat (k + r) c h1 h2
  have U1 := u8_small h1
  have U2 := u8_small h2
  have W3 := add_small (a := k) (b := r) (by omega) (by omega)
  rw [Int.natCast_add] at X U1 W3
  exact ⟨(k + r) ^^^ c, rfl, Nat.xor_lt_two_pow (n := 8) h1 h2, X, W3, U1, U2⟩
set_option maxHeartbeats 2000000 in
set_option maxRecDepth 100000 in
theorem cauchy10_no (r c : Int) (w : World) (hb : c ≤ 9223372036854775807) (h : r < 1 ∨ c < 1 ∨ 256 < r + c) :
    Calls Try.prog 19 #[.int .i64 r, .int .i64 c] w fun e w' => e = .returned (.tuple #[.slice none 0 0, .int .i64 100]) ∧ w' = w := by
  by_cases h1 : c < 1
  · go_enter Try.func19, Try.ntmps19
    go_wp2
    go_ret2
    exact ⟨rfl, rfl⟩
  · have W : wrap64 (256 - c) = 256 - c := by unfold wrap64; omega
    have c1 := fun x => within10_no r (256 - c) x (by omega)
    go_enter Try.func19, Try.ntmps19
    go_wp2_with (go_at_call 37; (with_reducible refine (c1 _).mono ?_); rintro e w9 ⟨rfl, hw9⟩; have hw9 := hw9.symm; subst hw9)
    go_ret2
    exact ⟨rfl, rfl⟩
set_option maxHeartbeats 2000000 in
set_option maxRecDepth 100000 in
theorem cauchy10_yes (m k : Nat) (w : World) (h1 : 1 ≤ m) (h2 : 1 ≤ k) (h3 : m + k ≤ 256) :
    Calls Try.prog 19 #[.int .i64 (m : Int), .int .i64 (k : Int)] w fun e w' => ∃ v, e = .returned (.tuple #[v, .int .i64 0]) ∧ Ans w w' v m k (cau k) := by
  have W := wrap_256 h2 h3
  have c1 := fun x => within10_yes (m : Int) (256 - (k : Int)) x (by omega) (by omega)
  have c3 := new_tab w
  have c4 := fun x => zeros10_any m k x (by omega) (by omega)
  have hk1 : ¬ (k : Int) < 1 := by omega
  have hm1 : m ≤ 1000 := by omega
  have hkk : k ≤ 1000 := by omega
  go_enter Try.func19, Try.ntmps19
  go_wp2_with (first | (go_at_call 37; ((with_reducible refine (c1 _).mono ?_); rintro e w9 ⟨rfl, hw9⟩; have hw9 := hw9.symm; subst hw9)) | (go_at_call 38; (with_reducible refine c3.mono ?_); rintro e w9 ⟨rfl, w0, hw9, hs0, ht, hb0⟩; subst hw9) | (go_at_call 39; (with_reducible refine (c4 _).mono ?_); rintro e w1 ⟨rfl, hz⟩))
  clear c1 c3 c4 W hk1
  have hz : Zr w0 w1 m k m := hz
  have hC := hz.cs (by unfold big; omega) (by unfold big; omega)
  have hb1 := hz.bel
  clear hz
  generalize hB : (fun i => w0.heap.size + 1 + i) = B at hC
  clear hB
  rw [hs0] at hC hb1
  have HT : Hid (∀ x, Below (w.heap.size + 1) w0 x → Tab8 x w.heap.size) := fun x hx => ht.of_heap (hx.block _ (by omega))
  have HB : Hid (Below w.heap.size w w0 ∧ w.heap.size ≤ w.heap.size + 1) := ⟨hb0, by omega⟩
  clear hb0 ht
  go_loopw [26] (fun i wr => ∃ r : Nat, r ≤ m ∧ i = .int .i64 r ∧ Cs (w.heap.size + 1) w1.heap.size wr (.slice (some ⟨w.heap.size + 1, 0, none⟩) m m) m (fun _ => k) (fun _ => k) B (fil (cau k) (fun _ _ => 0) r 0) ∧ Below (w.heap.size + 1) w0 wr) (fun i _ => m - (intOf i).toNat)
  case atStart => exact ⟨0, Nat.zero_le _, rfl, hC.fil_start _, hb1⟩
  case round =>
    obtain ⟨r, hr, rfl, hC', hb'⟩ := hrel
    clear hC hb1
    by_cases hlt : r < m
    · have q1 := hC'.at_ hlt
      have ib : ((r : Nat) : Int) < (m : Int) := Int.ofNat_lt.2 hlt
      have W1 := wrap_lt hlt hm1
      go_wp2
      go_loopw [33] (fun j wr => ∃ c : Nat, c ≤ k ∧ j = .int .i64 c ∧ Cs (w.heap.size + 1) w1.heap.size wr (.slice (some ⟨w.heap.size + 1, 0, none⟩) m m) m (fun _ => k) (fun _ => k) B (fil (cau k) (fun _ _ => 0) r c) ∧ Below (w.heap.size + 1) w0 wr) (fun j _ => k - (intOf j).toNat)
      case atStart => exact ⟨0, Nat.zero_le _, rfl, hC', hb'⟩
      case round =>
        obtain ⟨c, hc, rfl, hC2, hb2⟩ := hrel
        clear hC' hb' q1
        by_cases hct : c < k
        · obtain ⟨x4, ex4, lx, X, W3, U1, U2⟩ := cau_facts h3 hlt hct
          obtain ⟨y2, q2⟩ : ∃ y : Nat, wr.cell? ⟨B r, c, none⟩ = some (.int .u8 (y : Nat)) := ⟨_, hC2.cell_ hlt (j := c) hct⟩
          have q3 := hC2.froz hlt c
          have jb : ((c : Nat) : Int) < (k : Int) := Int.ofNat_lt.2 hct
          have W2 := wrap_lt hct hkk
          have ecau : cau k r c = ti x4 := by unfold cau; rw [ex4]
          have c5 : Calls Try.prog 40 #[.pointer (some ⟨w.heap.size, 0, none⟩), .int .u8 (x4 : Nat)] wr fun e w' => e = .returned (.tuple #[.int .u8 (cau k r c : Nat), .int .i64 (te x4 : Nat)]) ∧ ∃ q, w' = wr.drewN q := by rw [ecau]; exact tinv_all w.heap.size x4 wr (HT.out _ hb2) lx
          have hlx : cau k r c < 256 := by rw [ecau]; exact ti_lt lx
          have hC3 := hC2.fil_set hlt hlx
          have hb3 := hC2.bel hb2 hlt c (.int .u8 (cau k r c : Nat))
          have HC : Hid (Cs (w.heap.size + 1) w1.heap.size (wr.setCell ⟨B r, c, none⟩ (.int .u8 (cau k r c : Nat))) (.slice (some ⟨w.heap.size + 1, 0, none⟩) m m) m (fun _ => k) (fun _ => k) B (fil (cau k) (fun _ _ => 0) r (c + 1)) ∧ Below (w.heap.size + 1) w0 (wr.setCell ⟨B r, c, none⟩ (.int .u8 (cau k r c : Nat)))) := ⟨hC3, hb3⟩
          clear hC3 hb3 hlx
          have HX : Hid (c < k) := hct
          clear hC2 hb2 ecau ex4 lx hct hc hr hlt h1 h2 h3 hm1 hkk hs0 HT HB
          generalize cau k r c = x5 at c5 HC
          generalize te x4 = x6 at c5
          go_wp2_with (go_at_call 40; (with_reducible refine c5.mono ?_); rintro e w9 ⟨rfl, q9, hw9⟩; subst hw9)
          go_roundw
          case rel => exact ⟨c + 1, HX.out, by first | rfl | (rw [W2]; rfl), HC.out.1.drewN _, below_drewN HC.out.2 _⟩
          case measure => first | exact meas_lt8 HX.out | (rw [W2]; exact meas_lt8 HX.out)
        · have hck : c = k := Nat.le_antisymm hc (Nat.le_of_not_lt hct)
          subst hck
          have HC : Hid (Cs (w.heap.size + 1) w1.heap.size wr (.slice (some ⟨w.heap.size + 1, 0, none⟩) m m) m (fun _ => c) (fun _ => c) B (fil (cau c) (fun _ _ => 0) (r + 1) 0) ∧ Below (w.heap.size + 1) w0 wr) := ⟨hC2.fil_row, hb2⟩
          clear hC2 hb2
          go_wp2
          go_roundw
          case rel => exact ⟨r + 1, hlt, by first | rfl | (rw [W1]; rfl), HC.out.1, HC.out.2⟩
          case measure => first | exact meas_lt8 hlt | (rw [W1]; exact meas_lt8 hlt)
    · have hrm : r = m := Nat.le_antisymm hr (Nat.le_of_not_lt hlt)
      subst hrm
      go_wp2
      go_ret2
      exact ⟨_, rfl, hC'.fil_end.ans HB.out.2 (HB.out.1.trans (hb'.mono (Nat.le_trans HB.out.2 (Nat.le_refl _))))⟩
end Go.Proofs.Ytdnhidachdjgaaa
