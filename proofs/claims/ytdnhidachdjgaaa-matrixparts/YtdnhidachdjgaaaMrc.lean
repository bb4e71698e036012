import Derived.Test.YtdnhidachdjgaaaMrb
import Derived.Test.YtdnhidachdjgaaaMj5
namespace Go.Proofs.Ytdnhidachdjgaaa
open Go.RowKit Gf2
set_option linter.unusedVariables false

set_option maxHeartbeats 2000000 in
set_option maxRecDepth 100000 in
theorem rcauchy10_yes (m k : Nat) (w : World) (h1 : 1 ≤ m) (h2 : 1 ≤ k) (h3 : m + k ≤ 256) :
    Calls Try.prog 45 #[.int .i64 (m : Int), .int .i64 (k : Int)] w fun e w' => ∃ v, e = .returned (.tuple #[v, .int .i64 0]) ∧ Ans w w' v m k (cau k) := by
  have i1 : ¬ (m : Int) < 1 := by omega
  have i2 : ¬ (256 : Int) < (m : Int) := by omega
  have i3 : ¬ (k : Int) < 1 := by omega
  have i4 : ¬ (256 : Int) < (k : Int) := by omega
  have i5 : ¬ (256 : Int) < (m : Int) + (k : Int) := by omega
  have W : wrap64 ((m : Int) + (k : Int)) = (m : Int) + (k : Int) := by unfold wrap64; omega
  have c4 := fun x => rzeros10 m k x (by omega) (by omega)
  have hm1 : m ≤ 1000 := by omega
  have hkk : k ≤ 1000 := by omega
  go_enter Try.func45, Try.ntmps45
  go_wp2_with (go_at_call 68; (with_reducible refine (c4 _).mono ?_); rintro e w1 ⟨rfl, hz⟩)
  clear c4 i1 i2 i3 i4 i5 W
  have hC := hz.cs (by unfold big; omega) (by unfold big; omega)
  have hb1 := hz.bel
  clear hz
  generalize hB : (fun i => w.heap.size + 1 + i) = B at hC
  clear hB
  go_loopw [7] (fun i wr => ∃ r : Nat, r ≤ m ∧ i = .int .i64 r ∧ Cs w.heap.size w1.heap.size wr (.slice (some ⟨w.heap.size, 0, none⟩) m m) m (fun _ => k) (fun _ => k) B (fil (cau k) (fun _ _ => 0) r 0) ∧ Below w.heap.size w wr) (fun i _ => m - (intOf i).toNat)
  case atStart => exact ⟨0, Nat.zero_le _, rfl, hC.fil_start _, hb1⟩
  case round =>
    obtain ⟨r, hr, rfl, hC', hb'⟩ := hrel
    clear hC hb1
    by_cases hlt : r < m
    · have ib : ((r : Nat) : Int) < (m : Int) := Int.ofNat_lt.2 hlt
      have W1 := wrap_lt hlt hm1
      go_wp2
      go_loopw [8] (fun j wr => ∃ c : Nat, c ≤ k ∧ j = .int .i64 c ∧ Cs w.heap.size w1.heap.size wr (.slice (some ⟨w.heap.size, 0, none⟩) m m) m (fun _ => k) (fun _ => k) B (fil (cau k) (fun _ _ => 0) r c) ∧ Below w.heap.size w wr) (fun j _ => k - (intOf j).toNat)
      case atStart => exact ⟨0, Nat.zero_le _, rfl, hC', hb'⟩
      case round =>
        obtain ⟨c, hc, rfl, hC2, hb2⟩ := hrel
        clear hC' hb'
        by_cases hct : c < k
        · obtain ⟨x4, ex4, lx, X, E4⟩ := rcau_facts h3 hlt hct
          have q1 := hC2.at_ hlt
          obtain ⟨y2, q2⟩ : ∃ y : Nat, wr.cell? ⟨B r, c, none⟩ = some (.int .u8 (y : Nat)) := ⟨_, hC2.cell_ hlt (j := c) hct⟩
          have q3 := hC2.froz hlt c
          have jb : ((c : Nat) : Int) < (k : Int) := Int.ofNat_lt.2 hct
          have W2 := wrap_lt hct hkk
          have ecau : cau k r c = ti x4 := by unfold cau; rw [ex4]
          have c5 := fun x => refInv_nat x4 x lx
          rw [← ecau] at c5
          have c5 : ∀ x, Calls Try.prog 70 #[.int .u8 (IntKind.u8.wrap (bits .xor .i64 (IntKind.i64.wrap ((k : Int) + (r : Int))) (c : Int)))] x fun e w' => e = .returned (.tuple #[.int .u8 (cau k r c : Nat), .int .i64 (te x4 : Nat)]) ∧ w' = x := fun x => by rw [E4]; exact c5 x
          have hlx : cau k r c < 256 := by rw [ecau]; exact ti_lt lx
          have HC : Hid (Cs w.heap.size w1.heap.size (wr.setCell ⟨B r, c, none⟩ (.int .u8 (cau k r c : Nat))) (.slice (some ⟨w.heap.size, 0, none⟩) m m) m (fun _ => k) (fun _ => k) B (fil (cau k) (fun _ _ => 0) r (c + 1)) ∧ Below w.heap.size w (wr.setCell ⟨B r, c, none⟩ (.int .u8 (cau k r c : Nat)))) := ⟨hC2.fil_set hlt hlx, hC2.bel hb2 hlt c (.int .u8 (cau k r c : Nat))⟩
          have HX : Hid (c < k) := hct
          clear hC2 hb2 hct hc hr hlt h1 h2 h3 hm1 hkk ecau ex4 lx hlx X E4
          generalize cau k r c = x5 at c5 HC
          generalize te x4 = x6 at c5
          go_wp2
          refine region_planX (fun w' => w'.cell? ⟨w.heap.size, r, none⟩ = some (.slice (some ⟨B r, 0, none⟩) k k)) 15 [14] [11, 3] 59 q1 (by kernel_rfl) (by kernel_rfl) (fun _ a d v _ h => by cases d <;> exact h) ?_
          refine planT_step ?A1x0 rfl (fun w' hS => ?s1x0) rfl (fun K hK => ?n1x0)
          case s1x0 =>
            simp only [List.take_succ_cons, List.take_zero]
            repeat still_step
            exact rfl
          case n1x0 =>
          go_simp
          go_wp2_with (go_at_call 70; ((with_reducible refine (c5 _).mono ?_); rintro e w9 ⟨rfl, hw9⟩; have hw9 := hw9.symm; subst hw9))
          refine hK _ _ q1 ?_
          clear hK K c5
          refine planT_last ?A2x0 rfl (fun w' hS => ?s2x0) rfl ?n2x0
          case s2x0 =>
            simp only [List.take_succ_cons, List.take_zero]
            repeat still_step
            exact rfl
          case n2x0 =>
          simp only [List.drop_succ_cons, List.drop_zero]
          go_wp2
          go_roundw
          case rel => first | exact ⟨c + 1, HX.out, by first | rfl | (rw [W2]; rfl), HC.out.1.drewN 1, below_drewN HC.out.2 1⟩ | (rw [W2]; (repeat apply Exists.intro); exact ⟨⟨c + 1, HX.out, rfl, HC.out.1.drewN 1, below_drewN HC.out.2 1⟩, rfl⟩)
          case measure => first | exact meas_lt8 HX.out | (rw [W2]; exact meas_lt8 HX.out)
        · have hck : c = k := Nat.le_antisymm hc (Nat.le_of_not_lt hct)
          subst hck
          have HC : Hid (Cs w.heap.size w1.heap.size wr (.slice (some ⟨w.heap.size, 0, none⟩) m m) m (fun _ => c) (fun _ => c) B (fil (cau c) (fun _ _ => 0) (r + 1) 0) ∧ Below w.heap.size w wr) := ⟨hC2.fil_row, hb2⟩
          clear hC2 hb2
          go_wp2
          go_roundw
          case rel => exact ⟨r + 1, hlt, by first | rfl | (rw [W1]; rfl), HC.out.1, HC.out.2⟩
          case measure => first | exact meas_lt8 hlt | (rw [W1]; exact meas_lt8 hlt)
    · have hrm : r = m := Nat.le_antisymm hr (Nat.le_of_not_lt hlt)
      subst hrm
      go_wp2
      go_ret2
      exact ⟨_, rfl, hC'.fil_end.ans (Nat.le_refl _) hb'⟩
end Go.Proofs.Ytdnhidachdjgaaa
