import Derived.Test.YtfhgamaakkoplaaMvax
import Derived.Test.YtfhgamaakkoplaaMvaw
namespace Go.Proofs.Ytfhgamaakkoplaa
open Go.RowKit Gf2
set_option linter.unusedVariables false

-- layer 4: times X + x, in its place
theorem Rg8.kp {w w' : World} {r t g : Nat} (h : Rg8 w r t) (hk : Kp g w w') (h1 : r ≠ g) (h2 : t ≠ g) : Rg8 w' r t :=
  ⟨h.tab.kp hk h2, Nat.lt_of_lt_of_le h.lt hk.size, (hk.cell h.lt h1).trans h.mul, (hk.cell h.lt h1).trans h.inv⟩
/-- the places above i are done. -/
def wid (x : Nat) (F : Nat → Nat) (L i j : Nat) : Nat := if i < j ∧ j < L then F (j - 1) ^^^ fm 285 (F j) x else F j
/-- all places are. -/
def widF (x : Nat) (F : Nat → Nat) (L j : Nat) : Nat := if j < L then (if 1 ≤ j then F (j - 1) else 0) ^^^ fm 285 (F j) x else F j
theorem wid_top (x : Nat) (F : Nat → Nat) (L j : Nat) : wid x F L (L - 1) j = F j := by unfold wid; rw [if_neg (by omega)]
theorem wid_low {x : Nat} {F : Nat → Nat} {L i j : Nat} (h : j ≤ i) : wid x F L i j = F j := by unfold wid; rw [if_neg (by omega)]
theorem wid_step {x : Nat} {F : Nat → Nat} {L i : Nat} (hi : i + 1 < L) (j : Nat) : (if j = i + 1 then F i ^^^ fm 285 (F (i + 1)) x else wid x F L (i + 1) j) = wid x F L i j := by
  unfold wid
  by_cases e : j = i + 1
  · subst e; rw [if_pos rfl, if_pos (by omega)]; rfl
  · rw [if_neg e]
    by_cases e2 : i + 1 < j ∧ j < L
    · rw [if_pos e2, if_pos (by omega)]
    · rw [if_neg e2, if_neg (by omega)]
theorem wid_end {x : Nat} {F : Nat → Nat} {L : Nat} (hL : 1 ≤ L) (j : Nat) : (if j = 0 then fm 285 (F 0) x else wid x F L 0 j) = widF x F L j := by
  unfold wid widF
  by_cases e : j = 0
  · subst e; rw [if_pos rfl, if_pos (by omega), if_neg (by omega), Nat.zero_xor]
  · rw [if_neg e]
    by_cases e2 : j < L
    · rw [if_pos (by omega), if_pos e2, if_pos (by omega)]
    · rw [if_neg (by omega), if_neg e2]
set_option maxHeartbeats 4000000 in
set_option maxRecDepth 100000 in
theorem widen8 (r t g N L c x : Nat) (F : Nat → Nat) (w : World) (hr : Rg8 w r t) (hR : Rw w g N F) (h1 : r ≠ g) (h2 : t ≠ g) (hL1 : 1 ≤ L) (hLN : L ≤ N) (hN : N ≤ 2000) (hx : x < 256) :
    Calls Try.prog 46 #[.pointer (some ⟨r, 0, none⟩), .slice (some ⟨g, 0, none⟩) L c, .int .u8 (x : Int)] w fun e w' => e = .returned (.tuple #[]) ∧ Kp g w w' ∧ Rw w' g N (widF x F L) := by
  have W0 : wrap64 (((L : Nat) : Int) - 1) = ((L - 1 : Nat) : Int) := by unfold wrap64; omega
  obtain ⟨L0, hL0⟩ : ∃ L0, L0 = L - 1 := ⟨_, rfl⟩
  rw [← hL0] at W0
  have HP : Hid (1 ≤ L ∧ L ≤ N ∧ N ≤ 2000 ∧ L0 = L - 1) := ⟨hL1, hLN, hN, hL0⟩
  have hF := hR.2.1
  clear hL1 hLN hN hL0
  go_enter Try.func46, Try.ntmps46
  go_wp2
  go_loopw [6] (fun s wr => ∃ i : Nat, i < L ∧ s = .int .i64 (i : Int) ∧ Kp g w wr ∧ Rw wr g N (wid x F L i)) (fun s _ => (intOf s).toNat)
  case atStart => exact ⟨L0, by have := HP.out; omega, by first | rfl | (rw [W0]), Kp.refl _ _, hR.congr (fun j _ => by rw [HP.out.2.2.2, wid_top])⟩
  case round =>
    obtain ⟨i, hi, rfl, hkp, hrw⟩ := hrel
    have hrg := hr.kp hkp h1 h2
    clear W0
    by_cases h0 : i = 0
    · subst h0
      have q1 : wr.cell? ⟨g, 0, none⟩ = some (.int .u8 (F 0 : Nat)) := by
        have := hrw.2.2.cell (i := 0) (by have := HP.out; omega)
        rw [wid_low (Nat.le_refl _)] at this
        exact this
      have q2 : wr.cell? ⟨r, 0, none⟩ = some (.func (.func 43) #[.pointer (some ⟨t, 0, none⟩)] #[]) := hrg.mul
      have ib : (0 : Int) < (L : Int) := by have := HP.out; omega
      have ibn : 0 < L := by have := HP.out; omega
      have lF := hF 0 (by have := HP.out; omega)
      have c5 := tmul_nat t (F 0) x wr.drew (hrg.tab.of_heap rfl) lF hx
      have q3 := hrw.2.2.frozen 0
      have HC : Hid (Kp g w (wr.setCell ⟨g, 0, none⟩ (.int .u8 ((fm 285 (F 0) x : Nat) : Int))) ∧ Rw (wr.setCell ⟨g, 0, none⟩ (.int .u8 ((fm 285 (F 0) x : Nat) : Int))) g N (widF x F L)) :=
        ⟨hkp.setCell _ _, (hrw.set 0 (fm 285 (F 0) x) (fm8_lt _ _)).congr (fun j _ => by rw [wid_end ibn])⟩
      generalize fm 285 (F 0) x = M at c5 HC
      generalize F 0 = y at q1 c5
      clear hrw hkp hrg hR hr hF lF hi
      go_wp2
      refine region_planJ (fun w' => w'.cell? ⟨g, 0, none⟩ = some (.int .u8 (y : Nat)) ∧ w'.cell? ⟨r, 0, none⟩ = some (.func (.func 43) #[.pointer (some ⟨t, 0, none⟩)] #[])) 10 [9, 0] 44 ⟨q1, q2⟩ (by kernel_rfl) (by kernel_rfl) (fun _ a d v _ h => by cases d <;> exact h) ?_
      refine planT_step ?A1 rfl (fun w' hS => ?s1) rfl (fun K hK => ?n1)
      case s1 =>
        obtain ⟨y1, y2⟩ := hS
        simp only [List.take_succ_cons, List.take_zero]
        repeat still_step
        exact rfl
      case n1 =>
      go_simp
      go_wp2_with (go_at_call 43; (with_reducible refine c5.mono ?_); rintro e w9 ⟨rfl, q, rfl⟩)
      refine hK _ _ ⟨q1, q2⟩ ?_
      clear hK K c5
      refine planT_last ?A2 rfl (fun w' hS => ?s2) rfl ?n2
      case s2 =>
        simp only [List.take_zero]
        exact rfl
      case n2 =>
      simp only [List.drop_succ_cons, List.drop_zero]
      go_wp2
      ((try simp only [Exit.inBlock, Exit.then]); first | (refine bodyPost_ret (results_none rfl _ _ _) rfl ?_) | (refine bodyPost_end (results_none rfl _ _ _) rfl ?_))
      exact ⟨rfl, HC.out.1.drewN _, HC.out.2.drewN _⟩
    · obtain ⟨j, rfl⟩ : ∃ j, i = j + 1 := ⟨i - 1, by omega⟩
      obtain ⟨i, hij⟩ : ∃ i, i = j + 1 := ⟨_, rfl⟩
      rw [← hij] at hrw h0 hi ⊢
      have q1 : wr.cell? ⟨g, i, none⟩ = some (.int .u8 (F i : Nat)) := by
        have := hrw.2.2.cell (i := i) (by have := HP.out; omega)
        rw [wid_low (Nat.le_refl _)] at this
        exact this
      have q0 : wr.cell? ⟨g, j, none⟩ = some (.int .u8 (F j : Nat)) := by
        have := hrw.2.2.cell (i := j) (by have := HP.out; omega)
        rw [wid_low (by omega)] at this
        exact this
      have q2 : wr.cell? ⟨r, 0, none⟩ = some (.func (.func 43) #[.pointer (some ⟨t, 0, none⟩)] #[]) := hrg.mul
      have ib : ((i : Nat) : Int) < (L : Int) := by omega
      have ia : ((j : Nat) : Int) < (L : Int) := by omega
      have i0 : (0 : Int) < ((i : Nat) : Int) := by omega
      have i0n : 0 < i := by omega
      have W1 : wrap64 (((i : Nat) : Int) - 1) = ((j : Nat) : Int) := by have := HP.out; unfold wrap64; omega
      have W1k : IntKind.i64.wrap (((i : Nat) : Int) - 1) = ((j : Nat) : Int) := by have := HP.out; rw [IntKind.wrap_i64]; omega
      have lF := hF i (by have := HP.out; omega)
      have lG := hF j (by have := HP.out; omega)
      have c5 := tmul_nat t (F i) x wr.drew (hrg.tab.of_heap rfl) lF hx
      have q3 := hrw.2.2.frozen i
      have X := u8_xor_nat (F j) (fm 285 (F i) x) lG (fm8_lt _ _)
      have HC : Hid (j < L ∧ Kp g w (wr.setCell ⟨g, i, none⟩ (.int .u8 ((F j ^^^ fm 285 (F i) x : Nat) : Int))) ∧ Rw (wr.setCell ⟨g, i, none⟩ (.int .u8 ((F j ^^^ fm 285 (F i) x : Nat) : Int))) g N (wid x F L j)) :=
        ⟨by omega, hkp.setCell _ _, (hrw.set i (F j ^^^ fm 285 (F i) x) (Nat.xor_lt_two_pow (n := 8) lG (fm8_lt _ _))).congr (fun a _ => by subst hij; rw [wid_step hi])⟩
      have HM : Hid (j < i) := by show j < i; omega
      generalize fm 285 (F i) x = M at c5 HC X
      generalize F i = y at q1 c5
      generalize F j = z at q0 X HC
      generalize z ^^^ M = Z at X HC
      clear hrw hkp hrg hR hr hF lF lG hi h0 hij
      go_wp2
      refine region_planJ (fun w' => w'.cell? ⟨g, i, none⟩ = some (.int .u8 (y : Nat)) ∧ w'.cell? ⟨g, j, none⟩ = some (.int .u8 (z : Nat)) ∧ w'.cell? ⟨r, 0, none⟩ = some (.func (.func 43) #[.pointer (some ⟨t, 0, none⟩)] #[])) 18 [16, 1] 44 ⟨q1, q0, q2⟩ (by kernel_rfl) (by kernel_rfl) (fun _ a d v _ h => by cases d <;> exact h) ?_
      refine planT_step ?A1b rfl (fun w' hS => ?s1b) rfl (fun K hK => ?n1b)
      case s1b =>
        obtain ⟨y1, y2, y3⟩ := hS
        simp only [List.take_succ_cons, List.take_zero]
        repeat still_step
        exact rfl
      case n1b =>
      go_simp
      go_wp2_with (go_at_call 43; (with_reducible refine c5.mono ?_); rintro e w9 ⟨rfl, q, rfl⟩)
      refine hK _ _ ⟨q1, q0, q2⟩ ?_
      clear hK K c5
      refine planT_last ?A2b rfl (fun w' hS => ?s2b) rfl ?n2b
      case s2b =>
        simp only [List.take_succ_cons, List.take_zero]
        repeat still_step
        exact rfl
      case n2b =>
      simp only [List.drop_succ_cons, List.drop_zero]
      go_wp2
      go_roundw
      case rel => first | exact ⟨j, HC.out.1, rfl, HC.out.2.1.drewN _, HC.out.2.2.drewN _⟩ | ((try rw [W1]); (repeat apply Exists.intro); exact ⟨⟨j, HC.out.1, rfl, HC.out.2.1.drewN _, HC.out.2.2.drewN _⟩, rfl⟩)
      case measure => simp [intOf]; (try rw [W1]); have := HM.out; omega
end Go.Proofs.Ytfhgamaakkoplaa
namespace Go.Proofs.Ytfhgamaakkoplaa
open Go.RowKit Gf2
set_option linter.unusedVariables false

-- layer 4: divided differences
/-- the row while the differences over a gap are made: those above i are done. -/
def nrow (pts vals : Nat → Nat) (gap i j : Nat) : Nat := if i < j then ddf 285 pts vals (min gap j) j else ddf 285 pts vals (min (gap - 1) j) j
theorem nrow_start (pts vals : Nat → Nat) {gap n j : Nat} (hj : j < n) : nrow pts vals gap (n - 1) j = ddf 285 pts vals (min (gap - 1) j) j := by unfold nrow; rw [if_neg (by omega)]
theorem nrow_end (pts vals : Nat → Nat) {gap i : Nat} (hg : 1 ≤ gap) (hi : i + 1 = gap) (j : Nat) : nrow pts vals gap i j = ddf 285 pts vals (min (gap + 1 - 1) j) j := by
  unfold nrow
  by_cases e : i < j
  · rw [if_pos e, Nat.add_sub_cancel]
  · rw [if_neg e, Nat.add_sub_cancel, show min (gap - 1) j = min gap j by omega]
theorem nrow_low (pts vals : Nat → Nat) {gap i j : Nat} (h : j ≤ i) (hj : gap ≤ j + 1) : nrow pts vals gap i j = ddf 285 pts vals (gap - 1) j := by unfold nrow; rw [if_neg (by omega), show min (gap - 1) j = gap - 1 by omega]
theorem nrow_step (pts vals : Nat → Nat) {gap i k : Nat} (hg : 1 ≤ gap) (hi : gap ≤ i) (hk : i = k + 1) (j : Nat) : (if j = i then fm 285 (ddf 285 pts vals (gap - 1) i ^^^ ddf 285 pts vals (gap - 1) k) (fi 285 (pts i ^^^ pts (i - gap))) else nrow pts vals gap i j) = nrow pts vals gap k j := by
  unfold nrow
  by_cases e : j = i
  · rw [if_pos e, if_pos (by omega), e, show min gap i = gap - 1 + 1 by omega]
    show _ = fm 285 (ddf 285 pts vals (gap - 1) i ^^^ ddf 285 pts vals (gap - 1) (i - 1)) (fi 285 (pts i ^^^ pts (i - (gap - 1 + 1))))
    rw [show i - 1 = k by omega, show gap - 1 + 1 = gap by omega]
  · rw [if_neg e]
    by_cases e2 : i < j
    · rw [if_pos e2, if_pos (by omega)]
    · rw [if_neg e2, if_neg (by omega)]
set_option maxHeartbeats 8000000 in
set_option maxRecDepth 100000 in
theorem newton8 (r t n : Nat) (pv v : Value) (pts vals : Nat → Nat) (w : World) (hr : Rg8 w r t) (hp : Rb w pv n pts) (up : Up8 n pts) (hv : Rb w v n vals) (hn : n ≤ 1000) :
    Calls Try.prog 54 #[.pointer (some ⟨r, 0, none⟩), pv, v] w fun e w' => e = .returned (.slice (some ⟨w.heap.size, 0, none⟩) n n) ∧ Rw w' w.heap.size n (fun j => ddf 285 pts vals j j) ∧ Below w.heap.size w w' := by
  have c1 := copied8 v n vals w hv (by omega)
  have hP : ∀ i, i < n → pts i < 256 := hp.2.1
  obtain ⟨pa0, pc0, rfl, -⟩ := rb_slice8 hp
  have hp4 : 0 < n → ∃ b o, pa0 = some ⟨b, o, none⟩ ∧ b < w.heap.size ∧ ∀ i, i < n → w.cell? ⟨b, o + i, none⟩ = some (.int .u8 (pts i : Nat)) := by
    obtain ⟨-, -, a, c, e, -, -, h4⟩ := hp
    cases e
    exact h4
  clear hp hv
  go_enter Try.func54, Try.ntmps54
  go_wp2_with (go_at_call 49; (with_reducible refine c1.mono ?_); rintro e w1 ⟨rfl, hR1, hb1⟩; clear c1)
  have HB : Hid (Below w.heap.size w w1) := hb1
  obtain ⟨g, hg⟩ : ∃ g, Hid (g = w.heap.size) := ⟨_, rfl⟩
  rw [← hg.out] at hR1 ⊢
  have hr1 := hr.below hb1
  have hrne : r ≠ g := by have := hr.lt; have := hg.out; omega
  have htne : t ≠ g := by have := hr.tab.lt; have := hg.out; omega
  have hp1 : 0 < n → ∃ b o, pa0 = some ⟨b, o, none⟩ ∧ b < w1.heap.size ∧ b ≠ g ∧ ∀ i, i < n → w1.cell? ⟨b, o + i, none⟩ = some (.int .u8 (pts i : Nat)) := fun h0 => by
    obtain ⟨b, o, e, hl, hc⟩ := hp4 h0
    exact ⟨b, o, e, Nat.lt_of_lt_of_le hl hb1.size, by have := hg.out; omega, fun i hi => (hb1.cell (p := ⟨b, o + i, none⟩) hl).trans (hc i hi)⟩
  clear hp4 hb1 hr
  go_loopw [8] (fun s wr => ∃ gap : Nat, 1 ≤ gap ∧ s = .int .i64 (gap : Int) ∧ Kp g w1 wr ∧ Rw wr g n (fun j => ddf 285 pts vals (min (gap - 1) j) j)) (fun s _ => n - (intOf s).toNat)
  case atStart => exact ⟨1, Nat.le_refl _, rfl, Kp.refl _ _, hR1.congr (fun j _ => by rw [Nat.sub_self, Nat.zero_min]; rfl)⟩
  case round =>
    obtain ⟨gap, hg1, rfl, hkp, hrw⟩ := hrel
    clear hR1
    by_cases hlt : gap < n
    · obtain ⟨n0, hn0⟩ : ∃ n0, n = n0 + 1 := ⟨n - 1, by omega⟩
      have W0 : wrap64 (((n : Nat) : Int) - 1) = ((n0 : Nat) : Int) := by unfold wrap64; omega
      have ig : ((gap : Nat) : Int) < (n : Int) := by omega
      have HS : Hid (Kp g w1 wr ∧ Rw wr g n (nrow pts vals gap n0)) := ⟨hkp, hrw.congr (fun j hj => by rw [← nrow_start pts vals (n := n) hj, hn0, Nat.add_sub_cancel])⟩
      have HN : Hid (1 ≤ gap ∧ gap < n ∧ n = n0 + 1 ∧ n ≤ 1000) := ⟨hg1, hlt, hn0, hn⟩
      clear hkp hrw hg1 hlt hn0 hn
      go_wp2
      go_loopw [9] (fun s wr => ∃ i : Nat, gap ≤ i + 1 ∧ i < n ∧ s = .int .i64 (i : Int) ∧ Kp g w1 wr ∧ Rw wr g n (nrow pts vals gap i)) (fun s _ => (intOf s).toNat)
      case atStart => exact ⟨n0, by have := HN.out; omega, by have := HN.out; omega, by first | rfl | (rw [W0]), HS.out.1, HS.out.2⟩
      case round =>
        obtain ⟨i, hi1, hin, rfl, hkp, hrw⟩ := hrel
        clear HS W0
        by_cases hge : gap ≤ i
        · obtain ⟨b, o, rfl, hbl, hbg, hc⟩ := hp1 (by omega)
          obtain ⟨k, hk⟩ : ∃ k, i = k + 1 := ⟨i - 1, by have := HN.out; omega⟩
          obtain ⟨d, hd⟩ : ∃ d, d = i - gap := ⟨_, rfl⟩
          have hrg := hr1.kp hkp hrne htne
          have q1 : wr.cell? ⟨b, o + i, none⟩ = some (.int .u8 (pts i : Nat)) := (hkp.cell (q := o + i) hbl hbg).trans (hc i hin)
          have q2 : wr.cell? ⟨b, o + d, none⟩ = some (.int .u8 (pts d : Nat)) := (hkp.cell (q := o + d) hbl hbg).trans (hc d (by omega))
          have q3 : wr.cell? ⟨r, 1, none⟩ = some (.func (.func 44) #[.pointer (some ⟨t, 0, none⟩)] #[]) := hrg.inv
          have q4 : wr.cell? ⟨r, 0, none⟩ = some (.func (.func 43) #[.pointer (some ⟨t, 0, none⟩)] #[]) := hrg.mul
          have q5 : wr.cell? ⟨g, i, none⟩ = some (.int .u8 (ddf 285 pts vals (gap - 1) i : Nat)) := by
            have := hrw.2.2.cell (i := i) hin
            rw [nrow_low pts vals (Nat.le_refl _) hi1] at this
            exact this
          have q6 : wr.cell? ⟨g, k, none⟩ = some (.int .u8 (ddf 285 pts vals (gap - 1) k : Nat)) := by
            have := hrw.2.2.cell (i := k) (by omega)
            rw [nrow_low pts vals (by omega) (by omega)] at this
            exact this
          have l5 : ddf 285 pts vals (gap - 1) i < 256 := by have := hrw.2.1 i hin; rw [nrow_low pts vals (Nat.le_refl _) hi1] at this; exact this
          have l6 : ddf 285 pts vals (gap - 1) k < 256 := by have := hrw.2.1 k (by omega); rw [nrow_low pts vals (by omega) (by omega)] at this; exact this
          have l1 := hP i hin
          have l2 := hP d (by omega)
          have hne : pts i ^^^ pts d ≠ 0 := xor_nep (by have := up d i (by have := HN.out; omega) hin; omega)
          have lx : pts i ^^^ pts d < 256 := Nat.xor_lt_two_pow (n := 8) l1 l2
          have X1 := u8_xor_nat (pts i) (pts d) l1 l2
          have X2 := u8_xor_nat (ddf 285 pts vals (gap - 1) i) (ddf 285 pts vals (gap - 1) k) l5 l6
          have lf : fi 285 (pts i ^^^ pts d) < 256 := fi8_lt lx hne
          have c5 := fun m => tinv_nat t (pts i ^^^ pts d) (wr.drewN m) (hrg.tab.drewN m) lx hne
          have c6 := fun m => tmul_nat t (ddf 285 pts vals (gap - 1) i ^^^ ddf 285 pts vals (gap - 1) k) (fi 285 (pts i ^^^ pts d)) (wr.drewN m) (hrg.tab.drewN m) (Nat.xor_lt_two_pow (n := 8) l5 l6) lf
          have q7 := hrw.2.2.frozen i
          have HC : Hid (gap ≤ k + 1 ∧ k < n ∧ Kp g w1 (wr.setCell ⟨g, i, none⟩ (.int .u8 ((fm 285 (ddf 285 pts vals (gap - 1) i ^^^ ddf 285 pts vals (gap - 1) k) (fi 285 (pts i ^^^ pts d)) : Nat) : Int))) ∧ Rw (wr.setCell ⟨g, i, none⟩ (.int .u8 ((fm 285 (ddf 285 pts vals (gap - 1) i ^^^ ddf 285 pts vals (gap - 1) k) (fi 285 (pts i ^^^ pts d)) : Nat) : Int))) g n (nrow pts vals gap k)) :=
            ⟨by omega, by omega, hkp.setCell _ _, (hrw.set i _ (fm8_lt _ _)).congr (fun a _ => by rw [hd, nrow_step pts vals HN.out.1 hge hk])⟩
          have W1 : wrap64 (((i : Nat) : Int) - 1) = ((k : Nat) : Int) := by have := HN.out; unfold wrap64; omega
          have W1k : IntKind.i64.wrap (((i : Nat) : Int) - 1) = ((k : Nat) : Int) := by have := HN.out; rw [IntKind.wrap_i64]; omega
          have W2 : wrap64 (((i : Nat) : Int) - ((gap : Nat) : Int)) = ((d : Nat) : Int) := by have := HN.out; unfold wrap64; omega
          have W2k : IntKind.i64.wrap (((i : Nat) : Int) - ((gap : Nat) : Int)) = ((d : Nat) : Int) := by have := HN.out; rw [IntKind.wrap_i64]; omega
          have ii : ((i : Nat) : Int) < (n : Int) := by omega
          have ik : ((k : Nat) : Int) < (n : Int) := by omega
          have id_ : ((d : Nat) : Int) < (n : Int) := by omega
          have ge : ((gap : Nat) : Int) ≤ ((i : Nat) : Int) := by omega
          have HM : Hid (k < i) := by show k < i; omega
          generalize fm 285 (ddf 285 pts vals (gap - 1) i ^^^ ddf 285 pts vals (gap - 1) k) (fi 285 (pts i ^^^ pts d)) = M at c6 HC
          generalize fi 285 (pts i ^^^ pts d) = I at c5 c6
          generalize pts i ^^^ pts d = x at c5 X1
          generalize ddf 285 pts vals (gap - 1) i ^^^ ddf 285 pts vals (gap - 1) k = y at c6 X2
          generalize ddf 285 pts vals (gap - 1) i = d1 at q5 X2
          generalize ddf 285 pts vals (gap - 1) k = d2 at q6 X2
          generalize pts i = p1 at q1 X1
          generalize pts d = p2 at q2 X1
          clear hrw hkp hrg hc hbl hbg l1 l2 l5 l6 lx lf hne hge hin hi1 hk hd
          go_wp2
          go_quiet ((go_at_call 44; with_reducible exact Calls.quiet_of (c5 _)))
          go_wp2
          refine region_planJ (fun w' => w'.cell? ⟨g, i, none⟩ = some (.int .u8 (d1 : Nat)) ∧ w'.cell? ⟨g, k, none⟩ = some (.int .u8 (d2 : Nat)) ∧ w'.cell? ⟨r, 0, none⟩ = some (.func (.func 43) #[.pointer (some ⟨t, 0, none⟩)] #[])) 18 [17, 0] 67 ⟨q5, q6, q4⟩ (by kernel_rfl) (by kernel_rfl) (fun _ a d v _ h => by cases d <;> exact h) ?_
          refine planT_step ?A1 rfl (fun w' hS => ?s1) rfl (fun K hK => ?n1)
          case s1 =>
            obtain ⟨y1, y2, y3⟩ := hS
            simp only [List.take_succ_cons, List.take_zero]
            repeat still_step
            exact rfl
          case n1 =>
          go_simp
          go_wp2_with (go_at_call 43; (with_reducible refine (c6 _).mono ?_); rintro e w9 ⟨rfl, q, rfl⟩)
          refine hK _ _ ⟨q5, q6, q4⟩ ?_
          clear hK K c5 c6
          refine planT_last ?A2 rfl (fun w' hS => ?s2) rfl ?n2
          case s2 =>
            simp only [List.take_zero]
            exact rfl
          case n2 =>
          simp only [List.drop_succ_cons, List.drop_zero]
          go_wp2
          go_roundw
          case rel => first | exact ⟨k, HC.out.1, HC.out.2.1, rfl, HC.out.2.2.1.drewN _, HC.out.2.2.2.drewN _⟩ | ((try rw [W1]); (repeat apply Exists.intro); exact ⟨⟨k, HC.out.1, HC.out.2.1, rfl, HC.out.2.2.1.drewN _, HC.out.2.2.2.drewN _⟩, rfl⟩)
          case measure => simp [intOf]; (try rw [W1]); have := HM.out; omega
        · have ge : ¬ ((gap : Nat) : Int) ≤ ((i : Nat) : Int) := by omega
          have HE : Hid (Kp g w1 wr ∧ Rw wr g n (fun j => ddf 285 pts vals (min (gap + 1 - 1) j) j)) := ⟨hkp, hrw.congr (fun j _ => nrow_end pts vals HN.out.1 (by omega) j)⟩
          have W3 : wrap64 (((gap : Nat) : Int) + 1) = ((gap : Nat) : Int) + 1 := by have := HN.out; unfold wrap64; omega
          clear hkp hrw hge hin hi1 hp1 hr1
          go_wp2
          go_roundw
          case rel => first | exact ⟨gap + 1, by omega, by first | rfl | (rw [W3]; rfl), HE.out.1, HE.out.2⟩ | ((try rw [W3]); (repeat apply Exists.intro); exact ⟨⟨gap + 1, by omega, rfl, HE.out.1, HE.out.2⟩, rfl⟩)
          case measure => first | exact meas_lt8 HN.out.2.1 | (rw [W3]; exact meas_lt8 HN.out.2.1)
    · have ig : ¬ ((gap : Nat) : Int) < (n : Int) := by omega
      have HF : Hid (Rw wr g n (fun j => ddf 285 pts vals j j) ∧ Below w.heap.size w wr) := ⟨hrw.congr (fun j hj => by rw [show min (gap - 1) j = j by omega]), HB.out.trans (hkp.below (by have := hg.out; omega) HB.out.size)⟩
      clear hrw hkp hlt hp1 hr1 hg1
      go_wp2
      go_ret
      rw [hg.out] at HF ⊢
      exact ⟨rfl, HF.out⟩
end Go.Proofs.Ytfhgamaakkoplaa
