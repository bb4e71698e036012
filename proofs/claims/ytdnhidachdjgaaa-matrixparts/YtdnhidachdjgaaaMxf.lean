import Derived.Test.YtdnhidachdjgaaaMxc
import Derived.Test.YtdnhidachdjgaaaMj5
namespace Go.Proofs.Ytdnhidachdjgaaa
open Go.RowKit Gf2
set_option linter.unusedVariables false

theorem ti_fv (a : Nat) : ti a = fv a := by unfold ti fv; rfl
theorem Tab8.kp {w w' : World} {t g : Nat} (h : Tab8 w t) (hk : Kp g w w') (hne : t ≠ g) : Tab8 w' t := h.of_heap (hk.2 t h.lt hne)
/-- one place more. -/
theorem pl_more {F S : Nat → Nat} {o k : Nat} (i : Nat) : (if i = o + k then S k else pl F o k S i) = pl F o (k + 1) S i := by
  unfold pl
  by_cases e : i = o + k
  · rw [if_pos e, if_pos (by omega), show i - o = k by omega]
  · rw [if_neg e]
    by_cases e2 : o ≤ i ∧ i < o + k
    · rw [if_pos e2, if_pos (by omega)]
    · rw [if_neg e2, if_neg (by omega)]

set_option maxHeartbeats 2000000 in
set_option maxRecDepth 100000 in
theorem addmul10 (t a n g o N ld cd : Nat) (F S : Nat → Nat) (x : Option Addr) (cx : Nat) (w : World) (ht : Tab8 w t) (htg : t ≠ g) (ha : a < 256) (hR : Rw w g N F) (hn : n ≤ ld) (hd : o + ld ≤ N) (hx : Fk w g n x S) :
    Calls Try.prog 58 #[.pointer (some ⟨t, 0, none⟩), .int .u8 (a : Int), .slice (some ⟨g, o, none⟩) ld cd, .slice x n cx] w fun e w' => e = .returned (.tuple #[]) ∧ Kp g w w' ∧ Rw w' g N (pl F o n (fun j => F (o + j) ^^^ fm 285 a (S j))) := by
  by_cases ha0 : a = 0
  · subst ha0
    have : Rw w g N (pl F o n (fun j => F (o + j) ^^^ fm 285 0 (S j))) := hR.congr (fun i hi => by
      unfold pl
      split
      · show F i = F (o + (i - o)) ^^^ fm 285 0 (S (i - o))
        rw [fld8.zero_fm, Nat.xor_zero, show o + (i - o) = i by omega]
      · rfl)
    clear ht hx
    go_enter Try.func58, Try.ntmps58
    go_wp2
    ((try simp only [Exit.inBlock, Exit.then]); first | (refine bodyPost_ret (results_none rfl _ _ _) rfl ?_) | (refine bodyPost_end (results_none rfl _ _ _) rfl ?_))
    exact ⟨rfl, Kp.refl _ _, this⟩
  · have hI : ¬ ((a : Nat) : Int) = 0 := by omega
    have hIb : (((a : Nat) : Int) == 0) = false := by simp [ha0]
    have hNb := hR.1
    obtain ⟨hS, hx4⟩ := hx
    go_enter Try.func58, Try.ntmps58
    go_wp2
    go_loopw [14] (fun i wr => ∃ k : Nat, k ≤ n ∧ i = .int .i64 k ∧ Kp g w wr ∧ Rw wr g N (pl F o k (fun j => F (o + j) ^^^ fm 285 a (S j)))) (fun i _ => n - (intOf i).toNat)
    case atStart => exact ⟨0, Nat.zero_le _, rfl, Kp.refl _ _, hR.congr (fun i _ => (pl_out (by omega)).symm)⟩
    case round =>
      obtain ⟨k, hk, rfl, hkp, hr⟩ := hrel
      by_cases hlt : k < n
      · obtain ⟨b, p, rfl, hbg, hbl, hc⟩ := hx4 (by omega)
        have q1 := (hkp.cell (q := p + k) hbl hbg).trans (hc k hlt)
        have q2 := hr.2.2.cell (i := o + k) (by omega)
        rw [show pl F o k (fun j => F (o + j) ^^^ fm 285 a (S j)) (o + k) = F (o + k) from pl_out (by omega)] at q2
        have q3 := hr.2.2.frozen (o + k)
        have lF : F (o + k) < 256 := hR.2.1 _ (by omega)
        have lS := hS k hlt
        have c5 := tmul_nat t a (S k) wr.drew ((ht.kp hkp htg).of_heap rfl) ha lS
        have X := u8_xor_nat (F (o + k)) (fm 285 a (S k)) lF (fm8_lt _ _)
        have HC : Hid (Kp g w (wr.setCell ⟨g, o + k, none⟩ (.int .u8 ((F (o + k) ^^^ fm 285 a (S k) : Nat) : Int))) ∧ Rw (wr.setCell ⟨g, o + k, none⟩ (.int .u8 ((F (o + k) ^^^ fm 285 a (S k) : Nat) : Int))) g N (pl F o (k + 1) (fun j => F (o + j) ^^^ fm 285 a (S j)))) :=
          ⟨hkp.setCell _ _, (hr.set (o + k) (F (o + k) ^^^ fm 285 a (S k)) (Nat.xor_lt_two_pow (n := 8) lF (fm8_lt _ _))).congr (fun i _ => pl_more (S := fun j => F (o + j) ^^^ fm 285 a (S j)) i)⟩
        have ib : ((k : Nat) : Int) < (n : Int) := by omega
        have ib2 : ((k : Nat) : Int) < (ld : Int) := by omega
        have W1 := wrap_succ8 (j := k) (by omega)
        generalize fm 285 a (S k) = M at c5 X HC
        generalize F (o + k) = A0 at q2 X HC
        generalize hM2 : A0 ^^^ M = M2 at X HC
        clear hr hkp hx4 hR hd hn hNb hM2 lF ht hc
        go_wp2
        refine region_planT (fun w' => w'.cell? ⟨g, o + k, none⟩ = some (.int .u8 (A0 : Nat))) 9 [7, 1] 30 q2 (by kernel_rfl) (by kernel_rfl) (fun _ a d v _ h => by cases d <;> exact h) ?_
        refine planT_step ?A1x0 rfl (fun w' hS => ?s1x0) rfl (fun K hK => ?n1x0)
        case s1x0 =>
          simp only [List.take_succ_cons, List.take_zero]
          repeat still_step
          exact rfl
        case n1x0 =>
        go_simp
        go_wp2_with (go_at_call 41; ((with_reducible refine c5.mono ?_); rintro e w9 ⟨rfl, q, rfl⟩))
        refine hK _ _ q2 ?_
        clear hK K c5
        refine planT_last ?A2x0 rfl (fun w' hS => ?s2x0) rfl ?n2x0
        case s2x0 =>
          simp only [List.take_succ_cons, List.take_zero]
          repeat still_step
          exact rfl
        case n2x0 =>
        simp only [List.drop_succ_cons, List.drop_zero]
        go_wp2
        go_roundw
        case rel => first | exact ⟨k + 1, hlt, by first | rfl | (rw [W1]; rfl), HC.out.1.drewN _, HC.out.2.drewN _⟩ | (rw [W1]; (repeat apply Exists.intro); exact ⟨⟨k + 1, hlt, rfl, HC.out.1.drewN _, HC.out.2.drewN _⟩, rfl⟩)
        case measure => first | exact meas_lt8 hlt | (rw [W1]; exact meas_lt8 hlt)
      · have hkn : k = n := by omega
        subst hkn
        clear hx4
        go_wp2
        ((try simp only [Exit.inBlock, Exit.then]); first | (refine bodyPost_ret (results_none rfl _ _ _) rfl ?_) | (refine bodyPost_end (results_none rfl _ _ _) rfl ?_))
        exact ⟨rfl, hkp, hr⟩
end Go.Proofs.Ytdnhidachdjgaaa
