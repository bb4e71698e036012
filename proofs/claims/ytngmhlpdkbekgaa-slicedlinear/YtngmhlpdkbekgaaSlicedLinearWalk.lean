import Derived.Test.YtngmhlpdkbekgaaSbc
import Derived.Test.YtngmhlpdkbekgaaWalkg
import Derived.Test.YtngmhlpdkbekgaaEbo
namespace Go.Proofs.Ytngmhlpdkbekgaa
open Go.RowKit Gf2
set_option linter.unusedVariables false

theorem Ow.same7 {W0 W : World} {K : Nat} {N B N' B' : Nat → Nat} {G G' : Nat → Nat → Nat} (h : Ow W0 K N B G W) (e : ∀ j, j < K → N j = N' j ∧ B j = B' j ∧ ∀ i, i < N j → G j i = G' j i) : Ow W0 K N' B' G' W :=
  ⟨h.1, fun j hj => by
    obtain ⟨e1, e2, e3⟩ := e j hj
    rw [← e1, ← e2]
    exact ⟨(h.2.1 j hj).1, (h.2.1 j hj).2.congr e3⟩, fun i j hi hj hij => by
    rw [← (e i hi).2.1, ← (e j hj).2.1]
    exact h.2.2 i j hi hj hij⟩
/-- three rows of noughts. -/
theorem ow_three {W0 W : World} {N B : Nat → Nat} {G : Nat → Nat → Nat} (h : Ow W0 0 N B G W) (n : Nat) (hn : n ≤ 140737488355328) :
    Ow W0 3 (fun _ => n) (fun j => W.heap.size + j) (fun _ _ => 0) (((W.alloc (.cells (madeCells #[.int .u8 0] n) 5)).alloc (.cells (madeCells #[.int .u8 0] n) 5)).alloc (.cells (madeCells #[.int .u8 0] n) 5)) := by
  refine (((h.made7 n hn).made7 n hn).made7 n hn).same7 (fun j hj => ?_)
  match j, hj with
  | 0, _ => exact ⟨rfl, rfl, fun _ _ => rfl⟩
  | 1, _ => exact ⟨rfl, by simp [upn], fun _ _ => rfl⟩
  | 2, _ => exact ⟨rfl, by simp [upn], fun _ _ => rfl⟩

set_option maxHeartbeats 4000000 in
set_option maxRecDepth 100000 in
theorem slin_walk (c d n : Nat) (x : Option Addr) (cx : Nat) (S : Nat → Nat) (w : World) (hc : c < 256) (hd : d < 256) (hu : Rb w (.slice x n cx) n S) (hm : n ≤ 140737488351232) :
    Calls Try.prog 8 #[.int .u8 (c : Int), .int .u8 (d : Int), .slice x n cx] w fun e w' => e = .returned (.bool true) ∧ Below w.heap.size w w' := by
  have hn : n ≤ 140737488355328 := by omega
  have hnb : n ≤ big := hu.1
  have hmk := make_u8 n hn
  have c1 := snew_any w
  have hcd : c ^^^ d < 256 := Nat.xor_lt_two_pow (n := 8) hc hd
  have X1 := u8_xor_nat c d hc hd
  have cG := fun W => gmul_nat c d W hc hd
  have HB : Hid (n ≤ big ∧ n ≤ 140737488355328 ∧ c < 256 ∧ d < 256 ∧ c ^^^ d < 256) := ⟨hnb, hn, hc, hd, hcd⟩
  have HU : Hid (Rb w (.slice x n cx) n S) := hu
  have D0 : c = 0 ∨ ((c : Int) == 0) = false := by
    rcases Nat.eq_zero_or_pos c with h | h
    · exact .inl h
    · right; simp; omega
  clear hn hm hcd hu hnb hc hd
  go_enter Try.func8, Try.ntmps8
  go_wp2_with (first
    | (go_at_call 11; (with_reducible refine c1.mono ?_); rintro e w1 ⟨p, rfl, hk, hb1⟩; have c2 := awake7_any w1 p _ _ hk; have h1 := HU.out.below hb1; clear c1)
    | (go_at_call 10; (with_reducible refine c2.mono ?_); rintro e w2 ⟨rfl, hb2⟩; have s3 := ow_three ((Ow.start w1 (fun _ => 0) (fun _ => 0) (fun _ _ => 0)).still hb2) n HB.out.2.1; have q1 := sw_mul s3 hk 0 c n n cx (Nat.le_refl _) (rb_cap h1) (b := w2.heap.size) rfl (by decide) rfl HB.out.2.2.1 (s3.far 0 h1 (by decide)); clear c2)
    | (go_at_call 13; first
      | ((with_reducible refine q1.mono ?_); rintro e w4 ⟨rfl, s4, -⟩; have q2 := sw_add s4 hk 0 d n n cx (Nat.le_refl _) (rb_cap h1) (b := w2.heap.size) rfl (by decide) rfl HB.out.2.2.2.1 (s4.far 0 h1 (by decide)); clear q1 s3)
      | ((with_reducible refine q3.mono ?_); rintro e w6 ⟨rfl, s6, -⟩; have q4 := sw_equal s6 n (s6.own 0 n n (b := w2.heap.size) rfl (by decide) rfl (Nat.le_refl _) HB.out.1) (s6.own 1 n n (b := w2.heap.size + 1) rfl (by decide) rfl (Nat.le_refl _) HB.out.1) (fun i hi => (fld8.xor_fm _ _ _).symm); clear q3 s5)
      | ((with_reducible refine q5.mono ?_); rintro e w8 ⟨rfl, s8, -⟩; have q6 := sw_same s8 hk 0 c n n n (Nat.le_refl _) (Nat.le_refl _) (b := w2.heap.size) rfl (by decide) rfl HB.out.2.2.1; clear q5 s7)
      | ((with_reducible refine q6.mono ?_); rintro e w9 ⟨rfl, s9, -⟩; have q7 := sw_mul s9 hk 1 (fm 285 c d) n n cx (Nat.le_refl _) (rb_cap h1) (b := w2.heap.size + 1) rfl (by decide) rfl (fm8_lt _ _) (s9.far 1 h1 (by decide)); clear q6 s8)
      | ((with_reducible refine q7.mono ?_); rintro e w10 ⟨rfl, s10, -⟩; have q8 := sw_equal s10 n (s10.own 0 n n (b := w2.heap.size) rfl (by decide) rfl (Nat.le_refl _) HB.out.1) (s10.own 1 n n (b := w2.heap.size + 1) rfl (by decide) rfl (Nat.le_refl _) HB.out.1) (fun i hi => (fld8.fm_assoc _ _ _).symm); clear q7 s9))
    | (go_at_call 14; (with_reducible refine q2.mono ?_); rintro e w5 ⟨rfl, s5, -⟩; have q3 := sw_mul s5 hk 1 (c ^^^ d) n n cx (Nat.le_refl _) (rb_cap h1) (b := w2.heap.size + 1) rfl (by decide) rfl HB.out.2.2.2.2 (s5.far 1 h1 (by decide)); clear q2 s4)
    | (go_at_call 17; (with_reducible refine (cG _).mono ?_); rintro e wG ⟨rfl, hwG⟩; have hwG := hwG.symm; subst hwG)
    | (go_at_call 15; first
      | ((with_reducible refine q4.mono ?_); rintro e w7 ⟨rfl, s7⟩; have q5 := sw_mul s7 hk 0 d n n cx (Nat.le_refl _) (rb_cap h1) (b := w2.heap.size) rfl (by decide) rfl HB.out.2.2.2.1 (s7.far 0 h1 (by decide)); clear q4 s6)
      | ((with_reducible refine q8.mono ?_); rintro e w11 ⟨rfl, s11⟩; have HZ : Hid (Ow w1 3 _ _ _ w11) := s11; clear q8 s10 s11)))
  rcases D0 with rfl | D0
  · have cI := ginv_zero w11
    rw [show ((0 : Nat) : Int) = 0 from rfl]
    clear X1 cG hmk
    go_wp2_with (go_at_call 18; (with_reducible refine cI.mono ?_); rintro e w9 ⟨rfl, hw9⟩; have hw9 := hw9.symm; subst hw9)
    go_ret
    exact ⟨rfl, hb1.trans (HZ.out.1.mono hb1.size)⟩
  · have h0 : c ≠ 0 := by intro h; subst h; simp at D0
    have hc : c < 256 := HB.out.2.2.1
    have cI := ginv_nat c w11 hc h0
    have li := fi8_lt hc h0
    have s11 := HZ.out
    have q9 := sw_mul s11 hk 2 c n n cx (Nat.le_refl _) (rb_cap h1) (b := w2.heap.size + 1 + 1) rfl (by decide) rfl HB.out.2.2.1 (s11.far 2 h1 (by decide))
    have HF : Hid (∀ i, i < n → fm 285 (fi 285 c) (fm 285 c (S i)) = S i) := fun i hi => by
      rw [← fld8.fm_assoc, fm_comm 285 (fi 285 c) c, fld8.fi_mul hc h0]
      exact fld8.one_fm (HU.out.2.1 i hi)
    have HL : Hid (fi 285 c < 256) := li
    clear X1 cG hmk hc h0 s11 li
    go_wp2_with (first
      | (go_at_call 18; (with_reducible refine cI.mono ?_); rintro e w9 ⟨rfl, hw9⟩; have hw9 := hw9.symm; subst hw9)
      | (go_at_call 13; first
        | ((with_reducible refine q9.mono ?_); rintro e w12 ⟨rfl, s12, -⟩; have q10 := sw_same s12 hk 2 (fi 285 c) n n n (Nat.le_refl _) (Nat.le_refl _) (b := w2.heap.size + 1 + 1) rfl (by decide) rfl HL.out; clear q9)
        | ((with_reducible refine q10.mono ?_); rintro e w13 ⟨rfl, s13, -⟩; have q11 := sw_equal s13 n (s13.own 2 n n (b := w2.heap.size + 1 + 1) rfl (by decide) rfl (Nat.le_refl _) HB.out.1) (s13.src h1) (fun i hi => HF.out i hi); clear q10 s12))
      | (go_at_call 15; (with_reducible refine q11.mono ?_); rintro e w14 ⟨rfl, s14⟩; clear q11 s13))
    go_ret
    exact ⟨rfl, hb1.trans (s14.1.mono hb1.size)⟩
theorem slin_any {w : World} (c : Nat) (hc : c < 256) (d : Nat) (hd : d < 256) (a : Option Addr) (n ca : Nat) (hu : Rbm w a n ca) :
    Calls Try.prog 8 #[.int .u8 (c : Int), .int .u8 (d : Int), .slice a n ca] w fun e w' => e = .returned (.bool true) ∧ Below w.heap.size w w' := by
  obtain ⟨hm, S, hS⟩ := hu
  exact slin_walk c d n a ca S w hc hd hS hm
end Go.Proofs.Ytngmhlpdkbekgaa
