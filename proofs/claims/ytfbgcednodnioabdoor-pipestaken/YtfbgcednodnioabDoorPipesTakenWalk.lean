import Derived.Test.YtfbgcednodnioabDoorZps
import Derived.Deep.Cut
namespace Go.Proofs.YtfbgcednodnioabDoor
open Go.RowKit Gf2
set_option linter.unusedVariables false

theorem lb_at22 {w : World} {a : Option Addr} {np cap : Nat} {ln : Nat → Nat} {S : Nat → Nat → Nat} (h : Lb w (.slice a np cap) np ln S) {i : Nat} (hi : i < np) :
    ∃ pb po x cx, a = some ⟨pb, po, none⟩ ∧ pb < w.heap.size ∧ w.cell? ⟨pb, po + i, none⟩ = some (.slice x (ln i) cx) ∧ Rb w (.slice x (ln i) cx) (ln i) (S i) := by
  obtain ⟨V, ⟨-, a', cap', e, -, -, h4⟩, h2⟩ := h
  cases e
  obtain ⟨pb, po, e1, hl, hc⟩ := h4 (by omega)
  have hr := (h2 i hi).rb
  have hv := hc i hi
  have hr2 := hr
  obtain ⟨-, -, x, cx, ev, -⟩ := hr2
  rw [ev] at hr hv
  exact ⟨pb, po, x, cx, e1, hl.1, hv, hr⟩
set_option maxHeartbeats 4000000 in
set_option maxRecDepth 100000 in
theorem pipesTaken_any (fa code : Int) (a : Option Addr) (np cap : Nat) (ln : Nat → Nat) (S : Nat → Nat → Nat) (w : World) (hf : I6x fa) (hP : Lb w (.slice a np cap) np ln S) (hl : ∀ i, i < np → ln i ≤ 140737488351232) (hnp : np ≤ 140737488355328) :
    Calls Tryd.prog 3 #[.int .i64 fa, .int .i64 code, .slice a np cap] w fun e w' => e = .returned (.bool true) ∧ Below w.heap.size w w' := by
  have c1 := awake22 w
  have HC2 : Hid (∀ w1, Below w.heap.size w w1 → Calls Tryd.prog 6 #[.agg #[.int .i64 fa, .int .i64 code]] w1 fun e w2 => ∃ b f, e = .returned (.pointer (some ⟨b, 0, none⟩)) ∧ Pt22 w w2 b f fa code 0 (.slice none 0 0)) := fun w1 hb =>
    (newsink22 fa code w1 hf).mono fun e w2 ⟨b, f, he, hS, hb2⟩ => ⟨b, f, he, ⟨_, _, 0, hS, .inl ⟨rfl, rfl⟩, .inl rfl, fun x hx => by have := hb.size; omega⟩, hb.trans (hb2.mono hb.size), by decide⟩
  have HH : Hid (Lb w (.slice a np cap) np ln S ∧ (∀ i, i < np → ln i ≤ 140737488351232) ∧ np ≤ 140737488355328) := ⟨hP, hl, hnp⟩
  clear hf hP hl hnp
  go_enter Tryd.func3, Tryd.ntmps3
  go_wp2_with (first
    | (go_at_call 5; (with_reducible refine c1.mono ?_); rintro e w1 ⟨rfl, hb⟩; have c2 := HC2.out w1 hb; clear c1 HC2 hb)
    | (go_at_call 6; (with_reducible refine c2.mono ?_); rintro e w2 ⟨b, f, rfl, hS⟩; have HS : Hid _ := hS; clear c2 hS))
  go_loopw [8, 9, 22] (fun al tk ix wr => ∃ i L : Nat, i ≤ np ∧ ix = .int .i64 (i : Int) ∧ tk = .int .i64 (L : Int) ∧ Pt22 w wr b f fa code L al) (fun _ _ ix _ => np - (intOf ix).toNat)
  case atStart => exact ⟨0, 0, Nat.zero_le _, rfl, rfl, HS.out⟩
  case round =>
    obtain ⟨i, L, hi, rfl, rfl, hT⟩ := hrel
    clear HS
    obtain ⟨a8, c8, rfl⟩ := hT.form
    by_cases hlt : i < np
    · obtain ⟨pb, po, x, cx, rfl, hpl, hpc, hpr⟩ := lb_at22 HH.out.1 hlt
      have q1 : wr.cell? ⟨pb, po + i, none⟩ = some (.slice x (ln i) cx) := (hT.bel.cell (p := ⟨pb, po + i, none⟩) hpl).trans hpc
      have hln := HH.out.2.1 i hlt
      have ib : ((i : Nat) : Int) < (np : Int) := Int.ofNat_lt.2 hlt
      have Hi : Hid (i < np ∧ wrap64 ((i : Int) + 1) = (i : Int) + 1) := ⟨hlt, by have := HH.out.2.2; unfold wrap64; omega⟩
      by_cases hL : L ≤ 65536
      · have D0 : decide ((65536 : Int) < (L : Int)) = false := decide_eq_false (by omega)
        obtain ⟨w1, a1, c1, r1, w2, g, C, r2, c2, hlf, hc1⟩ := pt_step22 hT hL x (ln i) cx (S i) hpr hln
        generalize ln i = n at *
        have hmle := wr22_le L n fa
        obtain ⟨m, hm⟩ : ∃ m, m = wr22 L n fa := ⟨_, rfl⟩
        rw [← hm] at c2 hmle
        have HW : Hid (wrap64 ((L : Int) + (m : Int)) = ((L + m : Nat) : Int)) := by show wrap64 _ = _; unfold wrap64; omega
        have Hn : Hid (wrap64 ((i : Int) + 1) = (i : Int) + 1) := Hi.out.2
        have H2 : Hid ((Builtin.append_ #[28, 28] 28 #[.slice (some ⟨w1.heap.size, 0, none⟩) 0 0, .slice x n cx]).run Tryd.prog (w1.alloc (.cells #[] 5)) = .ok (.slice (some ⟨g, 0, none⟩) n C) w2) := r2
        by_cases hmn : m = n
        · have ew : we22 L n fa f = .nilIface := if_neg (by rw [← hm]; omega)
          rw [ew] at c2
          have hfo : ∀ (_ : 0 ≤ fa) (_ : 0 < n), (L : Int) + (n : Int) ≤ fa := fun h0 h1 => by
            have h2 : wr22 L n fa = min n (fa.toNat - L) := if_pos h0
            have := hlf h0
            omega
          obtain ⟨u, hu⟩ : ∃ u, Hid (L + m = u) := ⟨_, rfl⟩
          rw [hu.out] at HW c2
          have D1 : ((m : Int) == (n : Int)) = true := by rw [hmn]; simp
          rcases Int.lt_or_le fa 0 with hf0 | hf0
          · have D2 : decide (0 ≤ fa) = false := decide_eq_false (by omega)
            have D2N : ¬ 0 ≤ fa := by omega
            subst hmn
            clear hT hpl hpc hpr hln hL hlf hc1 hm hmle hfo hf0 r2 HH hi hlt
            go_wp2_with (first
              | (at_builtin; refine Lib.wpList_append_run _ rfl _ _ _ _ rfl _ _ rfl rfl _ _ r1 ?_; clear r1 q1; have r2 := H2.out; clear H2)
              | (at_builtin; refine Lib.wpList_append_run _ rfl _ _ _ _ rfl _ _ rfl rfl _ _ r2 ?_; clear r2)
              | (go_at_call 7; (with_reducible refine c2.mono ?_); rintro e w3 ⟨rfl, c3, hP⟩; have HP : Hid _ := hP; clear c2 hP; have W1 := HW.out))
            have Wi := Hi.out.2
            first | rw [Wi, W1] | rw [Wi]
            exact ⟨⟨i + 1, u, Hi.out.1, rfl, rfl, by first | (rw [hu.out]; exact HP.out) | exact HP.out⟩, meas_lt8 Hi.out.1⟩
          · have D2 : decide (0 ≤ fa) = true := decide_eq_true hf0
            have D2N : 0 ≤ fa := hf0
            rcases Nat.eq_zero_or_pos n with hn0 | hn0
            · have D3 : decide ((0 : Int) < (n : Int)) = false := decide_eq_false (by omega)
              have D3N : ¬ 0 < n := by omega
              subst hmn
              clear hT hpl hpc hpr hln hL hlf hc1 hm hmle hfo hf0 r2 HH hi hlt hn0
              go_wp2_with (first
                | (at_builtin; refine Lib.wpList_append_run _ rfl _ _ _ _ rfl _ _ rfl rfl _ _ r1 ?_; clear r1 q1; have r2 := H2.out; clear H2)
                | (at_builtin; refine Lib.wpList_append_run _ rfl _ _ _ _ rfl _ _ rfl rfl _ _ r2 ?_; clear r2)
                | (go_at_call 7; (with_reducible refine c2.mono ?_); rintro e w3 ⟨rfl, c3, hP⟩; have HP : Hid _ := hP; clear c2 hP; have W1 := HW.out))
              have Wi := Hi.out.2
              first | rw [Wi, W1] | rw [Wi]
              exact ⟨⟨i + 1, u, Hi.out.1, rfl, rfl, by first | (rw [hu.out]; exact HP.out) | exact HP.out⟩, meas_lt8 Hi.out.1⟩
            · have D3 : decide ((0 : Int) < (n : Int)) = true := decide_eq_true (by omega)
              have D4 : decide (fa < (u : Int)) = false := decide_eq_false (by have := hfo hf0 hn0; have := hu.out; omega)
              subst hmn
              clear hT hpl hpc hpr hln hL hlf hc1 hm hmle hfo hf0 r2 HH hi hlt
              go_wp2_with (first
                | (at_builtin; refine Lib.wpList_append_run _ rfl _ _ _ _ rfl _ _ rfl rfl _ _ r1 ?_; clear r1 q1; have r2 := H2.out; clear H2)
                | (at_builtin; refine Lib.wpList_append_run _ rfl _ _ _ _ rfl _ _ rfl rfl _ _ r2 ?_; clear r2)
                | (go_at_call 7; (with_reducible refine c2.mono ?_); rintro e w3 ⟨rfl, c3, hP⟩; have HP : Hid _ := hP; clear c2 hP; have W1 := HW.out))
              have Wi := Hi.out.2
              first | rw [Wi, W1] | rw [Wi]
              exact ⟨⟨i + 1, u, Hi.out.1, rfl, rfl, by first | (rw [hu.out]; exact HP.out) | exact HP.out⟩, meas_lt8 Hi.out.1⟩
        · have hmn' : m < n := by omega
          have ew : we22 L n fa f = .iface 51 (.pointer (some ⟨f, 0, none⟩)) := if_pos (by rw [← hm]; exact hmn')
          rw [ew] at c2
          have hf0 : 0 ≤ fa := by
            rcases Int.lt_or_le fa 0 with h | h
            · have : wr22 L n fa = n := if_neg (by omega)
              omega
            · exact h
          have e9 : fe22 fa f = .iface 51 (.pointer (some ⟨f, 0, none⟩)) := if_neg (by omega)
          rw [e9] at c2
          obtain ⟨u, hu⟩ : ∃ u, Hid (L + m = u) := ⟨_, rfl⟩
          have hufa : fa = (u : Int) := by
            have h2 : wr22 L n fa = min n (fa.toNat - L) := if_pos hf0
            have := hlf hf0
            have := hu.out
            omega
          have hcut : ∀ W, (Instr.slice 28 (.slice a1 (L + n) c1) none (some (.int .i64 fa)) none).run Tryd.prog W = .ok (.slice a1 u c1) W := fun W => by
            rw [hufa]
            exact run_head22 a1 (L + n) c1 u (by have := hu.out; omega) W
          rw [hu.out] at HW c2
          have D1 : ((m : Int) == (n : Int)) = false := beq_eq_false_iff_ne.2 (by omega)
          have D1N : ¬ m = n := by omega
          have D2 : decide ((m : Int) < 0) = false := decide_eq_false (by omega)
          have D3 : decide ((n : Int) < (m : Int)) = false := decide_eq_false (by omega)
          have D3N : ¬ n < m := by omega
          have D4 : ((u : Int) != fa) = false := by rw [hufa]; simp
          have e2 : ∀ W : World, Sem.run Tryd.prog (binOp BinOp.eql 30 (Value.iface 51 (.pointer (some ⟨f, 0, none⟩))) Value.nilIface) W = .ok (.bool false) W := fun W => by kernel_rfl
          have e3 := fun W => nef22 W f
          clear hT hpl hpc hpr hln hL hlf hc1 hm hmle hf0 r2 HH hi hlt hmn hmn' ew e9 hufa
          go_wp2_with (first
            | (at_builtin; refine Lib.wpList_append_run _ rfl _ _ _ _ rfl _ _ rfl rfl _ _ r1 ?_; clear r1 q1; have r2 := H2.out; clear H2)
            | (at_builtin; refine Lib.wpList_append_run _ rfl _ _ _ _ rfl _ _ rfl rfl _ _ r2 ?_; clear r2)
            | (go_at_call 7; (with_reducible refine c2.mono ?_); rintro e w3 ⟨rfl, c3, hP⟩; have HP : Hid _ := hP; clear c2 hP; have W1 := HW.out)
            | (go_at_call 8; (with_reducible refine c3.mono ?_); rintro e w9 ⟨rfl, hw9⟩; have hw9 := hw9.symm; subst hw9; clear c3))
          have Wi := Hi.out.2
          first | rw [Wi, W1] | rw [Wi]
          exact ⟨⟨i + 1, u, Hi.out.1, rfl, rfl, by first | (rw [hu.out]; exact HP.out) | exact HP.out⟩, meas_lt8 Hi.out.1⟩
      · have D0 : decide ((65536 : Int) < (L : Int)) = true := decide_eq_true (by omega)
        have HT : Hid _ := hT.bel
        clear hT hpl hpc hpr hln hL HH hi hlt
        go_wp2
        go_ret
        exact ⟨rfl, HT.out⟩
    · have ib : ¬ ((i : Nat) : Int) < (np : Int) := by omega
      have c3 := pt_end22 hT
      clear hT HH hi hlt
      go_wp2_with (first
        | (go_at_call 10; (with_reducible refine c3.mono ?_); rintro e w3 ⟨a3, c3', rfl, c4⟩; clear c3)
        | (go_at_call 9; (with_reducible refine c4.mono ?_); rintro e w4 ⟨rfl, hb⟩; have HB : Hid _ := hb; clear c4 hb))
      go_ret
      exact ⟨rfl, HB.out⟩
end Go.Proofs.YtfbgcednodnioabDoor
