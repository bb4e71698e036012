import Derived.Test.YtldacjpkblffbaaYic
namespace Go.Proofs.Ytldacjpkblffbaa
open Go.RowKit Gf2
set_option linter.unusedVariables false

-- layer 16: Join of the document (laid by wip/genyid.py)
theorem div_facts {i l : Nat} (hi : i ≤ 140737488355328) : ∃ q r : Nat, Hid (q = i / l ∧ r = i % l) ∧ (i : Int).tdiv (l : Int) = (q : Int) ∧ (i : Int).tmod (l : Int) = (r : Int) ∧ Hid (wrap64 (q : Int) = (q : Int) ∧ IntKind.i64.wrap (q : Int) = (q : Int)) := by
  have h : i / l ≤ i := Nat.div_le_self _ _
  refine ⟨i / l, i % l, ⟨rfl, rfl⟩, (Int.ofNat_tdiv _ _).symm, (Int.ofNat_tmod _ _).symm, ?_⟩
  show _ ∧ _
  constructor
  · generalize i / l = q at h; unfold wrap64; omega
  · generalize i / l = q at h; simp only [IntKind.wrap_i64]; omega
set_option maxHeartbeats 4000000 in
set_option maxRecDepth 100000 in
theorem rjoin16 (f k m N : Int) (v : Value) (c : Nat) (n : Nat → Nat) (S : Nat → Nat → Nat) (w : World) (h : Lb w v c n S) (hcb : c ≤ 1099511627776) (hnb : ∀ i, i < c → n i ≤ 140737488355328) (hNb : prm f k m = 0 → k.toNat ≤ c → ∀ l, scf (some 0) n k.toNat = some l → k.toNat * l ≤ 140737488355328) :
    Calls Try.prog 38 #[.int .i64 f, .int .i64 k, .int .i64 m, v, .int .i64 N] w fun e w' => ∃ u, e = .returned (.tuple #[u, .int .i64 (jne f k m c n N)]) ∧ JnA f k m c n S N w w' u := by
  have c1 := fun x => rparams16 f k m x
  by_cases hp : prm f k m = 0
  case neg =>
    have HE : Hid (∃ u, Ending.returned (.tuple #[.slice none 0 0, .int .i64 (prm f k m)]) = .returned (.tuple #[u, .int .i64 (jne f k m c n N)]) ∧ JnA f k m c n S N w w u) := jna_no (by unfold jne; rw [if_neg hp]) hp (Below.refl _ _)
    obtain ⟨a, cap, rfl⟩ := lb_form h
    generalize prm f k m = z at *
    have D1 : (z != 0) = true := by simpa using hp
    have D2 : (z == 0) = false := by simpa using hp
    clear h hcb hnb hNb
    go_enter Try.func38, Try.ntmps38
    go_wp2_with (go_at_call 22; ((with_reducible refine (c1 _).mono ?_); (rintro e w9 ⟨rfl, hw9⟩; have hw9 := hw9.symm; subst hw9)))
    go_ret2
    exact HE.out
  case pos =>
  rw [hp] at c1
  obtain ⟨k, m, rfl, rfl⟩ := prm_nat hp
  have hvp := prm_ok.1 hp
  have hk65 : k ≤ 65535 := by have := hvp.sum; have := hvp.hm; omega
  have hk1 : 1 ≤ k := by have := hvp.hk; omega
  by_cases hc : c < k
  · have HE : Hid (∃ u, Ending.returned (.tuple #[.slice none 0 0, .int .i64 160]) = .returned (.tuple #[u, .int .i64 (jne f k m c n N)]) ∧ JnA f k m c n S N w w u) := jna_no (by unfold jne; rw [if_pos hp, if_pos (by omega)]) (by decide) (Below.refl _ _)
    obtain ⟨a, cap, rfl⟩ := lb_form h
    clear h hcb hnb hNb hvp hk65 hk1 hp
    go_enter Try.func38, Try.ntmps38
    go_wp2_with (go_at_call 22; ((with_reducible refine (c1 _).mono ?_); (rintro e w9 ⟨rfl, hw9⟩; have hw9 := hw9.symm; subst hw9)))
    go_ret2
    exact HE.out
  · obtain ⟨a, cap, rfl⟩ := lb_form h
    have hcc : c ≤ cap := by obtain ⟨V, ⟨_, a', cap', e, h5, _⟩, _⟩ := h; cases e; exact h5
    obtain ⟨x', hx', hsl⟩ := head16 a c cap k (by omega)
    have hh := h.head (Nat.le_of_not_lt hc) hx'
    have hL : Ln w (.slice x' k cap) k n := hh.ln (by omega)
    have c2 := empties16 _ k n w hL (by omega)
    have hjn : jne f k m c n N = if aeb n k then 161 else if ole f (scf (some 0) n k) = 0 then (if N < 0 ∨ k * olv f (scf (some 0) n k) < N then 164 else 0) else ole f (scf (some 0) n k) := by unfold jne; rw [if_pos hp, if_neg (by omega), Int.toNat_natCast]
    cases ha : aeb n k
    case true =>
      rw [ha, if_pos rfl] at hjn
      have e0 : ¬ (ems (fun i => n i == 0) k).length = 0 := fun e => by rw [(ems_aeb n k).1 e] at ha; cases ha
      obtain ⟨L, hL2⟩ : ∃ L, L = (ems (fun i => n i == 0) k).length := ⟨_, rfl⟩
      rw [← hL2] at c2 e0
      have e1 : 0 < L := by omega
      have HE : Hid (∀ w', Below w.heap.size w w' → ∃ u, Ending.returned (.tuple #[.slice none 0 0, .int .i64 161]) = .returned (.tuple #[u, .int .i64 (jne f k m c n N)]) ∧ JnA f k m c n S N w w' u) := fun w' hb => jna_no hjn (by decide) hb
      clear h hcb hnb hNb hvp hk65 hk1 hp hh hL hjn ha hx' hcc e0 hL2
      go_enter Try.func38, Try.ntmps38
      go_wp2_with (first | (go_at_call 22; ((with_reducible refine (c1 _).mono ?_); (rintro e w9 ⟨rfl, hw9⟩; have hw9 := hw9.symm; subst hw9))) | (go_at_call 42; ((with_reducible refine (c2).mono ?_); (rintro e w2 ⟨u, rfl, hG⟩; obtain ⟨ua, uC, rfl⟩ := hG.form; have HB2 : Hid (Below w.heap.size w w2) := hG.1; clear hG c2))))
      go_ret2
      exact HE.out _ HB2.out
    case false =>
      rw [ha, if_neg (by decide)] at hjn
      rw [(ems_aeb n k).2 ha] at c2
      obtain ⟨q, hq⟩ : ∃ q, q = scf (some 0) n k := ⟨_, rfl⟩
      rw [← hq] at hjn
      have c3 : ∀ x, Below w.heap.size w x → _ := fun x hx => unlike16 _ false k n x (hL.below hx) (.inr (aeb_no.1 ha))
      rw [← hq] at c3
      cases q with
      | none =>
        have HE : Hid (∀ w', Below w.heap.size w w' → ∃ u, Ending.returned (.tuple #[.slice none 0 0, .int .i64 162]) = .returned (.tuple #[u, .int .i64 (jne f k m c n N)]) ∧ JnA f k m c n S N w w' u) := fun w' hb => jna_no hjn (by decide) hb
        clear h hcb hnb hNb hvp hk65 hk1 hp hh hL hjn ha hx' hcc hq
        go_enter Try.func38, Try.ntmps38
        go_wp2_with (first | (go_at_call 22; ((with_reducible refine (c1 _).mono ?_); (rintro e w9 ⟨rfl, hw9⟩; have hw9 := hw9.symm; subst hw9))) | (go_at_call 42; ((with_reducible refine (c2).mono ?_); (rintro e w2 ⟨u, rfl, hG⟩; obtain ⟨ua, uC, rfl⟩ := hG.form; have HB2 : Hid (Below w.heap.size w w2) := hG.1; have d3 := c3 w2 hG.1; clear c3; clear hG c2))) | (go_at_call 43; ((with_reducible refine (d3).mono ?_); (rintro e w9 ⟨rfl, hw9⟩; have hw9 := hw9.symm; subst hw9))))
        go_ret2
        exact HE.out _ HB2.out
      | some l =>
        have c4 : ∀ x, Below w.heap.size w x → _ := fun x hx => longest16 _ k n x (hL.below hx)
        rw [mx16_scf hq.symm] at c4
        have T3 : (l : Int).tmod 2 = ((l % 2 : Nat) : Int) := (Int.ofNat_tmod _ _).symm
        by_cases ho9 : f = 2 ∧ l % 2 = 1
        · rw [ole_odd ho9, if_neg (by decide)] at hjn
          have HE : Hid (∀ w', Below w.heap.size w w' → ∃ u, Ending.returned (.tuple #[.slice none 0 0, .int .i64 8]) = .returned (.tuple #[u, .int .i64 (jne f k m c n N)]) ∧ JnA f k m c n S N w w' u) := fun w' hb => jna_no hjn (by decide) hb
          obtain ⟨rfl, ho2⟩ := ho9
          have T4 : (l : Int) % 2 = 1 := by omega
          rw [ho2] at T3
          clear h hcb hnb hNb hvp hk65 hk1 hp hh hL hjn ha hx' hcc hq ho2
          go_enter Try.func38, Try.ntmps38
          go_wp2_with (first | (go_at_call 22; ((with_reducible refine (c1 _).mono ?_); (rintro e w9 ⟨rfl, hw9⟩; have hw9 := hw9.symm; subst hw9))) | (go_at_call 42; ((with_reducible refine (c2).mono ?_); (rintro e w2 ⟨u, rfl, hG⟩; obtain ⟨ua, uC, rfl⟩ := hG.form; have HB2 : Hid (Below w.heap.size w w2) := hG.1; have d3 := c3 w2 hG.1; have d4 := c4 w2 hG.1; clear c4; clear c3; clear hG c2))) | (go_at_call 43; ((with_reducible refine (d3).mono ?_); (rintro e w9 ⟨rfl, hw9⟩; have hw9 := hw9.symm; subst hw9))) | (go_at_call 44; ((with_reducible refine (d4).mono ?_); (rintro e w9 ⟨rfl, hw9⟩; have hw9 := hw9.symm; subst hw9))))
          go_ret2
          exact HE.out _ HB2.out
        · rw [ole_even ho9, olv_even ho9, if_pos rfl] at hjn
          obtain ⟨hall, hall0⟩ := scf_all hq.symm
          have hl1 : 1 ≤ l := by
            rcases Nat.eq_zero_or_pos l with e | e
            · exact absurd (hall0 e 0 (by omega)) (aeb_no.1 ha 0 (by omega))
            · exact e
          have hnl : ∀ i, i < k → n i = l := fun i hi => by
            rcases hall i hi with e | e
            · exact absurd e (aeb_no.1 ha i hi)
            · exact e
          have hlb : l ≤ 140737488355328 := by rw [← hnl 0 (by omega)]; exact hnb 0 (by omega)
          obtain ⟨p, HP, Wp⟩ := join_nums hk65 hlb
          have hpb : p ≤ 140737488355328 := by rw [HP.out]; exact hNb hp (Nat.le_of_not_lt hc) l hq.symm
          have ekl : ((k : Int) * (l : Int)) = (p : Int) := by rw [HP.out, Int.natCast_mul]
          rw [ekl] at hjn
          -- the odd length: not here
          have fin : ∀ b : Bool, (f == 2) = b → (b = true → (l : Int) % 2 = 0 ∧ l % 2 = 0) → Calls Try.prog 38 #[.int .i64 f, .int .i64 (k : Int), .int .i64 (m : Int), .slice a c cap, .int .i64 N] w fun e w' => ∃ u, e = .returned (.tuple #[u, .int .i64 (jne f k m c n N)]) ∧ JnA f k m c n S N w w' u := by
            intro b E2 hbb
            by_cases hb : N < 0 ∨ (p : Int) < N
            · rw [if_pos hb] at hjn
              have HE : Hid (∀ w', Below w.heap.size w w' → ∃ u, Ending.returned (.tuple #[.slice none 0 0, .int .i64 164]) = .returned (.tuple #[u, .int .i64 (jne f k m c n N)]) ∧ JnA f k m c n S N w w' u) := fun w' hb => jna_no hjn (by decide) hb
              by_cases hb1 : N < 0
              · have D1 : decide (N < 0) = true := by simpa using hb1
                clear h hcb hnb hNb hvp hk65 hk1 hp hh hL hjn ha hx' hcc hq hb hb1 hall hall0 hl1 hnl hlb hpb ekl Wp ho9
                cases b
                · clear T3 hbb
                  go_enter Try.func38, Try.ntmps38
                  go_wp2_with (first | (go_at_call 22; ((with_reducible refine (c1 _).mono ?_); (rintro e w9 ⟨rfl, hw9⟩; have hw9 := hw9.symm; subst hw9))) | (go_at_call 42; ((with_reducible refine (c2).mono ?_); (rintro e w2 ⟨u, rfl, hG⟩; obtain ⟨ua, uC, rfl⟩ := hG.form; have HB2 : Hid (Below w.heap.size w w2) := hG.1; have d3 := c3 w2 hG.1; have d4 := c4 w2 hG.1; clear c4; clear c3; clear hG c2))) | (go_at_call 43; ((with_reducible refine (d3).mono ?_); (rintro e w9 ⟨rfl, hw9⟩; have hw9 := hw9.symm; subst hw9))) | (go_at_call 44; ((with_reducible refine (d4).mono ?_); (rintro e w9 ⟨rfl, hw9⟩; have hw9 := hw9.symm; subst hw9))))
                  go_ret2
                  exact HE.out _ HB2.out
                · obtain ⟨T4, ho2⟩ := hbb rfl
                  obtain rfl : f = 2 := by simpa using E2
                  rw [ho2] at T3
                  clear hbb ho2
                  go_enter Try.func38, Try.ntmps38
                  go_wp2_with (first | (go_at_call 22; ((with_reducible refine (c1 _).mono ?_); (rintro e w9 ⟨rfl, hw9⟩; have hw9 := hw9.symm; subst hw9))) | (go_at_call 42; ((with_reducible refine (c2).mono ?_); (rintro e w2 ⟨u, rfl, hG⟩; obtain ⟨ua, uC, rfl⟩ := hG.form; have HB2 : Hid (Below w.heap.size w w2) := hG.1; have d3 := c3 w2 hG.1; have d4 := c4 w2 hG.1; clear c4; clear c3; clear hG c2))) | (go_at_call 43; ((with_reducible refine (d3).mono ?_); (rintro e w9 ⟨rfl, hw9⟩; have hw9 := hw9.symm; subst hw9))) | (go_at_call 44; ((with_reducible refine (d4).mono ?_); (rintro e w9 ⟨rfl, hw9⟩; have hw9 := hw9.symm; subst hw9))))
                  go_ret2
                  exact HE.out _ HB2.out
              · have D1 : decide (N < 0) = false := by simpa using hb1
                have D2 : decide ((p : Int) < N) = true := decide_eq_true (by omega)
                clear h hcb hnb hNb hvp hk65 hk1 hp hh hL hjn ha hx' hcc hq hb hb1 hall hall0 hl1 hnl hlb hpb ekl ho9
                cases b
                · clear T3 hbb
                  go_enter Try.func38, Try.ntmps38
                  go_wp2_with (first | (go_at_call 22; ((with_reducible refine (c1 _).mono ?_); (rintro e w9 ⟨rfl, hw9⟩; have hw9 := hw9.symm; subst hw9))) | (go_at_call 42; ((with_reducible refine (c2).mono ?_); (rintro e w2 ⟨u, rfl, hG⟩; obtain ⟨ua, uC, rfl⟩ := hG.form; have HB2 : Hid (Below w.heap.size w w2) := hG.1; have d3 := c3 w2 hG.1; have d4 := c4 w2 hG.1; clear c4; clear c3; clear hG c2))) | (go_at_call 43; ((with_reducible refine (d3).mono ?_); (rintro e w9 ⟨rfl, hw9⟩; have hw9 := hw9.symm; subst hw9))) | (go_at_call 44; ((with_reducible refine (d4).mono ?_); (rintro e w9 ⟨rfl, hw9⟩; have hw9 := hw9.symm; subst hw9))))
                  go_ret2
                  exact HE.out _ HB2.out
                · obtain ⟨T4, ho2⟩ := hbb rfl
                  obtain rfl : f = 2 := by simpa using E2
                  rw [ho2] at T3
                  clear hbb ho2
                  go_enter Try.func38, Try.ntmps38
                  go_wp2_with (first | (go_at_call 22; ((with_reducible refine (c1 _).mono ?_); (rintro e w9 ⟨rfl, hw9⟩; have hw9 := hw9.symm; subst hw9))) | (go_at_call 42; ((with_reducible refine (c2).mono ?_); (rintro e w2 ⟨u, rfl, hG⟩; obtain ⟨ua, uC, rfl⟩ := hG.form; have HB2 : Hid (Below w.heap.size w w2) := hG.1; have d3 := c3 w2 hG.1; have d4 := c4 w2 hG.1; clear c4; clear c3; clear hG c2))) | (go_at_call 43; ((with_reducible refine (d3).mono ?_); (rintro e w9 ⟨rfl, hw9⟩; have hw9 := hw9.symm; subst hw9))) | (go_at_call 44; ((with_reducible refine (d4).mono ?_); (rintro e w9 ⟨rfl, hw9⟩; have hw9 := hw9.symm; subst hw9))))
                  go_ret2
                  exact HE.out _ HB2.out
            · rw [if_neg hb] at hjn
              obtain ⟨N, rfl⟩ := Int.eq_ofNat_of_zero_le (show 0 ≤ N by omega)
              have D1 : decide ((N : Int) < 0) = false := decide_eq_false (by omega)
              have D2 : ¬ p < N := by omega
              have hm8 := make_u8 N (by omega)
              have HL : Hid (Lb w (.slice x' k cap) k n S ∧ (∀ i, i < k → n i = l) ∧ 1 ≤ l ∧ k ≤ 65535 ∧ p = k * l ∧ N ≤ p ∧ p ≤ 140737488355328) := ⟨hh, hnl, hl1, hk65, HP.out, by omega, hpb⟩
              have HE : Hid (∀ g w', Below w.heap.size w w' → w.heap.size ≤ g → Rw w' g N (jnb l S) → ∃ u, Ending.returned (.tuple #[.slice (some ⟨g, 0, none⟩) N N, .int .i64 0]) = .returned (.tuple #[u, .int .i64 (jne f k m c n N)]) ∧ JnA f k m c n S N w w' u) := fun g w' hb' hg hr' => by
                refine ⟨_, by rw [hjn], hb', fun e => absurd hjn e, fun _ => ⟨l, by rw [Int.toNat_natCast]; exact hq.symm, hl1, hb', g, by rw [Int.toNat_natCast], hg, by rw [Int.toNat_natCast]; exact hr'⟩⟩
              have hl0 : ¬ l = 0 := by omega
              clear h hcb hnb hNb hvp hk65 hk1 hp hh hL hjn ha hx' hcc hq hb hall hall0 hl1 hnl hlb hpb ekl ho9
              cases b
              · clear T3 hbb
                go_enter Try.func38, Try.ntmps38
                go_wp2_with (first | (go_at_call 22; ((with_reducible refine (c1 _).mono ?_); (rintro e w9 ⟨rfl, hw9⟩; have hw9 := hw9.symm; subst hw9))) | (go_at_call 42; ((with_reducible refine (c2).mono ?_); (rintro e w2 ⟨u, rfl, hG⟩; obtain ⟨ua, uC, rfl⟩ := hG.form; have HB2 : Hid (Below w.heap.size w w2) := hG.1; have d3 := c3 w2 hG.1; have d4 := c4 w2 hG.1; clear c4; clear c3; clear hG c2))) | (go_at_call 43; ((with_reducible refine (d3).mono ?_); (rintro e w9 ⟨rfl, hw9⟩; have hw9 := hw9.symm; subst hw9))) | (go_at_call 44; ((with_reducible refine (d4).mono ?_); (rintro e w9 ⟨rfl, hw9⟩; have hw9 := hw9.symm; subst hw9))))
                clear d3 d4 c1 hsl Wp D1 D2
                have r0 := made_rw N (by have := HL.out; omega) w2
                have HB3 : Hid (Below w.heap.size w (w2.alloc (.cells (madeCells #[.int .u8 0] N) 5)) ∧ w.heap.size ≤ w2.heap.size ∧ Rw (w2.alloc (.cells (madeCells #[.int .u8 0] N) 5)) w2.heap.size N (fun _ => 0)) := ⟨bthen16 HB2.out (balloc16 _ _), HB2.out.size, r0⟩
                clear r0 hm8
                go_loopw [16] (fun i wr => ∃ (t : Nat) (F : Nat → Nat), t ≤ N ∧ i = .int .i64 t ∧ Below w.heap.size w wr ∧ Rw wr w2.heap.size N F ∧ ∀ i, i < t → F i = jnb l S i) (fun i _ => N - (intOf i).toNat)
                case atStart => exact ⟨0, fun _ => 0, Nat.zero_le _, rfl, HB3.out.1, HB3.out.2.2, fun i hi => absurd hi (Nat.not_lt_zero _)⟩
                case round =>
                  obtain ⟨t, F, ht, rfl, hb, hr, hF⟩ := hrel
                  by_cases hlt : t < N
                  · obtain ⟨hh, hnl, hl1, hk65, hpk, hNp, hpb⟩ := HL.out
                    obtain ⟨q, r, HQ, T1, T2, HV⟩ := div_facts (i := t) (l := l) (by omega)
                    have hqk : q < k := by rw [HQ.out.1]; exact Nat.div_lt_of_lt_mul (by rw [Nat.mul_comm]; omega)
                    have hrl : r < l := by rw [HQ.out.2]; exact Nat.mod_lt _ (by omega)
                    obtain ⟨V, ⟨-, ax, capx, e5, -, -, h4⟩, hV⟩ := Lb.below hh hb
                    cases e5
                    obtain ⟨bx, ox, rfl, -, hcx⟩ := h4 (by omega)
                    obtain ⟨-, hS8, y1, y2, ev, -, -, h4r⟩ := hV q hqk
                    have q1 := hcx q hqk
                    rw [ev, hnl q hqk] at q1
                    rw [hnl q hqk] at h4r
                    obtain ⟨bz, oz, rfl, -, hcz⟩ := h4r (by omega)
                    have q2 := hcz r hrl
                    have hbyte : S q r < 256 := hS8 r (by rw [hnl q hqk]; exact hrl)
                    have q3 := hr.2.2.cell hlt
                    have q4 := hr.2.2.frozen t
                    have HD : Hid (Below w.heap.size w (wr.setCell ⟨w2.heap.size, t, none⟩ (.int .u8 (S q r : Nat))) ∧ Rw (wr.setCell ⟨w2.heap.size, t, none⟩ (.int .u8 (S q r : Nat))) w2.heap.size N (fun i => if i = t then S q r else F i) ∧ ∀ i, i < t + 1 → (if i = t then S q r else F i) = jnb l S i) := by
                      refine ⟨hb.setCell HB3.out.2.1 _, hr.set t _ hbyte, fun i hi => ?_⟩
                      by_cases e : i = t
                      · rw [if_pos e, e, HQ.out.1, HQ.out.2]; rfl
                      · rw [if_neg e]; exact hF i (by omega)
                    have ib : ((t : Nat) : Int) < (N : Int) := Int.ofNat_lt.2 hlt
                    have iq : ((q : Nat) : Int) < (k : Int) := Int.ofNat_lt.2 hqk
                    have ir : ((r : Nat) : Int) < (l : Int) := Int.ofNat_lt.2 hrl
                    have W1 := wrap_succ8 (j := t) (by unfold big; omega)
                    have HX : Hid (t < N) := hlt
                    obtain ⟨V1, V2⟩ := HV.out
                    clear HV
                    generalize S q r = byt at *
                    generalize F t = ft at q3
                    clear hh hnl hl1 hk65 hpk hNp hpb h4 hV hcx hS8 ev h4r hcz hbyte hb hr hF hlt ht HE hqk hrl HB3
                    go_wp2
                    refine region_tail8 13 (by kernel_rfl) (by kernel_rfl) ?_
                    simp only [List.take_succ_cons, List.take_zero, List.drop_succ_cons, List.drop_zero]
                    repeat still_step
                    refine wpStill_nil ?_
                    go_wp2
                    go_roundw
                    case rel => exact ⟨t + 1, fun i => if i = t then byt else F i, HX.out, by first | rfl | (rw [W1]; rfl), HD.out.1.drew, HD.out.2.1.drewN 1, HD.out.2.2⟩
                    case measure => first | exact meas_lt8 HX.out | (rw [W1]; exact meas_lt8 HX.out)
                  · have htl : ¬ ((t : Nat) : Int) < (N : Int) := fun e => hlt (Int.ofNat_lt.1 e)
                    obtain rfl : t = N := by omega
                    have HF : Hid _ := HE.out w2.heap.size wr hb HB3.out.2.1 (hr.congr hF)
                    clear hb hr hF HL HE
                    go_wp2
                    go_ret2
                    exact HF.out
              · obtain ⟨T4, ho2⟩ := hbb rfl
                obtain rfl : f = 2 := by simpa using E2
                rw [ho2] at T3
                clear hbb ho2
                go_enter Try.func38, Try.ntmps38
                go_wp2_with (first | (go_at_call 22; ((with_reducible refine (c1 _).mono ?_); (rintro e w9 ⟨rfl, hw9⟩; have hw9 := hw9.symm; subst hw9))) | (go_at_call 42; ((with_reducible refine (c2).mono ?_); (rintro e w2 ⟨u, rfl, hG⟩; obtain ⟨ua, uC, rfl⟩ := hG.form; have HB2 : Hid (Below w.heap.size w w2) := hG.1; have d3 := c3 w2 hG.1; have d4 := c4 w2 hG.1; clear c4; clear c3; clear hG c2))) | (go_at_call 43; ((with_reducible refine (d3).mono ?_); (rintro e w9 ⟨rfl, hw9⟩; have hw9 := hw9.symm; subst hw9))) | (go_at_call 44; ((with_reducible refine (d4).mono ?_); (rintro e w9 ⟨rfl, hw9⟩; have hw9 := hw9.symm; subst hw9))))
                clear d3 d4 c1 hsl Wp D1 D2
                have r0 := made_rw N (by have := HL.out; omega) w2
                have HB3 : Hid (Below w.heap.size w (w2.alloc (.cells (madeCells #[.int .u8 0] N) 5)) ∧ w.heap.size ≤ w2.heap.size ∧ Rw (w2.alloc (.cells (madeCells #[.int .u8 0] N) 5)) w2.heap.size N (fun _ => 0)) := ⟨bthen16 HB2.out (balloc16 _ _), HB2.out.size, r0⟩
                clear r0 hm8
                go_loopw [16] (fun i wr => ∃ (t : Nat) (F : Nat → Nat), t ≤ N ∧ i = .int .i64 t ∧ Below w.heap.size w wr ∧ Rw wr w2.heap.size N F ∧ ∀ i, i < t → F i = jnb l S i) (fun i _ => N - (intOf i).toNat)
                case atStart => exact ⟨0, fun _ => 0, Nat.zero_le _, rfl, HB3.out.1, HB3.out.2.2, fun i hi => absurd hi (Nat.not_lt_zero _)⟩
                case round =>
                  obtain ⟨t, F, ht, rfl, hb, hr, hF⟩ := hrel
                  by_cases hlt : t < N
                  · obtain ⟨hh, hnl, hl1, hk65, hpk, hNp, hpb⟩ := HL.out
                    obtain ⟨q, r, HQ, T1, T2, HV⟩ := div_facts (i := t) (l := l) (by omega)
                    have hqk : q < k := by rw [HQ.out.1]; exact Nat.div_lt_of_lt_mul (by rw [Nat.mul_comm]; omega)
                    have hrl : r < l := by rw [HQ.out.2]; exact Nat.mod_lt _ (by omega)
                    obtain ⟨V, ⟨-, ax, capx, e5, -, -, h4⟩, hV⟩ := Lb.below hh hb
                    cases e5
                    obtain ⟨bx, ox, rfl, -, hcx⟩ := h4 (by omega)
                    obtain ⟨-, hS8, y1, y2, ev, -, -, h4r⟩ := hV q hqk
                    have q1 := hcx q hqk
                    rw [ev, hnl q hqk] at q1
                    rw [hnl q hqk] at h4r
                    obtain ⟨bz, oz, rfl, -, hcz⟩ := h4r (by omega)
                    have q2 := hcz r hrl
                    have hbyte : S q r < 256 := hS8 r (by rw [hnl q hqk]; exact hrl)
                    have q3 := hr.2.2.cell hlt
                    have q4 := hr.2.2.frozen t
                    have HD : Hid (Below w.heap.size w (wr.setCell ⟨w2.heap.size, t, none⟩ (.int .u8 (S q r : Nat))) ∧ Rw (wr.setCell ⟨w2.heap.size, t, none⟩ (.int .u8 (S q r : Nat))) w2.heap.size N (fun i => if i = t then S q r else F i) ∧ ∀ i, i < t + 1 → (if i = t then S q r else F i) = jnb l S i) := by
                      refine ⟨hb.setCell HB3.out.2.1 _, hr.set t _ hbyte, fun i hi => ?_⟩
                      by_cases e : i = t
                      · rw [if_pos e, e, HQ.out.1, HQ.out.2]; rfl
                      · rw [if_neg e]; exact hF i (by omega)
                    have ib : ((t : Nat) : Int) < (N : Int) := Int.ofNat_lt.2 hlt
                    have iq : ((q : Nat) : Int) < (k : Int) := Int.ofNat_lt.2 hqk
                    have ir : ((r : Nat) : Int) < (l : Int) := Int.ofNat_lt.2 hrl
                    have W1 := wrap_succ8 (j := t) (by unfold big; omega)
                    have HX : Hid (t < N) := hlt
                    obtain ⟨V1, V2⟩ := HV.out
                    clear HV
                    generalize S q r = byt at *
                    generalize F t = ft at q3
                    clear hh hnl hl1 hk65 hpk hNp hpb h4 hV hcx hS8 ev h4r hcz hbyte hb hr hF hlt ht HE hqk hrl HB3
                    go_wp2
                    refine region_tail8 13 (by kernel_rfl) (by kernel_rfl) ?_
                    simp only [List.take_succ_cons, List.take_zero, List.drop_succ_cons, List.drop_zero]
                    repeat still_step
                    refine wpStill_nil ?_
                    go_wp2
                    go_roundw
                    case rel => exact ⟨t + 1, fun i => if i = t then byt else F i, HX.out, by first | rfl | (rw [W1]; rfl), HD.out.1.drew, HD.out.2.1.drewN 1, HD.out.2.2⟩
                    case measure => first | exact meas_lt8 HX.out | (rw [W1]; exact meas_lt8 HX.out)
                  · have htl : ¬ ((t : Nat) : Int) < (N : Int) := fun e => hlt (Int.ofNat_lt.1 e)
                    obtain rfl : t = N := by omega
                    have HF : Hid _ := HE.out w2.heap.size wr hb HB3.out.2.1 (hr.congr hF)
                    clear hb hr hF HL HE
                    go_wp2
                    go_ret2
                    exact HF.out
          by_cases h9 : f = 2
          · have ho2 : l % 2 = 0 := by
              have : ¬ l % 2 = 1 := fun e => ho9 ⟨h9, e⟩
              clear Wp
              omega
            exact fin true (by simpa using h9) (fun _ => ⟨by clear Wp; omega, ho2⟩)
          · exact fin false (by simpa using h9) (fun e => by cases e)
end Go.Proofs.Ytldacjpkblffbaa
