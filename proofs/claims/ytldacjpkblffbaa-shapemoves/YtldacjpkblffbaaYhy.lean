import Derived.Test.YtldacjpkblffbaaYhx
namespace Go.Proofs.Ytldacjpkblffbaa
open Go.RowKit Gf2
set_option linter.unusedVariables false

-- layer 16: Fresh of the document
/-- the lists' values. -/
theorem Ln.vals {w : World} {x : Option Addr} {c cx : Nat} {n : Nat → Nat} (h : Ln w (.slice x c cx) c n) : ∃ V : Nat → Value, (∀ i, i < c → (V i).oneCell' = true ∧ ∃ a y, V i = .slice a (n i) y) ∧ (0 < c → ∃ b o, x = some ⟨b, o, none⟩ ∧ b < w.heap.size ∧ ∀ i, i < c → w.cell? ⟨b, o + i, none⟩ = some (V i)) := by
  obtain ⟨h1, h2, a, cap, h3, h4, h5, h6⟩ := h
  cases h3
  by_cases h0 : 0 < c
  · obtain ⟨b, o, e, hl, hc⟩ := h6 h0
    have each : ∀ i : Nat, ∃ v : Value, i < c → w.cell? ⟨b, o + i, none⟩ = some v ∧ ∃ a y, v = .slice a (n i) y := fun i => by
      by_cases hi : i < c
      · obtain ⟨a, y, z⟩ := hc i hi
        exact ⟨_, fun _ => ⟨z, a, y, rfl⟩⟩
      · exact ⟨.slice none 0 0, fun h => absurd h hi⟩
    obtain ⟨V, hV⟩ := Classical.skolem.1 each
    refine ⟨V, fun i hi => ?_, fun _ => ⟨b, o, e, hl, fun i hi => (hV i hi).1⟩⟩
    obtain ⟨a, y, e2⟩ := (hV i hi).2
    exact ⟨by rw [e2]; rfl, a, y, e2⟩
  · exact ⟨fun _ => .slice none 0 0, fun i hi => absurd hi (by omega), fun h => absurd h h0⟩
/-- append(append([][]byte{}, a...), b...). -/
theorem app2_16 (w : World) {x y : Option Addr} {c d cx dx : Nat} {n m : Nat → Nat} (h : Ln w (.slice x c cx) c n) (k : Ln w (.slice y d dx) d m) (hb : (c + d) * 24 ≤ 140737488355328) :
    ∃ w1 g1 C1 w2 g2 C2, (Builtin.append_ #[22, 22] 22 #[.slice (some ⟨w.heap.size, 0, none⟩) 0 0, .slice x c cx]).run Try.prog (w.alloc (.cells #[] 27)) = .ok (.slice (some ⟨g1, 0, none⟩) c C1) w1 ∧
      (Builtin.append_ #[22, 22] 22 #[.slice (some ⟨g1, 0, none⟩) c C1, .slice y d dx]).run Try.prog w1 = .ok (.slice (some ⟨g2, 0, none⟩) (c + d) C2) w2 ∧
      Below w.heap.size w w2 ∧ Ln w2 (.slice (some ⟨g2, 0, none⟩) (c + d) C2) (c + d) (cat16 c n m) := by
  obtain ⟨V, hV, hVc⟩ := h.vals
  obtain ⟨U, hU, hUc⟩ := k.vals
  have b0 := balloc16 w (.cells #[] 27)
  have r0 : (w.alloc (.cells #[] 27)).rowIs w.heap.size 27 0 (fun _ => .slice none 0 0) := ⟨_, heap_alloc_new _ _, rfl, fun i hi => absurd hi (Nat.not_lt_zero _)⟩
  have s0 : (w.alloc (.cells #[] 27)).heap.size = w.heap.size + 1 := by simp
  obtain ⟨w1, g1, C1, F1, run1, l1, r1, -, f1, case1⟩ := appv elm_l8 (w.alloc (.cells #[] 27)) r0 (Nat.le_refl _) (x := x) (n := c) (cx := cx) (S := V) (fun i hi => (hV i hi).1) (fun h0 => by
    obtain ⟨b, o, e, hl, hc⟩ := hVc h0
    exact ⟨b, o, e, fun i hi => (b0.cell (p := ⟨b, o + i, none⟩) hl).trans (hc i hi)⟩) (by omega)
  rw [Nat.zero_add] at run1 l1
  have g1lo : w.heap.size ≤ g1 := by rcases case1 with ⟨e, -⟩ | ⟨e, -⟩ <;> omega
  have b1 : Below w.heap.size w w1 := by
    rcases case1 with ⟨e, -, ho⟩ | ⟨e, -, -, hb⟩
    · exact b0.trans (ho.below (Nat.le_refl _))
    · exact b0.trans (hb.mono (by omega))
  have C1b : C1 ≤ big := by
    rcases case1 with ⟨-, e, -⟩ | ⟨-, e, -⟩
    · rw [e]; unfold big; omega
    · exact e
  obtain ⟨w2, g2, C2, F2, run2, l2, r2, f2, f3, case2⟩ := appv elm_l8 w1 r1 l1 (x := y) (n := d) (cx := dx) (S := U) (fun i hi => (hU i hi).1) (fun h0 => by
    obtain ⟨b, o, e, hl, hc⟩ := hUc h0
    exact ⟨b, o, e, fun i hi => (b1.cell (p := ⟨b, o + i, none⟩) hl).trans (hc i hi)⟩) hb
  have b2 : Below w.heap.size w w2 := by
    rcases case2 with ⟨e, -, ho⟩ | ⟨e, -, -, hb⟩
    · exact b1.trans (ho.below g1lo)
    · exact b1.trans (hb.mono b1.size)
  have C2b : C2 ≤ big := by
    rcases case2 with ⟨-, e, -⟩ | ⟨-, e, -⟩
    · rw [e]; exact C1b
    · exact e
  refine ⟨w1, g1, C1, w2, g2, C2, run1, run2, b2, by have := h.1; omega, fun i hi => ?_, _, _, rfl, l2, C2b, fun _ => ⟨g2, 0, rfl, r2.lt, fun i hi => ?_⟩⟩
  · unfold cat16
    by_cases e : i < c
    · rw [if_pos e]; exact h.2.1 i e
    · rw [if_neg e]; exact k.2.1 (i - c) (by omega)
  · rw [Nat.zero_add, r2.cell (by omega)]
    unfold cat16
    by_cases e : i < c
    · rw [if_pos e, f2 i e]
      have := f1 i e
      rw [Nat.zero_add] at this
      rw [this]
      obtain ⟨a, z, e2⟩ := (hV i e).2
      exact ⟨a, z, by rw [e2]⟩
    · obtain ⟨j, rfl⟩ : ∃ j, i = c + j := ⟨i - c, by omega⟩
      rw [if_neg e, f3 j (by omega), Nat.add_sub_cancel_left]
      obtain ⟨a, z, e2⟩ := (hU j (by omega)).2
      exact ⟨a, z, by rw [e2]⟩
set_option maxHeartbeats 8000000 in
set_option maxRecDepth 100000 in
theorem rfresh16_yes (f : Int) (k m : Nat) (v v2 : Value) (n n2 : Nat → Nat) (w : World) (s l : Nat) (hs : s = k + m) (hp : prm f k m = 0) (h : Ln w v s n) (h2 : Ln w v2 k n2) (hsb : s ≤ 65536) (ha : aeb n s = false) (hl : scf (scf (some 0) n s) n2 k = some l) (ho : ole f (some l) = 0) :
    Calls Try.prog 34 #[.int .i64 f, .int .i64 (k : Int), .int .i64 (m : Int), v, v2] w fun e w' => FrA f k m s n k n2 w w' e := by
  have c1 := fun x => rparams16 f k m x
  rw [hp] at c1
  have es : ((k : Int) + (m : Int)) = (s : Int) := by omega
  have W1 : wrap64 ((k : Int) + (m : Int)) = (s : Int) := by unfold wrap64; omega
  have hfl : fle f k m s n k n2 = 0 := by unfold fle; rw [if_pos hp, es, if_pos ⟨rfl, rfl⟩, ha, if_neg (by decide), hl, ho]
  have c2 := empties16 v s n w h (by omega)
  have e0 := (ems_aeb n s).2 ha
  rw [e0] at c2
  have hodd : ¬ (f = 2 ∧ l % 2 = 1) := fun e => by rw [ole_odd e] at ho; cases ho
  have hv := prm_ok.1 hp
  -- the shards' own length
  obtain ⟨l1, hl1⟩ : ∃ l1, scf (some 0) n s = some l1 := by
    cases e : scf (some 0) n s with
    | none => rw [e, scf_from_none] at hl; cases hl
    | some l1 => exact ⟨l1, rfl⟩
  have hl0 : l1 ≠ 0 := fun e => by
    have := (scf_all hl1).2 e 0 (by have := hv.hk; omega)
    exact (aeb_no.1 ha) 0 (by have := hv.hk; omega) this
  have hll : l = l1 := by rw [hl1] at hl; exact scf_keep hl hl0
  subst hll
  obtain ⟨a, cap, rfl⟩ := h.form
  obtain ⟨a2, cap2, rfl⟩ := h2.form
  have HK : Hid (∀ w2, Below w.heap.size w w2 → ∃ w3 g1 C1 w4 g2 C2, (Builtin.append_ #[22, 22] 22 #[.slice (some ⟨w2.heap.size, 0, none⟩) 0 0, .slice a s cap]).run Try.prog (w2.alloc (.cells #[] 27)) = .ok (.slice (some ⟨g1, 0, none⟩) s C1) w3 ∧
      (Builtin.append_ #[22, 22] 22 #[.slice (some ⟨g1, 0, none⟩) s C1, .slice a2 k cap2]).run Try.prog w3 = .ok (.slice (some ⟨g2, 0, none⟩) (s + k) C2) w4 ∧ Below w.heap.size w w4 ∧
      (Calls Try.prog 43 #[.slice (some ⟨g2, 0, none⟩) (s + k) C2, .bool true] w4 fun e w' => e = .returned (.bool false) ∧ w' = w4) ∧
      (Calls Try.prog 44 #[.slice a s cap] w4 fun e w' => e = .returned (.int .i64 (l : Nat)) ∧ w' = w4)) := fun w2 hb2 => by
    obtain ⟨w3, g1, C1, w4, g2, C2, r1, r2, b4, hL⟩ := app2_16 w2 (h.below hb2) (h2.below hb2) (by omega)
    have b5 := bthen16 hb2 b4
    refine ⟨w3, g1, C1, w4, g2, C2, r1, r2, b5, ?_, ?_⟩
    · have := unlike16 _ true (s + k) (cat16 s n n2) w4 hL (.inl rfl)
      rw [scf_cat, hl] at this
      exact this
    · have := longest16 _ s n w4 (h.below b5)
      rw [mx16_scf hl1] at this
      exact this
  have HE : Hid (∀ w' u, Gi w w' u (ems (ful n2) k).length (emz (ful n2) k) → FrA f k m s n k n2 w w' (.returned (.tuple #[.int .i64 (l : Nat), u, .int .i64 0]))) := fun w' u hG => fra_ok hfl hl ho hG
  have HL : Hid (Ln w (.slice a2 k cap2) k n2 ∧ s ≤ 65536 ∧ k ≤ s) := ⟨h2, hsb, by omega⟩
  have T3 : (l : Int).tmod 2 = ((l % 2 : Nat) : Int) := (Int.ofNat_tmod _ _).symm
  have fin : ∀ b : Bool, (f == 2) = b → (b = true → (l : Int) % 2 = 0 ∧ l % 2 = 0) → Calls Try.prog 34 #[.int .i64 f, .int .i64 (k : Int), .int .i64 (m : Int), .slice a s cap, .slice a2 k cap2] w fun e w' => FrA f k m s n k n2 w w' e := by
    intro b E2 hb
    clear h h2 hsb hp es hfl e0 hodd hv hl hl0 hl1 ho ha hs
    cases b
    · clear T3 hb
      go_enter Try.func34, Try.ntmps34
      go_wp2_with (first
        | (go_at_call 22; (with_reducible refine (c1 _).mono ?_); rintro e w9 ⟨rfl, hw9⟩; have hw9 := hw9.symm; subst hw9)
        | (go_at_call 42; (with_reducible refine c2.mono ?_); rintro e w2 ⟨u, rfl, hG⟩; obtain ⟨ua, uC, rfl⟩ := hG.form; obtain ⟨w3, g1, C1, w4, g2, C2, hr1, hr2, b4, d3, d4⟩ := HK.out w2 hG.1; have HR : Hid _ := hr2; have HB4 : Hid (Below w.heap.size w w4) := b4; clear hG c2 HK hr2 b4)
        | (at_builtin; refine Lib.wpList_append_run _ rfl _ _ _ _ rfl _ _ rfl rfl _ _ hr1 ?_; clear hr1; have hr2 := HR.out; clear HR)
        | (at_builtin; refine Lib.wpList_append_run _ rfl _ _ _ _ rfl _ _ rfl rfl _ _ hr2 ?_; clear hr2)
        | (go_at_call 43; (with_reducible refine d3.mono ?_); rintro e w9 ⟨rfl, hw9⟩; have hw9 := hw9.symm; subst hw9)
        | (go_at_call 44; (with_reducible refine d4.mono ?_); rintro e w9 ⟨rfl, hw9⟩; have hw9 := hw9.symm; subst hw9))
      clear d3 d4 c1 W1
      go_loopw [16, 17] (fun s' i wr => ∃ t : Nat, t ≤ k ∧ i = .int .i64 t ∧ Gi w wr s' (ems (ful n2) t).length (emz (ful n2) t)) (fun _ i _ => k - (intOf i).toNat)
      case atStart => exact ⟨0, Nat.zero_le _, rfl, HB4.out, .inl ⟨rfl, rfl⟩⟩
      case round =>
        obtain ⟨t, ht, rfl, hG⟩ := hrel
        obtain ⟨sa, sC, rfl⟩ := hG.form
        by_cases hlt : t < k
        · obtain ⟨-, -, a', cap', e', -, -, h6⟩ := HL.out.1.below hG.1
          cases e'
          obtain ⟨b, o, rfl, -, hc⟩ := h6 (by omega)
          obtain ⟨x, y, q1⟩ := hc t hlt
          have ib : ((t : Nat) : Int) < (k : Int) := by omega
          have Wt := wrap_succ8 (j := t) (by have := HL.out.2; unfold big; omega)
          have hle := ems_le (ful n2) t
          by_cases hP : n2 t = 0
          · have hPb : ful n2 t = false := by show (n2 t != 0) = false; rw [hP]; rfl
            have HG : Hid (Gi w wr (.slice sa (ems (ful n2) (t + 1)).length sC) (ems (ful n2) (t + 1)).length (emz (ful n2) (t + 1))) := by
              show Gi _ _ _ _ _
              have := ems_no (P := ful n2) (k := t) hPb
              unfold emz at hG ⊢
              rw [this]; exact hG
            have HQ : Hid ((ems (ful n2) (t + 1)).length = (ems (ful n2) t).length) := by show _ = _; rw [ems_no (P := ful n2) (k := t) hPb]
            rw [hP] at q1
            clear hG hc h6 hP hle hPb
            go_wp2
            go_roundw
            case rel => exact ⟨t + 1, hlt, by first | rfl | (rw [Wt]; rfl), by rw [← HQ.out]; exact HG.out⟩
            case measure => first | exact meas_lt8 hlt | (rw [Wt]; exact meas_lt8 hlt)
          · have hPb : ful n2 t = true := by show (n2 t != 0) = true; simpa using hP
            obtain ⟨w5, v5, hrun, hG5⟩ := app_gi hG (t : Int) (by have := HL.out.2; omega)
            have HG : Hid (Gi w w5 v5 (ems (ful n2) (t + 1)).length (emz (ful n2) (t + 1))) := by
              show Gi _ _ _ _ _
              rw [ems_len_yes (P := ful n2) (k := t) hPb]
              exact hG5.congr (fun i hi => emz_step (P := ful n2) (k := t) hPb i (by rw [ems_len_yes (P := ful n2) (k := t) hPb]; exact hi))
            have hP2 : 0 < n2 t := by omega
            generalize n2 t = nt at q1 hP2
            clear hG hc h6 hG5 hP hle hPb
            go_wp2_with (at_builtin; refine Lib.wpList_append_run _ rfl _ _ _ _ rfl _ _ rfl rfl _ _ hrun ?_)
            go_roundw
            case rel => exact ⟨t + 1, hlt, by first | rfl | (rw [Wt]; rfl), HG.out⟩
            case measure => first | exact meas_lt8 hlt | (rw [Wt]; exact meas_lt8 hlt)
        · have htl : ¬ ((t : Nat) : Int) < (k : Int) := fun e => hlt (Int.ofNat_lt.1 e)
          obtain rfl : t = k := by omega
          have HF : Hid _ := HE.out _ _ hG
          clear HL hG
          go_wp2
          go_ret3
          exact HF.out
    · obtain ⟨T4, ho2⟩ := hb rfl
      obtain rfl : f = 2 := by simpa using E2
      rw [ho2] at T3
      clear hb ho2
      go_enter Try.func34, Try.ntmps34
      go_wp2_with (first
        | (go_at_call 22; (with_reducible refine (c1 _).mono ?_); rintro e w9 ⟨rfl, hw9⟩; have hw9 := hw9.symm; subst hw9)
        | (go_at_call 42; (with_reducible refine c2.mono ?_); rintro e w2 ⟨u, rfl, hG⟩; obtain ⟨ua, uC, rfl⟩ := hG.form; obtain ⟨w3, g1, C1, w4, g2, C2, hr1, hr2, b4, d3, d4⟩ := HK.out w2 hG.1; have HR : Hid _ := hr2; have HB4 : Hid (Below w.heap.size w w4) := b4; clear hG c2 HK hr2 b4)
        | (at_builtin; refine Lib.wpList_append_run _ rfl _ _ _ _ rfl _ _ rfl rfl _ _ hr1 ?_; clear hr1; have hr2 := HR.out; clear HR)
        | (at_builtin; refine Lib.wpList_append_run _ rfl _ _ _ _ rfl _ _ rfl rfl _ _ hr2 ?_; clear hr2)
        | (go_at_call 43; (with_reducible refine d3.mono ?_); rintro e w9 ⟨rfl, hw9⟩; have hw9 := hw9.symm; subst hw9)
        | (go_at_call 44; (with_reducible refine d4.mono ?_); rintro e w9 ⟨rfl, hw9⟩; have hw9 := hw9.symm; subst hw9))
      clear d3 d4 c1 W1
      go_loopw [16, 17] (fun s' i wr => ∃ t : Nat, t ≤ k ∧ i = .int .i64 t ∧ Gi w wr s' (ems (ful n2) t).length (emz (ful n2) t)) (fun _ i _ => k - (intOf i).toNat)
      case atStart => exact ⟨0, Nat.zero_le _, rfl, HB4.out, .inl ⟨rfl, rfl⟩⟩
      case round =>
        obtain ⟨t, ht, rfl, hG⟩ := hrel
        obtain ⟨sa, sC, rfl⟩ := hG.form
        by_cases hlt : t < k
        · obtain ⟨-, -, a', cap', e', -, -, h6⟩ := HL.out.1.below hG.1
          cases e'
          obtain ⟨b, o, rfl, -, hc⟩ := h6 (by omega)
          obtain ⟨x, y, q1⟩ := hc t hlt
          have ib : ((t : Nat) : Int) < (k : Int) := by omega
          have Wt := wrap_succ8 (j := t) (by have := HL.out.2; unfold big; omega)
          have hle := ems_le (ful n2) t
          by_cases hP : n2 t = 0
          · have hPb : ful n2 t = false := by show (n2 t != 0) = false; rw [hP]; rfl
            have HG : Hid (Gi w wr (.slice sa (ems (ful n2) (t + 1)).length sC) (ems (ful n2) (t + 1)).length (emz (ful n2) (t + 1))) := by
              show Gi _ _ _ _ _
              have := ems_no (P := ful n2) (k := t) hPb
              unfold emz at hG ⊢
              rw [this]; exact hG
            have HQ : Hid ((ems (ful n2) (t + 1)).length = (ems (ful n2) t).length) := by show _ = _; rw [ems_no (P := ful n2) (k := t) hPb]
            rw [hP] at q1
            clear hG hc h6 hP hle hPb
            go_wp2
            go_roundw
            case rel => exact ⟨t + 1, hlt, by first | rfl | (rw [Wt]; rfl), by rw [← HQ.out]; exact HG.out⟩
            case measure => first | exact meas_lt8 hlt | (rw [Wt]; exact meas_lt8 hlt)
          · have hPb : ful n2 t = true := by show (n2 t != 0) = true; simpa using hP
            obtain ⟨w5, v5, hrun, hG5⟩ := app_gi hG (t : Int) (by have := HL.out.2; omega)
            have HG : Hid (Gi w w5 v5 (ems (ful n2) (t + 1)).length (emz (ful n2) (t + 1))) := by
              show Gi _ _ _ _ _
              rw [ems_len_yes (P := ful n2) (k := t) hPb]
              exact hG5.congr (fun i hi => emz_step (P := ful n2) (k := t) hPb i (by rw [ems_len_yes (P := ful n2) (k := t) hPb]; exact hi))
            have hP2 : 0 < n2 t := by omega
            generalize n2 t = nt at q1 hP2
            clear hG hc h6 hG5 hP hle hPb
            go_wp2_with (at_builtin; refine Lib.wpList_append_run _ rfl _ _ _ _ rfl _ _ rfl rfl _ _ hrun ?_)
            go_roundw
            case rel => exact ⟨t + 1, hlt, by first | rfl | (rw [Wt]; rfl), HG.out⟩
            case measure => first | exact meas_lt8 hlt | (rw [Wt]; exact meas_lt8 hlt)
        · have htl : ¬ ((t : Nat) : Int) < (k : Int) := fun e => hlt (Int.ofNat_lt.1 e)
          obtain rfl : t = k := by omega
          have HF : Hid _ := HE.out _ _ hG
          clear HL hG
          go_wp2
          go_ret3
          exact HF.out
  by_cases h9 : f = 2
  · have ho2 : l % 2 = 0 := by
      have : ¬ l % 2 = 1 := fun e => hodd ⟨h9, e⟩
      clear W1
      omega
    exact fin true (by simpa using h9) (fun _ => ⟨by clear W1; omega, ho2⟩)
  · exact fin false (by simpa using h9) (fun e => by cases e)
end Go.Proofs.Ytldacjpkblffbaa
