import Derived.Test.YtldacjpkblffbaaYhy
namespace Go.Proofs.Ytldacjpkblffbaa
open Go.RowKit Gf2
set_option linter.unusedVariables false

-- layer 16: Fresh of the document, all cases (laid by wip/genyhz.py)
set_option maxHeartbeats 8000000 in
set_option maxRecDepth 100000 in
theorem rfresh16 (f k m : Int) (v v2 : Value) (c c2 : Nat) (n n2 : Nat → Nat) (w : World) (h : Ln w v c n) (h2 : Ln w v2 c2 n2) (hcb : c ≤ 1099511627776) :
    Calls Try.prog 34 #[.int .i64 f, .int .i64 k, .int .i64 m, v, v2] w fun e w' => FrA f k m c n c2 n2 w w' e := by
  have c1 := fun x => rparams16 f k m x
  by_cases hp : prm f k m = 0
  case neg =>
    have HE : Hid (FrA f k m c n c2 n2 w w (.returned (.tuple #[.int .i64 0, .slice none 0 0, .int .i64 (prm f k m)]))) := fra_err (by unfold fle; rw [if_neg hp]) hp (Below.refl _ _)
    obtain ⟨a, cap, rfl⟩ := h.form
    obtain ⟨a2, cap2, rfl⟩ := h2.form
    generalize prm f k m = z at *
    have D1 : (z != 0) = true := by simpa using hp
    have D2 : (z == 0) = false := by simpa using hp
    clear h h2 hcb
    go_enter Try.func34, Try.ntmps34
    go_wp2_with (go_at_call 22; ((with_reducible refine (c1 _).mono ?_); (rintro e w9 ⟨rfl, hw9⟩; have hw9 := hw9.symm; subst hw9)))
    go_ret3
    exact HE.out
  case pos =>
    obtain ⟨k, m, rfl, rfl⟩ := prm_nat hp
    obtain ⟨s, HS, hsb, W1⟩ := sum_nat hp
    have es : ((k : Int) + (m : Int)) = (s : Int) := by have := HS.out; omega
    by_cases hc : c = s
    case neg =>
      rw [hp] at c1
      have HE : Hid (FrA f k m c n c2 n2 w w (.returned (.tuple #[.int .i64 0, .slice none 0 0, .int .i64 160]))) := fra_err (by unfold fle; rw [if_pos hp, es, if_neg (fun e => hc (by omega))]) (by decide) (Below.refl _ _)
      obtain ⟨a, cap, rfl⟩ := h.form
      obtain ⟨a2, cap2, rfl⟩ := h2.form
      have hc' : ¬ s = c := fun e => hc e.symm
      clear h h2 hp es hcb hsb
      go_enter Try.func34, Try.ntmps34
      go_wp2_with (go_at_call 22; ((with_reducible refine (c1 _).mono ?_); (rintro e w9 ⟨rfl, hw9⟩; have hw9 := hw9.symm; subst hw9)))
      go_ret3
      exact HE.out
    case pos =>
    by_cases hc2 : c2 = k
    case neg =>
      rw [hp] at c1
      have HE : Hid (FrA f k m c n c2 n2 w w (.returned (.tuple #[.int .i64 0, .slice none 0 0, .int .i64 160]))) := fra_err (by unfold fle; rw [if_pos hp, es, if_neg (fun e => hc2 (by omega))]) (by decide) (Below.refl _ _)
      subst hc
      obtain ⟨a, cap, rfl⟩ := h.form
      obtain ⟨a2, cap2, rfl⟩ := h2.form
      have hc' : ¬ k = c2 := fun e => hc2 e.symm
      clear h h2 hp es hcb hsb
      go_enter Try.func34, Try.ntmps34
      go_wp2_with (go_at_call 22; ((with_reducible refine (c1 _).mono ?_); (rintro e w9 ⟨rfl, hw9⟩; have hw9 := hw9.symm; subst hw9)))
      go_ret3
      exact HE.out
    case pos =>
    have hc9 : s = c := hc.symm
    have hc8 : k = c2 := hc2.symm
    clear hc hc2
    subst hc9 hc8
    have c2x := empties16 v s n w h (by omega)
    cases ha : aeb n s
    case true =>
      rw [hp] at c1
      have HE : Hid (∀ w', Below w.heap.size w w' → FrA f k m s n k n2 w w' (.returned (.tuple #[.int .i64 0, .slice none 0 0, .int .i64 161]))) := fun w' hb => fra_err (by unfold fle; rw [if_pos hp, es, if_pos ⟨rfl, rfl⟩, ha, if_pos rfl]) (by decide) hb
      have e0 : ¬ (ems (fun i => n i == 0) s).length = 0 := fun e => by rw [(ems_aeb n s).1 e] at ha; cases ha
      obtain ⟨L, hL⟩ : ∃ L, L = (ems (fun i => n i == 0) s).length := ⟨_, rfl⟩
      rw [← hL] at c2x e0
      have e1 : 0 < L := by clear W1; omega
      obtain ⟨a, cap, rfl⟩ := h.form
      obtain ⟨a2, cap2, rfl⟩ := h2.form
      clear h h2 hp es ha hL e0 hcb hsb
      go_enter Try.func34, Try.ntmps34
      go_wp2_with (first | (go_at_call 22; ((with_reducible refine (c1 _).mono ?_); (rintro e w9 ⟨rfl, hw9⟩; have hw9 := hw9.symm; subst hw9))) | (go_at_call 42; ((with_reducible refine (c2x).mono ?_); (rintro e w2 ⟨u, rfl, hG⟩; obtain ⟨ua, uC, rfl⟩ := hG.form; have HF : Hid _ := HE.out w2 hG.1; clear hG))))
      go_ret3
      exact HF.out
    case false =>
      have e0 := (ems_aeb n s).2 ha
      obtain ⟨q, hl⟩ : ∃ q, scf (scf (some 0) n s) n2 k = q := ⟨_, rfl⟩
      by_cases ho : ole f q = 0
      · obtain ⟨l, rfl⟩ : ∃ l, q = some l := by
          cases q with
          | none => cases ho
          | some l => exact ⟨l, rfl⟩
        exact rfresh16_yes f k m v v2 n n2 w s l HS.out hp h h2 hsb ha hl ho
      · have HE : Hid (∀ w', Below w.heap.size w w' → FrA f k m s n k n2 w w' (.returned (.tuple #[.int .i64 0, .slice none 0 0, .int .i64 (ole f q)]))) := fun w' hb => fra_err (by unfold fle; rw [if_pos hp, es, if_pos ⟨rfl, rfl⟩, ha, if_neg (by decide), hl]) ho hb
        rw [e0] at c2x
        rw [hp] at c1
        have hks : k ≤ s := by have := HS.out; clear W1; omega
        have c2 := c2x
        clear c2x
        obtain ⟨a, cap, rfl⟩ := h.form
        obtain ⟨a2, cap2, rfl⟩ := h2.form
        clear W1
        cases q with
        | none =>
        have HK : Hid (∀ w2, Below w.heap.size w w2 → ∃ w3 g1 C1 w4 g2 C2, (Builtin.append_ #[22, 22] 22 #[.slice (some ⟨w2.heap.size, 0, none⟩) 0 0, .slice a s cap]).run Try.prog (w2.alloc (.cells #[] 27)) = .ok (.slice (some ⟨g1, 0, none⟩) s C1) w3 ∧
          (Builtin.append_ #[22, 22] 22 #[.slice (some ⟨g1, 0, none⟩) s C1, .slice a2 k cap2]).run Try.prog w3 = .ok (.slice (some ⟨g2, 0, none⟩) (s + k) C2) w4 ∧ Below w.heap.size w w4 ∧
          (Calls Try.prog 43 #[.slice (some ⟨g2, 0, none⟩) (s + k) C2, .bool true] w4 fun e w' => e = .returned (.bool true) ∧ w' = w4)) := fun w2 hb2 => by
            obtain ⟨w3, g1, C1, w4, g2, C2, r1, r2, b4, hL⟩ := app2_16 w2 (h.below hb2) (h2.below hb2) (by omega)
            have b5 := bthen16 hb2 b4
            have hu := unlike16 _ true (s + k) (cat16 s n n2) w4 hL (.inl rfl)
            rw [scf_cat, hl] at hu
            exact ⟨w3, g1, C1, w4, g2, C2, r1, r2, b5, hu⟩
        have W1 : wrap64 ((k : Int) + (m : Int)) = (s : Int) := by rw [es]; clear HE HK; unfold wrap64; omega
        clear h h2 hp es hcb hsb ha e0 hl ho hks
        go_enter Try.func34, Try.ntmps34
        go_wp2_with (first
        | (go_at_call 22; (with_reducible refine (c1 _).mono ?_); rintro e w9 ⟨rfl, hw9⟩; have hw9 := hw9.symm; subst hw9)
        | (go_at_call 42; (with_reducible refine c2.mono ?_); rintro e w2 ⟨u, rfl, hG⟩; obtain ⟨ua, uC, rfl⟩ := hG.form; obtain ⟨w3, g1, C1, w4, g2, C2, hr1, hr2, b4, d3⟩ := HK.out w2 hG.1; have HR : Hid _ := hr2; have HB4 : Hid (Below w.heap.size w w4) := b4; clear hG c2 HK hr2 b4)
        | (at_builtin; refine Lib.wpList_append_run _ rfl _ _ _ _ rfl _ _ rfl rfl _ _ hr1 ?_; clear hr1; have hr2 := HR.out; clear HR)
        | (at_builtin; refine Lib.wpList_append_run _ rfl _ _ _ _ rfl _ _ rfl rfl _ _ hr2 ?_; clear hr2)
        | (go_at_call 43; (with_reducible refine d3.mono ?_); rintro e w9 ⟨rfl, hw9⟩; have hw9 := hw9.symm; subst hw9))
        go_ret3
        exact HE.out _ HB4.out
        | some l =>
        have ho9 : f = 2 ∧ l % 2 = 1 := by
          rcases Classical.em (f = 2 ∧ l % 2 = 1) with e | e
          · exact e
          · exact absurd (ole_even e) ho
        rw [ole_odd ho9] at HE
        obtain ⟨rfl, ho2⟩ := ho9
        have hv := prm_ok.1 hp
        obtain ⟨l1, hl1⟩ : ∃ l1, scf (some 0) n s = some l1 := by
          cases e : scf (some 0) n s with
          | none => rw [e, scf_from_none] at hl; cases hl
          | some l1 => exact ⟨l1, rfl⟩
        have hl0 : l1 ≠ 0 := fun e => by
          have := (scf_all hl1).2 e 0 (by have := hv.hk; omega)
          exact (aeb_no.1 ha) 0 (by have := hv.hk; omega) this
        have hll : l = l1 := by rw [hl1] at hl; exact scf_keep hl hl0
        subst hll
        have HK : Hid (∀ w2, Below w.heap.size w w2 → ∃ w3 g1 C1 w4 g2 C2, (Builtin.append_ #[22, 22] 22 #[.slice (some ⟨w2.heap.size, 0, none⟩) 0 0, .slice a s cap]).run Try.prog (w2.alloc (.cells #[] 27)) = .ok (.slice (some ⟨g1, 0, none⟩) s C1) w3 ∧
          (Builtin.append_ #[22, 22] 22 #[.slice (some ⟨g1, 0, none⟩) s C1, .slice a2 k cap2]).run Try.prog w3 = .ok (.slice (some ⟨g2, 0, none⟩) (s + k) C2) w4 ∧ Below w.heap.size w w4 ∧
          (Calls Try.prog 43 #[.slice (some ⟨g2, 0, none⟩) (s + k) C2, .bool true] w4 fun e w' => e = .returned (.bool false) ∧ w' = w4) ∧
          (Calls Try.prog 44 #[.slice a s cap] w4 fun e w' => e = .returned (.int .i64 (l : Nat)) ∧ w' = w4)) := fun w2 hb2 => by
            obtain ⟨w3, g1, C1, w4, g2, C2, r1, r2, b4, hL⟩ := app2_16 w2 (h.below hb2) (h2.below hb2) (by omega)
            have b5 := bthen16 hb2 b4
            have hu := unlike16 _ true (s + k) (cat16 s n n2) w4 hL (.inl rfl)
            rw [scf_cat, hl] at hu
            have hm := longest16 _ s n w4 (h.below b5)
            rw [mx16_scf hl1] at hm
            exact ⟨w3, g1, C1, w4, g2, C2, r1, r2, b5, hu, hm⟩
        have T3 : (l : Int).tmod 2 = ((l % 2 : Nat) : Int) := (Int.ofNat_tmod _ _).symm
        have T4 : (l : Int) % 2 = 1 := by omega
        rw [ho2] at T3
        have W1 : wrap64 ((k : Int) + (m : Int)) = (s : Int) := by rw [es]; clear HE HK T3 T4; unfold wrap64; omega
        clear h h2 hp es hcb hsb ha e0 hl ho hks hl1 hl0 hv ho2
        go_enter Try.func34, Try.ntmps34
        go_wp2_with (first
        | (go_at_call 22; (with_reducible refine (c1 _).mono ?_); rintro e w9 ⟨rfl, hw9⟩; have hw9 := hw9.symm; subst hw9)
        | (go_at_call 42; (with_reducible refine c2.mono ?_); rintro e w2 ⟨u, rfl, hG⟩; obtain ⟨ua, uC, rfl⟩ := hG.form; obtain ⟨w3, g1, C1, w4, g2, C2, hr1, hr2, b4, d3, d4⟩ := HK.out w2 hG.1; have HR : Hid _ := hr2; have HB4 : Hid (Below w.heap.size w w4) := b4; clear hG c2 HK hr2 b4)
        | (at_builtin; refine Lib.wpList_append_run _ rfl _ _ _ _ rfl _ _ rfl rfl _ _ hr1 ?_; clear hr1; have hr2 := HR.out; clear HR)
        | (at_builtin; refine Lib.wpList_append_run _ rfl _ _ _ _ rfl _ _ rfl rfl _ _ hr2 ?_; clear hr2)
        | (go_at_call 43; (with_reducible refine d3.mono ?_); rintro e w9 ⟨rfl, hw9⟩; have hw9 := hw9.symm; subst hw9)
        | (go_at_call 44; (with_reducible refine d4.mono ?_); rintro e w9 ⟨rfl, hw9⟩; have hw9 := hw9.symm; subst hw9))
        go_ret3
        exact HE.out _ HB4.out
end Go.Proofs.Ytldacjpkblffbaa
