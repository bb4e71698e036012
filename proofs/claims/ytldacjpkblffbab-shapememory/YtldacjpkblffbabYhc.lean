import Derived.Test.YtldacjpkblffbabYhb
namespace Go.Proofs.Ytldacjpkblffbab
open Go.RowKit Gf2
set_option linter.unusedVariables false

-- layer 16: Params of the document, Uses, Length
theorem prm_four {f k m : Int} (h : f = 0 ∨ f = 1 ∨ f = 2) (hn : ¬ Pv f k m) : prm f k m = 4 := by
  have h0 : prm f k m ≠ 0 := fun e => hn (prm_ok.1 e)
  unfold prm rm16 at *
  by_cases h1 : f = 0 ∨ f = 1
  · rw [if_pos h1] at h0 ⊢
    split
    · rfl
    · rename_i h2; rw [if_neg h2] at h0; exact absurd rfl h0
  · rw [if_neg h1, if_pos (by omega)] at h0 ⊢
    split
    · rfl
    · rename_i h2; rw [if_neg h2] at h0; exact absurd rfl h0
theorem prm_fam {f k m : Int} (h : ¬ (f = 0 ∨ f = 1 ∨ f = 2)) : prm f k m = 2 := by
  unfold prm
  rw [if_neg (by omega), if_neg (by omega)]
set_option maxHeartbeats 2000000 in
set_option maxRecDepth 100000 in
theorem rparams16 (f k m : Int) (w : World) :
    Calls Try.prog 15 #[.int .i64 f, .int .i64 k, .int .i64 m] w fun e w' => e = .returned (.int .i64 (prm f k m)) ∧ w' = w := by
  obtain ⟨z, hz⟩ : ∃ z, z = prm f k m := ⟨_, rfl⟩
  rw [← hz]
  have HZ : Hid (z = prm f k m) := hz
  clear hz
  have c2 := fun x => pow16r m x
  by_cases hf : f = 0 ∨ f = 1 ∨ f = 2
  case neg =>
    have D0 : (f == 0) = false := by simp; omega
    have D1 : (f == 1) = false := by simp; omega
    have D2 : (f == 2) = false := by simp; omega
    have E0 : (f != 0) = true := by simp; omega
    have E1 : (f != 1) = true := by simp; omega
    have E2 : (f != 2) = true := by simp; omega
    have hz := HZ.out.trans (prm_fam hf)
    subst hz
    clear hf HZ c2
    go_enter Try.func15, Try.ntmps15
    go_wp2
    go_ret
    exact ⟨rfl, rfl⟩
  case pos =>
    have h4 : ¬ Pv f k m → z = 4 := fun h => HZ.out.trans (prm_four hf h)
    have h0 : Pv f k m → z = 0 := fun h => HZ.out.trans (prm_ok.2 h)
    have T : ∀ (b1 b2 b3 b4 : Bool), decide (k < 1) = b1 → decide (m < 1) = b2 → decide (65536 < k) = b3 → decide (65536 < m) = b4 → (b1 || b2 || b3 || b4) = true →
        Calls Try.prog 15 #[.int .i64 f, .int .i64 k, .int .i64 m] w fun e w' => e = .returned (.int .i64 z) ∧ w' = w := by
      intro b1 b2 b3 b4 e1 e2 e3 e4 hb
      have hz : z = 4 := h4 (fun h => by
        have := h.hk; have := h.hm; have := h.sum
        subst e1 e2 e3 e4
        simp at hb
        omega)
      subst hz
      clear h4 h0 HZ c2
      have HB : Hid ((b1 || b2 || b3 || b4) = true) := hb
      clear hb
      rcases hf with rfl | rfl | rfl <;> cases b1 <;> cases b2 <;> cases b3 <;> cases b4
      all_goals first
        | exact absurd HB.out (by decide)
        | (go_enter Try.func15, Try.ntmps15
           go_wp2
           go_ret
           exact ⟨rfl, rfl⟩)
    by_cases hr : k < 1 ∨ m < 1 ∨ 65536 < k ∨ 65536 < m
    · exact T _ _ _ _ rfl rfl rfl rfl (by rcases hr with h | h | h | h <;> simp [h])
    · have D1 : decide (k < 1) = false := by simp; omega
      have D2 : decide (m < 1) = false := by simp; omega
      have D3 : decide (65536 < k) = false := by simp; omega
      have D4 : decide (65536 < m) = false := by simp; omega
      by_cases h2 : f = 2
      · subst h2
        have hp : p2z m = (p2 m.toNat : Int) := by unfold p2z; rw [if_neg (by omega)]
        have hpt := p2_top (n := m.toNat) (by omega) (by omega)
        have hpl := p2_lo (n := m.toNat) (by omega)
        have W1 : wrap64 (p2z m + k) = p2z m + k := by rw [hp]; unfold wrap64; omega
        have hq : 65536 < p2z m + k ↔ ¬ Pv 2 k m := by
          constructor
          · intro h hv; have := hv.long rfl; omega
          · intro h
            rcases Int.lt_or_le 65536 (p2z m + k) with h9 | h9
            · exact h9
            · exact absurd ⟨.inr (.inr rfl), by omega, by omega, by omega, fun h => absurd rfl h, fun _ => by omega⟩ h
        by_cases h3 : 65536 < p2z m + k
        · have hz := h4 (hq.1 h3)
          subst hz
          generalize p2z m = p at *
          generalize p2e m = pe at *
          have D5 : decide (65536 < p + k) = true := by simpa using h3
          clear T hf h4 h0 hr hq h3 HZ hp hpt hpl
          go_enter Try.func15, Try.ntmps15
          go_wp2_with (go_at_call 28; ((with_reducible refine (c2 _).mono ?_); rintro e w' ⟨rfl, rfl⟩))
          go_ret
          exact ⟨rfl, rfl⟩
        · have hz := h0 (by
            rcases Classical.em (Pv 2 k m) with h | h
            · exact h
            · exact absurd (hq.2 h) h3)
          subst hz
          generalize p2z m = p at *
          generalize p2e m = pe at *
          have D5 : decide (65536 < p + k) = false := by simpa using h3
          clear T hf h4 h0 hr hq h3 HZ hp hpt hpl
          go_enter Try.func15, Try.ntmps15
          go_wp2_with (go_at_call 28; ((with_reducible refine (c2 _).mono ?_); rintro e w' ⟨rfl, rfl⟩))
          go_ret
          exact ⟨rfl, rfl⟩
      · have W1 : wrap64 (k + m) = k + m := by unfold wrap64; omega
        by_cases h3 : 256 < k + m
        · have hz := h4 (fun h => by have := h.small h2; omega)
          subst hz
          have D5 : decide (256 < k + m) = true := by simpa using h3
          clear T h4 h0 hr h3 HZ c2
          rcases hf with rfl | rfl | rfl
          · go_enter Try.func15, Try.ntmps15
            go_wp2
            go_ret
            exact ⟨rfl, rfl⟩
          · go_enter Try.func15, Try.ntmps15
            go_wp2
            go_ret
            exact ⟨rfl, rfl⟩
          · exact absurd rfl h2
        · have hz := h0 ⟨hf, by omega, by omega, by omega, fun _ => by omega, fun h => absurd h h2⟩
          subst hz
          have D5 : decide (256 < k + m) = false := by simpa using h3
          clear T h4 h0 hr h3 HZ c2
          rcases hf with rfl | rfl | rfl
          · go_enter Try.func15, Try.ntmps15
            go_wp2
            go_ret
            exact ⟨rfl, rfl⟩
          · go_enter Try.func15, Try.ntmps15
            go_wp2
            go_ret
            exact ⟨rfl, rfl⟩
          · exact absurd rfl h2
end Go.Proofs.Ytldacjpkblffbab
