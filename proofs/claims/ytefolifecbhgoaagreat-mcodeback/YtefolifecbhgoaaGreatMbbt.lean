import Derived.Test.YtefolifecbhgoaaGreatMbbq
import Derived.Test.YtefolifecbhgoaaGreatMbbs
namespace Go.Proofs.YtefolifecbhgoaaGreat
open Go.RowKit Gf2
set_option linter.unusedVariables false


section
variable {w : World} {c : Nat} {Fp FT : Nat → Prop} {p : Addr} {lo hi : Nat} {rows : Value} {t : Nat} {f : Int} {k m b N : Nat} {L : List (Nat × Ent)}
set_option maxHeartbeats 4000000 in
set_option maxRecDepth 100000 in
theorem factors17_put (h : Co w c Fp FT p lo hi rows t f k m b N L) (P : Nat → Bool) (R : Nat → List (Nat × Ent) → Prop) (h1 : 1 ≤ (ems P (k + m)).length) (h2 : (ems P (k + m)).length ≤ m) (u v : Value)
    (hu : Qi w u (ems (fun i => !P i) (k + m)).length (emz (fun i => !P i) (k + m))) (hv : Qi w v (ems P (k + m)).length (emz P (k + m)))
    (hnew : ∀ b x, (b, x) ∈ L → x.key ≠ tk12 (emz P (k + m)) (ems P (k + m)).length) 
    (hput : ∀ w1 d, Below w.heap.size w w1 → Ll FT w1 d (ems P (k + m)).length (fun _ => k) (dec17 f k m P) → Calls Tryz.prog 124 #[.pointer (some ⟨t, 0, none⟩), v, d] w1 fun e w' => e = .returned (.int .i64 0) ∧ ∃ N' L', R N' L' ∧ Pt w1 w' FT t 16 N' L') :
    Calls Tryz.prog 85 #[.pointer (some ⟨c, 0, none⟩), u, v] w fun e w' => ∃ d, e = .returned d ∧ Fz17 w w' c Fp d f k m b R P := by
  have hs := h.hs
  obtain ⟨r, B, MB, K, mm, ov, hT⟩ := h.tv
  have c1 := get12_no hT v _ _ hv (fun i hi => emz_wf17 (by omega) hi) hnew
  have c2 := decode17 (f := f) P u v w.drew h.hf h.hk h.hm h.hs h1 h2 hu hv
  have HO : Hid (∀ w1 d, Dn w.drew w1 d (ems P (k + m)).length k (dec17 f k m P) → Co w1 c Fp FT p lo hi rows t f k m b N L ∧ w1.cell? ⟨c, 5, none⟩ = some (.pointer (some ⟨t, 0, none⟩)) ∧
      Calls Tryz.prog 124 #[.pointer (some ⟨t, 0, none⟩), v, d] w1 fun e w' => e = .returned (.int .i64 0) ∧ Fz17 w w' c Fp d f k m b R P) := fun w1 d hD => by
    have hb : Below w.heap.size w w1 := undraw17 hD.bel
    have h' := h.below hb
    refine ⟨h', h'.c5, ?_⟩
    have hT' := hT.below hb
    obtain ⟨BD, hC⟩ := hD.an
    have hdl : Ll FT w1 d (ems P (k + m)).length (fun _ => k) (dec17 f k m P) := hC.ll (fun x a1 a2 e => by
      have := h.lt x (h.tf x e)
      have : w.heap.size ≤ x := a1
      omega)
    refine (hput w1 d hb hdl).mono ?_
    rintro e w' ⟨rfl, N', L', hR, hp⟩
    refine ⟨rfl, ?_, ?_⟩
    · obtain ⟨FT', hg, hf'⟩ := h'.grown hp
      refine ⟨_, _, _, ⟨_, _, _, _, _, _, hg⟩, hR, fun x e => ?_, w.heap.size, w1.heap.size, _, BD, Nat.le_refl _, hC.keep hp.ke (fun x a1 a2 e => ?_), fun x a1 a2 e => ?_, ?_⟩
      · rcases e with e | e
        · exact .inl e
        · rcases hf' x e with e | e
          · exact .inl (h.tf x e)
          · exact .inr (Nat.le_trans hb.size e)
      · have := h.lt x (h.tf x e)
        have : w.heap.size ≤ x := a1
        omega
      · rcases e with e | e
        · have := h.lt x e; omega
        · rcases hf' x e with e | e
          · have := h.lt x (h.tf x e); omega
          · omega
      · obtain ⟨g, F, hdg, hF⟩ := hD.ls
        obtain ⟨a, cc, e1, -, -, hf1⟩ := hC.form
        obtain ⟨g', e2, g1, -⟩ := hf1 h1
        rw [hdg] at e1
        cases e1
        cases e2
        exact ⟨g, _, F, hdg, Nat.le_refl _, hF.of_block (hp.ke.2 g hF.lt (fun e => by
          have := h.lt g (h.tf g e)
          have : w.heap.size ≤ g := g1
          omega))⟩
    · exact (ke_below hb _).trans (hp.ke.mono (fun x _ e => h.tf x e))
  have q0 : w.drew.cell? ⟨c, 0, none⟩ = _ := h.c0
  have q1 : w.drew.cell? ⟨c, 1, none⟩ = _ := h.c1
  have q2 : w.drew.cell? ⟨c, 2, none⟩ = _ := h.c2
  have q5 := h.c5
  have D1 : (((ems P (k + m)).length : Int) == 0) = false := beq_eq_false_iff_ne.2 (by omega)
  obtain ⟨-, -, va, vc, rfl, -⟩ := hv
  obtain ⟨-, -, ua, uc, rfl, -⟩ := hu
  clear h hT hs hnew hput h1 h2
  go_enter Tryz.func85, Tryz.ntmps85
  go_wp2_with (go_at_call 122; (with_reducible refine c1.mono ?_); rintro e w9 ⟨rfl, hw9⟩; have hw9 := hw9.symm; subst hw9; clear c1)
  clear q5
  refine region_planI (fun w' => w'.cell? ⟨c, 0, none⟩ = some (.int .i64 f) ∧ w'.cell? ⟨c, 1, none⟩ = some (.int .i64 (k : Int)) ∧ w'.cell? ⟨c, 2, none⟩ = some (.int .i64 (m : Int))) [0, 1, 2, 3, 4, 5, 6, 7, 8, 9, 10, 11, 12, 13, 14, 15, 16, 17, 18, 19] [14, 5] 51 ⟨q0, q1, q2⟩ (by kernel_rfl) (by kernel_rfl) (fun _ a d v _ h => by cases d <;> exact h) ?_
  simp only [atI, List.getElem?_cons_zero, List.getElem?_cons_succ]
  refine planH_step ?Af0 rfl (fun w' hS => ?sf0) rfl (fun K hK => ?nf0)
  case sf0 =>
    obtain ⟨y0, y1, y2⟩ := hS
    simp only [List.take_succ_cons, List.take_zero]
    repeat still_step
    exact rfl
  case nf0 =>
  go_simp
  go_wp2_with (go_at_call 123; (with_reducible refine c2.mono ?_); rintro e w1 ⟨d, rfl, hD⟩; clear c2; obtain ⟨HC, q5, c3⟩ := HO.out w1 d hD)
  refine hK _ _ ⟨HC.c0, HC.c1, HC.c2⟩ ?_
  clear hK K
  refine planH_last ?Af1 rfl (fun w' hS => ?sf1) rfl ?nf1
  case sf1 =>
    obtain ⟨y0, y1, y2⟩ := hS
    simp only [List.take_succ_cons, List.take_zero]
    repeat still_step
    exact rfl
  case nf1 =>
  clear HC HO q0 q1 q2
  have HD : Hid _ := hD
  clear hD
  obtain ⟨da, dl, dc, hd⟩ : ∃ da dl dc, d = .slice da dl dc := by
    obtain ⟨V, ⟨-, a, c, e, -⟩, -⟩ := HD.out.lb
    exact ⟨_, _, _, e⟩
  subst hd
  go_wp2_with (go_at_call 124; (with_reducible refine c3.mono ?_); rintro e w3 ⟨rfl, hF⟩; clear c3)
  go_ret
  exact ⟨_, rfl, hF⟩
theorem factors17_any (h : Co w c Fp FT p lo hi rows t f k m b N L) (P : Nat → Bool) (h1 : 1 ≤ (ems P (k + m)).length) (h2 : (ems P (k + m)).length ≤ m) (u v : Value)
    (hu : Qi w u (ems (fun i => !P i) (k + m)).length (emz (fun i => !P i) (k + m))) (hvk : ∀ w', Ke Fp w w' → Qi w' v (ems P (k + m)).length (emz P (k + m))) (hci : Ci17 f k m L) (hN : N ≤ 1152921504606846976) :
    Calls Tryz.prog 85 #[.pointer (some ⟨c, 0, none⟩), u, v] w fun e w' => ∃ d, e = .returned d ∧ Fz17 w w' c Fp d f k m b (fun N' L' => N' ≤ N + 256 ∧ Ci17 f k m L') P := by
  have hv := hvk w (Ke.refl _ _)
  by_cases hold : ∃ eb x, (eb, x) ∈ L ∧ x.key = tk12 (emz P (k + m)) (ems P (k + m)).length
  · obtain ⟨eb, x, hx, hk⟩ := hold
    obtain ⟨Q, rfl⟩ := hci _ _ hx
    have e := ent_eq17 (f := f) (key_ems17 (P := Q) (Q := P) hk)
    rw [e] at hx
    have hnd : (L.map (·.1)).Nodup := by
      obtain ⟨r, B, MB, K, mm, ov, hT⟩ := h.tv
      exact hT.nd
    refine (factors17_hit h P h1 h2 u v hu hv eb hx).mono ?_
    rintro e w' ⟨d, rfl, hF⟩
    refine ⟨d, rfl, hF.weak ?_⟩
    rintro N' L' ⟨rfl, rfl⟩
    exact ⟨by omega, fun b x hm => hci b x ((us12_mem hnd hx _).1 hm)⟩
  · have hnew : ∀ b x, (b, x) ∈ L → x.key ≠ tk12 (emz P (k + m)) (ems P (k + m)).length := fun b x hx e => hold ⟨b, x, hx, e⟩
    have hs := h.hs
    refine factors17_put h P _ h1 h2 u v hu hv hnew (fun w1 d hb hdl => ?_)
    obtain ⟨r, B, MB, K, mm, ov, hT⟩ := h.tv
    have hT' := hT.below hb
    have hcat : ∀ (L0 : List (Nat × Ent)) (eb : Nat), (∀ b x, (b, x) ∈ L0 → (b, x) ∈ L) → Ci17 f k m (L0 ++ [(eb, ent17 f k m P)]) := fun L0 eb hs b x hm => by
      rcases List.mem_append.1 hm with hm | hm
      · exact hci b x (hs b x hm)
      · rw [List.mem_singleton] at hm
        cases hm
        exact ⟨P, rfl⟩
    by_cases hroom : L.length < 16
    · refine (put12_new hT' v d _ _ (hv.below hb) (fun i hi => emz_wf17 (by omega) hi) (emz_key17 (by omega)) hnew hroom (by omega) _ (fun _ => k) (dec17 f k m P) hdl (by omega) (fun i hi => by omega)).mono ?_
      rintro e w' ⟨rfl, eb, hp⟩
      exact ⟨rfl, _, _, ⟨by omega, hcat L eb (fun _ _ e => e)⟩, hp⟩
    · cases L with
      | nil => exact absurd (Nat.zero_lt_succ 15) hroom
      | cons z0 L0 =>
        obtain ⟨eb0, x0⟩ := z0
        refine (put12_full hT' v d _ _ (fun w' hk => hvk w' ((ke_below hb Fp).trans (hk.mono (fun x _ e => h.tf x e)))) (fun i hi => emz_wf17 (by omega) hi) (emz_key17 (by omega)) hnew (by rw [List.length_cons] at hroom; omega) (by omega) _ (fun _ => k) (dec17 f k m P) hdl (by omega) (fun i hi => by omega)).mono ?_
        rintro e w' ⟨rfl, eb, hp⟩
        exact ⟨rfl, _, _, ⟨by omega, hcat L0 eb (fun _ _ e => List.mem_cons_of_mem _ e)⟩, hp⟩
theorem plan17_any (h : Co w c Fp FT p lo hi rows t f k m b N L) (P : Nat → Bool) (h1 : 1 ≤ (ems P (k + m)).length) (h2 : (ems P (k + m)).length ≤ m) (v : Value) (hvk : ∀ w', Ke Fp w w' → Qi w' v (ems P (k + m)).length (emz P (k + m))) (hci : Ci17 f k m L) (hN : N ≤ 1152921504606846976) :
    Calls Tryz.prog 43 #[.pointer (some ⟨c, 0, none⟩), v] w fun e w' => ∃ pl, e = .returned (.tuple #[pl, .int .i64 0]) ∧ Pz17 w w' c Fp pl f k m b (fun N' L' => N' ≤ N + 256 ∧ Ci17 f k m L') P :=
  plan17_z h P _ h1 h2 v (hvk w (Ke.refl _ _)) (fun w2 u2 hb hu hv => factors17_any (h.below hb) P h1 h2 u2 v hu (fun w' hk => hvk w' ((ke_below hb Fp).trans hk)) hci hN)
end
end Go.Proofs.YtefolifecbhgoaaGreat
