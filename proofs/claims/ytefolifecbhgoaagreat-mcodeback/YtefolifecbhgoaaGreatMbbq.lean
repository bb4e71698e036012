import Derived.Test.YtefolifecbhgoaaGreatMbbo
import Derived.Test.YtefolifecbhgoaaGreatMbbp
import Derived.Test.YtefolifecbhgoaaGreatMbbe
import Derived.Test.YtefolifecbhgoaaGreatMbbk
namespace Go.Proofs.YtefolifecbhgoaaGreat
open Go.RowKit Gf2
set_option linter.unusedVariables false


set_option maxHeartbeats 2000000 in
set_option maxRecDepth 100000 in
theorem clone17 (v : Value) (N : Nat) (S : Nat → Int) (w : World) (hv : Qi w v N S) (h0 : 1 ≤ N) (hN : N ≤ 1000) :
    Calls Tryz.prog 84 #[v] w fun e w' => ∃ u, e = .returned u ∧ Gi w w' u N S := by
  obtain ⟨-, -, a, cap, rfl, -, -, h4⟩ := hv
  obtain ⟨b, o, rfl, hl, hc⟩ := h4 (by omega)
  have b0 : Below w.heap.size w (w.alloc (.cells #[] 3)) := (Below.refl _ _).alloc (Nat.le_refl _) _
  have r0 : Ri (w.alloc (.cells #[] 3)) w.heap.size 0 (fun _ => 0) := ⟨by decide, trivial, _, heap_alloc_new _ _, rfl, fun i hi => absurd hi (Nat.not_lt_zero _)⟩
  have hz : (w.alloc (.cells #[] 3)).heap.size = w.heap.size + 1 := by simp
  obtain ⟨w', g', C', F', hrun, k1, k2, k3, k4, k5⟩ := appi (w.alloc (.cells #[] 3)) r0 (Nat.le_refl 0) (x := some ⟨b, o, none⟩) (n := N) (cx := cap) (S := S) (fun _ => ⟨b, o, rfl, fun i hi => (b0.cell (p := ⟨b, o + i, none⟩) hl).trans (hc i hi)⟩) (by omega)
  rw [Nat.zero_add] at hrun k1
  have HG : Hid (Gi w w' (.slice (some ⟨g', 0, none⟩) N C') N S) := by
    refine ⟨?_, .inr ⟨g', C', F', rfl, k1, ?_, k2, fun i hi => by have := k4 i hi; rw [Nat.zero_add] at this; exact this⟩⟩
    · rcases k5 with ⟨e, ho⟩ | ⟨e, -, hb⟩
      · exact b0.trans (ho.kp.ke.below (fun x hx => by omega) (by omega))
      · exact b0.trans (hb.mono (by omega))
    · rcases k5 with ⟨e, ho⟩ | ⟨e, -, hb⟩ <;> omega
  clear h4 hc b0 r0 hz k1 k2 k3 k4 k5 h0 hN
  have hnil : ∀ W : World, Sem.run Tryz.prog (binOp BinOp.eql 40 (Value.slice (some ⟨b, o, none⟩) N cap) (Value.slice none 0 0)) W = .ok (.bool false) W := fun W => by
    kernel_rfl
  go_enter Tryz.func84, Tryz.ntmps84
  go_wp2_with (at_builtin; go_loud (refine Lib.wpList_append_run _ rfl _ _ _ _ rfl _ _ rfl rfl _ _ hrun ?_))
  go_ret
  exact ⟨_, rfl, HG.out⟩
section
variable {w w' : World} {c : Nat} {Fp FT : Nat → Prop} {p : Addr} {lo hi : Nat} {rows : Value} {t : Nat} {f : Int} {k m b N : Nat} {L : List (Nat × Ent)}
theorem Co.grown (h : Co w c Fp FT p lo hi rows t f k m b N L) {N' : Nat} {L' : List (Nat × Ent)} (hp : Pt w w' FT t 16 N' L') :
    ∃ FT', Co w' c (fun x => Fp x ∨ FT' x) FT' p lo hi rows t f k m b N' L' ∧ (∀ x, FT' x → FT x ∨ w.heap.size ≤ x) := by
  obtain ⟨FT', r, B, MB, K, mm, ov, hT, hf⟩ := hp.tv
  have hk := hp.ke
  refine ⟨FT', ⟨(hk.2 c (h.lt c h.cf.1) h.cf.2).trans h.blk, h.ks.keep (Nat.le_trans h.ks.hi hk.size) (fun x h1 h2 => hk.2 x (h.lt x (h.kf x h1 h2).1) (h.kf x h1 h2).2), fun x h1 h2 => ⟨.inl (h.kf x h1 h2).1, fun e => ?_⟩, (h.rs.ke (hk.mono (fun x _ e => .inr e))).mono (fun x hx e => ?_), ⟨r, B, MB, K, mm, ov, hT⟩, fun x e => .inr e, ⟨.inl h.cf.1, fun e => ?_⟩, fun x e => ?_, h.hf, h.hk, h.hm, h.hs⟩, hf⟩
  · rcases hf x e with e1 | e1
    · exact (h.kf x h1 h2).2 e1
    · have := h.lt x (h.kf x h1 h2).1; omega
  · rcases e with e | e
    · exact .inl (fun e2 => e (.inl e2))
    · rcases hf x e with e1 | e1
      · exact .inr e1
      · exact .inl (fun e2 => by have := h.lt x e2; omega)
  · rcases hf c e with e1 | e1
    · exact h.cf.2 e1
    · have := h.lt c h.cf.1; omega
  · rcases e with e | e
    · exact Nat.lt_of_lt_of_le (h.lt x e) hk.size
    · exact hT.fl x e
theorem Us.pt {r : Nat} {B : List Int → Option Nat} {MB : Nat → Nat} {K : List Int → Option Nat} {mm l : Nat} {L' : List (Nat × Ent)} (h : Us w w' Fp t l r N B MB K mm L') (ht : Fp t) : Pt w w' Fp t l N L' := by
  obtain ⟨ov, hT⟩ := h.tt
  exact ⟨⟨_, r, B, MB, K, mm, ov, hT, fun q e => e.imp id (fun e => by omega)⟩, h.ke.mono (fun x _ e => by rw [e]; exact ht)⟩
end
def tg17 (f : Int) (k m : Nat) : Nat → Nat → Nat := bdd (k + m) k (gen11 f k)
def dec17 (f : Int) (k m : Nat) (P : Nat → Bool) : Nat → Nat → Nat := mm k (fun i j => tg17 f k m (eN P (k + m) i) j) (sol k (fun i j => tg17 f k m (eN (fun i => !P i) (k + m) i) j) idm)
theorem tg17_lt {f : Int} {k m : Nat} (hs : k + m ≤ 256) (i j : Nat) : tg17 f k m i j < 256 := by
  show (if i < k + m ∧ j < k then gen11 f k i j else 0) < 256
  split
  case isTrue h =>
    unfold gen11
    split
    · unfold idm; split <;> decide
    · exact par11_lt (by omega) (by omega) (by omega)
  case isFalse h => decide
theorem any17 {f : Int} {k m : Nat} (hf : f = 0 ∨ f = 1) (hs : k + m ≤ 256) {R : Nat → Nat} (hR : ∀ i, i < k → R i < k + m) (inj : ∀ i j, j < i → i < k → R i ≠ R j) : (elm k (fun i j => tg17 f k m (R i) j) k).t = k :=
  any_rows (T := tg17 f k m) (n := k + m) (fun i hi j hj => (bdd_in hi hj).symm) hf (by omega) hs hR inj (fun i j => tg17_lt hs _ _)
section
variable {w : World} {c : Nat} {Fp FT : Nat → Prop} {p : Addr} {lo hi : Nat} {rows : Value} {t : Nat} {f : Int} {k m b N : Nat} {L : List (Nat × Ent)}
theorem decode17 (P : Nat → Bool) (u v : Value) (w : World) (hf : f = 0 ∨ f = 1) (hk : 1 ≤ k) (hm : 1 ≤ m) (hs : k + m ≤ 256) (h1 : 1 ≤ (ems P (k + m)).length) (h2 : (ems P (k + m)).length ≤ m)
    (hu : Qi w u (ems (fun i => !P i) (k + m)).length (emz (fun i => !P i) (k + m))) (hv : Qi w v (ems P (k + m)).length (emz P (k + m))) :
    Calls Tryz.prog 123 #[.int .i64 f, .int .i64 (k : Int), .int .i64 (m : Int), u, v] w fun e w' => ∃ d, e = .returned (.tuple #[d, .int .i64 0]) ∧ Dn w w' d (ems P (k + m)).length k (dec17 f k m P) := by
  have hb := ems_both P (k + m)
  exact decoder11_yes f k m (ems (fun i => !P i) (k + m)).length (ems P (k + m)).length (eN (fun i => !P i) (k + m)) (eN P (k + m)) (tg17 f k m) (fun i hi j hj => (bdd_in hi hj).symm) u v w hf hk hm hs hu hv (by omega) (by omega) h1 (by omega)
    (fun i hi => (eN_mem hi).1) (fun i j a b => eN_lt a b) (fun i hi => (eN_mem hi).1) (fun i j a b => eN_lt a b) (fun i j => tg17_lt hs i j)
    (any17 hf hs (fun i hi => (eN_mem (by omega)).1) (fun i j a b e => by have := eN_inj (P := fun i => !P i) (n := k + m) (by omega) (by omega) e; omega))
end
end Go.Proofs.YtefolifecbhgoaaGreat
namespace Go.Proofs.YtefolifecbhgoaaGreat
open Go.RowKit Gf2
set_option linter.unusedVariables false


theorem emz_key17 {P : Nat → Bool} {n : Nat} (hn : n ≤ 256) : isKf (emz P n) 0 0 (ems P n).length = true := by
  rw [isKf_iff]
  refine ⟨fun i hi => ?_, fun i j hij hj => ?_⟩
  · rw [Nat.zero_add, emz_eN]
    have := (eN_mem hi).1
    omega
  · rw [Nat.zero_add, Nat.zero_add, emz_eN, emz_eN]
    have := eN_lt hij hj
    omega
theorem emz_wf17 {P : Nat → Bool} {n i : Nat} (hn : n ≤ 256) (hi : i < (ems P n).length) : (Lit.int .i64 (emz P n i)).wf = true := by
  rw [emz_eN]
  have := (eN_mem hi).1
  have h1 : IntKind.i64.min = -9223372036854775808 := by decide
  have h2 : IntKind.i64.max = 9223372036854775807 := by decide
  show (decide (IntKind.i64.min ≤ (eN P n i : Int)) && decide ((eN P n i : Int) ≤ IntKind.i64.max)) = true
  rw [h1, h2, Bool.and_eq_true, decide_eq_true_iff, decide_eq_true_iff]
  exact ⟨by omega, by omega⟩
def ent17 (f : Int) (k m : Nat) (P : Nat → Bool) : Ent := ⟨(ems P (k + m)).length, emz P (k + m), (ems P (k + m)).length, fun _ => k, dec17 f k m P⟩
structure Fa17 (w w' : World) (c : Nat) (Fp : Nat → Prop) (d : Value) (f : Int) (k m b N : Nat) (L : List (Nat × Ent)) (P : Nat → Bool) : Prop where
  co : ∃ Fp' N' L', Cd w' c Fp' f k m b N' L' ∧ (∀ x, Fp' x → Fp x ∨ w.heap.size ≤ x) ∧ N' ≤ N + 256 ∧ L'.length = L.length + 1 ∧ (∀ b x, (b, x) ∈ L' → (b, x) ∈ L ∨ x = ent17 f k m P) ∧ Ll (fun x => x < w.heap.size ∨ Fp' x) w' d (ems P (k + m)).length (fun _ => k) (dec17 f k m P)
  ke : Ke Fp w w'
section
variable {w : World} {c : Nat} {Fp FT : Nat → Prop} {p : Addr} {lo hi : Nat} {rows : Value} {t : Nat} {f : Int} {k m b N : Nat} {L : List (Nat × Ent)}
set_option maxHeartbeats 4000000 in
set_option maxRecDepth 100000 in
theorem factors17_new (h : Co w c Fp FT p lo hi rows t f k m b N L) (P : Nat → Bool) (h1 : 1 ≤ (ems P (k + m)).length) (h2 : (ems P (k + m)).length ≤ m) (u v : Value)
    (hu : Qi w u (ems (fun i => !P i) (k + m)).length (emz (fun i => !P i) (k + m))) (hv : Qi w v (ems P (k + m)).length (emz P (k + m)))
    (hnew : ∀ b x, (b, x) ∈ L → x.key ≠ tk12 (emz P (k + m)) (ems P (k + m)).length) (hroom : L.length < 16) (hN : N ≤ 1000000) :
    Calls Tryz.prog 85 #[.pointer (some ⟨c, 0, none⟩), u, v] w fun e w' => ∃ d, e = .returned d ∧ Fa17 w w' c Fp d f k m b N L P := by
  have hs := h.hs
  obtain ⟨r, B, MB, K, mm, ov, hT⟩ := h.tv
  have c1 := get12_no hT v _ _ hv (fun i hi => emz_wf17 (by omega) hi) hnew
  have c2 := decode17 (f := f) P u v w.drew h.hf h.hk h.hm h.hs h1 h2 hu hv
  have HO : Hid (∀ w1 d, Dn w.drew w1 d (ems P (k + m)).length k (dec17 f k m P) → Co w1 c Fp FT p lo hi rows t f k m b N L ∧ w1.cell? ⟨c, 5, none⟩ = some (.pointer (some ⟨t, 0, none⟩)) ∧
      Calls Tryz.prog 124 #[.pointer (some ⟨t, 0, none⟩), v, d] w1 fun e w' => e = .returned (.int .i64 0) ∧ Fa17 w w' c Fp d f k m b N L P) := fun w1 d hD => by
    have hb : Below w.heap.size w w1 := undraw17 hD.bel
    have h' := h.below hb
    refine ⟨h', h'.c5, ?_⟩
    have hT' := hT.below hb
    obtain ⟨BD, hC⟩ := hD.an
    have hdl : Ll FT w1 d (ems P (k + m)).length (fun _ => k) (dec17 f k m P) := hC.ll (fun x a1 a2 e => by
      have := h.lt x (h.tf x e)
      have : w.heap.size ≤ x := a1
      omega)
    refine (put12_new hT' v d _ _ (hv.below hb) (fun i hi => emz_wf17 (by omega) hi) (emz_key17 (by omega)) hnew hroom (by omega) _ (fun _ => k) (dec17 f k m P) hdl (by omega) (fun i hi => by omega)).mono ?_
    rintro e w' ⟨rfl, eb, hp⟩
    refine ⟨rfl, ?_, ?_⟩
    · obtain ⟨FT', hg, hf'⟩ := h'.grown hp
      refine ⟨_, _, _, ⟨_, _, _, _, _, _, hg⟩, fun x e => ?_, by omega, by simp, fun b x hx => ?_, ?_⟩
      · rcases e with e | e
        · exact .inl e
        · rcases hf' x e with e | e
          · exact .inl (h.tf x e)
          · exact .inr (Nat.le_trans hb.size e)
      · rcases List.mem_append.1 hx with e | e
        · exact .inl e
        · rw [List.mem_singleton] at e
          cases e
          exact .inr rfl
      · have hC' := hC.keep hp.ke (fun x a1 a2 e => by
          have := h.lt x (h.tf x e)
          have : w.heap.size ≤ x := a1
          omega)
        exact hC'.ll (fun x a1 a2 e => by
          have a3 : w.heap.size ≤ x := a1
          rcases e with e | e | e
          · omega
          · have := h.lt x e; omega
          · rcases hf' x e with e | e
            · have := h.lt x (h.tf x e); omega
            · omega)
    · exact (ke_below hb _).trans (hp.ke.mono (fun x _ e => h.tf x e))
  have q0 : w.drew.cell? ⟨c, 0, none⟩ = _ := h.c0
  have q1 : w.drew.cell? ⟨c, 1, none⟩ = _ := h.c1
  have q2 : w.drew.cell? ⟨c, 2, none⟩ = _ := h.c2
  have q5 := h.c5
  have D1 : (((ems P (k + m)).length : Int) == 0) = false := beq_eq_false_iff_ne.2 (by omega)
  obtain ⟨-, -, va, vc, rfl, -⟩ := hv
  obtain ⟨-, -, ua, uc, rfl, -⟩ := hu
  clear h hT hs hnew hroom hN h1 h2
  go_enter Tryz.func85, Tryz.ntmps85
  go_wp2_with (go_at_call 122; (with_reducible refine c1.mono ?_); rintro e w9 ⟨rfl, hw9⟩; have hw9 := hw9.symm; subst hw9; clear c1)
  clear q5
  refine region_planI (fun w' => w'.cell? ⟨c, 0, none⟩ = some (.int .i64 f) ∧ w'.cell? ⟨c, 1, none⟩ = some (.int .i64 (k : Int)) ∧ w'.cell? ⟨c, 2, none⟩ = some (.int .i64 (m : Int))) [0, 1, 2, 3, 4, 5, 6, 7, 8, 9, 10, 11, 12, 13, 14, 15, 16, 17, 18, 19] [14, 5] 51 ⟨q0, q1, q2⟩ (by kernel_rfl) (by kernel_rfl) (fun _ a d v _ h => by cases d <;> exact h) ?_
  simp only [atI, List.getElem?_cons_zero, List.getElem?_cons_succ]
  refine planH_step ?Af0 rfl (fun w' hS => ?sf0) rfl (fun K hK => ?nf0)
  case sf0 =>
    obtain ⟨y0, y1, y2⟩ := hS
    simp only [List.take_succ_cons, List.take_zero]
    repeat still_step
    exact rfl
  case nf0 =>
  go_simp
  go_wp2_with (go_at_call 123; (with_reducible refine c2.mono ?_); rintro e w1 ⟨d, rfl, hD⟩; clear c2; obtain ⟨HC, q5, c3⟩ := HO.out w1 d hD)
  refine hK _ _ ⟨HC.c0, HC.c1, HC.c2⟩ ?_
  clear hK K
  refine planH_last ?Af1 rfl (fun w' hS => ?sf1) rfl ?nf1
  case sf1 =>
    obtain ⟨y0, y1, y2⟩ := hS
    simp only [List.take_succ_cons, List.take_zero]
    repeat still_step
    exact rfl
  case nf1 =>
  clear HC HO q0 q1 q2
  have HD : Hid _ := hD
  clear hD
  obtain ⟨da, dl, dc, hd⟩ : ∃ da dl dc, d = .slice da dl dc := by
    obtain ⟨V, ⟨-, a, c, e, -⟩, -⟩ := HD.out.lb
    exact ⟨_, _, _, e⟩
  subst hd
  go_wp2_with (go_at_call 124; (with_reducible refine c3.mono ?_); rintro e w3 ⟨rfl, hF⟩; clear c3)
  go_ret
  exact ⟨_, rfl, hF⟩
theorem len17 (h : Co w c Fp FT p lo hi rows t f k m b N L) :
    Calls Tryz.prog 37 #[.pointer (some ⟨t, 0, none⟩)] w fun e w' => e = .returned (.int .i64 (L.length : Nat)) ∧ w' = w := by
  obtain ⟨r, B, MB, K, mm, ov, hT⟩ := h.tv
  have hTb : w.heap[t]? = some (.cells #[.int .i64 ((16 : Nat) : Int), .pointer (some ⟨r, 0, none⟩), .int .i64 (mm : Int), ov] 115 (0, 0)) := hT.tb
  have q3 : w.cell? ⟨t, 3, none⟩ = some ov := by rw [cell_of_row _ _ 3 _ _ _ hTb]; rfl
  obtain ⟨a, cap, e, -⟩ := hT.od.qp
  rw [List.length_map] at e
  subst e
  clear h hT hTb
  go_enter Tryz.func37, Tryz.ntmps37
  go_wp2
  go_ret
  exact ⟨rfl, rfl⟩
theorem Cached17 (h : Co w c Fp FT p lo hi rows t f k m b N L) :
    Calls Tryz.prog 22 #[.pointer (some ⟨c, 0, none⟩)] w fun e w' => e = .returned (.int .i64 (L.length : Nat)) ∧ w' = w := by
  have c1 := len17 h
  have q5 := h.c5
  clear h
  go_enter Tryz.func22, Tryz.ntmps22
  go_wp2_with (go_at_call 37; (with_reducible refine c1.mono ?_); rintro e w9 ⟨rfl, hw9⟩; have hw9 := hw9.symm; subst hw9; clear c1)
  go_ret
  exact ⟨rfl, rfl⟩
end
end Go.Proofs.YtefolifecbhgoaaGreat
namespace Go.Proofs.YtefolifecbhgoaaGreat
open Go.RowKit Gf2
set_option linter.unusedVariables false


def Ci17 (f : Int) (k m : Nat) (L : List (Nat × Ent)) : Prop := ∀ b x, (b, x) ∈ L → ∃ P, x = ent17 f k m P
structure Fz17 (w w' : World) (c : Nat) (Fp : Nat → Prop) (d : Value) (f : Int) (k m b : Nat) (R : Nat → List (Nat × Ent) → Prop) (P : Nat → Bool) : Prop where
  co : ∃ Fp' N' L', Cd w' c Fp' f k m b N' L' ∧ R N' L' ∧ (∀ x, Fp' x → Fp x ∨ w.heap.size ≤ x) ∧ ∃ dlo dhi DC DB, w.heap.size ≤ dlo ∧ Cs dlo dhi w' d (ems P (k + m)).length (fun _ => k) DC DB (dec17 f k m P) ∧ (∀ x, dlo ≤ x → x < dhi → ¬ Fp' x) ∧ ∃ g C F, d = .slice (some ⟨g, 0, none⟩) (ems P (k + m)).length C ∧ (ems P (k + m)).length ≤ C ∧ w'.rowIs g 27 C F
  ke : Ke Fp w w'
theorem Fz17.weak {w w' : World} {c : Nat} {Fp : Nat → Prop} {d : Value} {f : Int} {k m b : Nat} {R R' : Nat → List (Nat × Ent) → Prop} {P : Nat → Bool} (h : Fz17 w w' c Fp d f k m b R P) (hR : ∀ N L, R N L → R' N L) : Fz17 w w' c Fp d f k m b R' P := by
  obtain ⟨Fp', N', L', h1, h2, h3⟩ := h.co
  exact ⟨⟨Fp', N', L', h1, hR _ _ h2, h3⟩, h.ke⟩
theorem key_ems17 {P Q : Nat → Bool} {n : Nat} (h : tk12 (emz P n) (ems P n).length = tk12 (emz Q n) (ems Q n).length) : ems P n = ems Q n := by
  have hl : (ems P n).length = (ems Q n).length := by
    have := congrArg List.length h
    simpa [tk12] using this
  refine List.ext_getElem hl (fun i h1 h2 => ?_)
  have e := congrArg (fun l : List Int => l.getD i 0) h
  have g1 : (tk12 (emz P n) (ems P n).length).getD i 0 = emz P n i := by simp [tk12, List.getD, h1]
  have g2 : (tk12 (emz Q n) (ems Q n).length).getD i 0 = emz Q n i := by simp [tk12, List.getD, h2]
  have e' : emz P n i = emz Q n i := g1.symm.trans (e.trans g2)
  have e2 : ((ems P n).getD i 0) = ((ems Q n).getD i 0) := Int.ofNat.inj e'
  simpa [List.getD, h1, h2] using e2
theorem ems_eq17 {P Q : Nat → Bool} {n : Nat} (h : ems P n = ems Q n) : ∀ i, i < n → P i = Q i := fun i hi => by
  have h1 : i ∈ ems P n ↔ i ∈ ems Q n := by rw [h]
  have h2 : (i ∈ ems P n) ↔ P i = true := by unfold ems; rw [List.mem_filter, List.mem_range]; exact ⟨fun x => x.2, fun x => ⟨hi, x⟩⟩
  have h3 : (i ∈ ems Q n) ↔ Q i = true := by unfold ems; rw [List.mem_filter, List.mem_range]; exact ⟨fun x => x.2, fun x => ⟨hi, x⟩⟩
  rw [h2, h3] at h1
  cases hp : P i <;> cases hq : Q i <;> simp_all
theorem dec_eq17 {f : Int} {k m : Nat} {P Q : Nat → Bool} (h : ems P (k + m) = ems Q (k + m)) : dec17 f k m P = dec17 f k m Q := by
  have h2 : ems (fun i => !P i) (k + m) = ems (fun i => !Q i) (k + m) := ems_congr (fun i hi => by show (!P i) = (!Q i); rw [ems_eq17 h i hi])
  unfold dec17 eN
  rw [h, h2]
theorem ent_eq17 {f : Int} {k m : Nat} {P Q : Nat → Bool} (h : ems P (k + m) = ems Q (k + m)) : ent17 f k m P = ent17 f k m Q := by
  have e : emz P (k + m) = emz Q (k + m) := by funext i; unfold emz; rw [h]
  unfold ent17
  rw [dec_eq17 h, e, h]
theorem Vk.csg12 {w : World} {g m : Nat} {n B : Nat → Nat} {S : Nat → Nat → Nat} (h : Vv w g m n B S) (hm : m ≤ big) : Cs g w.heap.size w (.slice (some ⟨g, 0, none⟩) m m) m n n B S := by
  refine ⟨hm, Nat.le_refl _, ⟨_, _, rfl, Nat.le_refl _, hm, fun _ => ⟨g, rfl, Nat.le_refl _, h.list.lt, fun i hi => Nat.ne_of_gt (h.row i hi).1, fun i hi => ?_⟩⟩, fun i hi => ⟨Nat.le_of_lt (h.row i hi).1, (h.row i hi).2.lt, Nat.le_refl _, (h.row i hi).2⟩, h.inj⟩
  rw [h.list.cell hi, if_pos hi]
section
variable {w : World} {c : Nat} {Fp FT : Nat → Prop} {p : Addr} {lo hi : Nat} {rows : Value} {t : Nat} {f : Int} {k m b N : Nat} {L : List (Nat × Ent)}
theorem Co.grownF {w' : World} {FT' : Nat → Prop} (h : Co w c Fp FT p lo hi rows t f k m b N L) {r N' mm : Nat} {B : List Int → Option Nat} {MB : Nat → Nat} {K : List Int → Option Nat} {ov : Value} {L' : List (Nat × Ent)} (hT : Tt w' FT' t 16 r N' B MB K mm ov L') (hk : Ke FT w w') (hf : ∀ x, FT' x → FT x ∨ w.heap.size ≤ x) :
    Co w' c (fun x => Fp x ∨ FT' x) FT' p lo hi rows t f k m b N' L' := by
  refine ⟨(hk.2 c (h.lt c h.cf.1) h.cf.2).trans h.blk, h.ks.keep (Nat.le_trans h.ks.hi hk.size) (fun x h1 h2 => hk.2 x (h.lt x (h.kf x h1 h2).1) (h.kf x h1 h2).2), fun x h1 h2 => ⟨.inl (h.kf x h1 h2).1, fun e => ?_⟩, (h.rs.ke (hk.mono (fun x _ e => .inr e))).mono (fun x hx e => ?_), ⟨r, B, MB, K, mm, ov, hT⟩, fun x e => .inr e, ⟨.inl h.cf.1, fun e => ?_⟩, fun x e => ?_, h.hf, h.hk, h.hm, h.hs⟩
  · rcases hf x e with e1 | e1
    · exact (h.kf x h1 h2).2 e1
    · have := h.lt x (h.kf x h1 h2).1; omega
  · rcases e with e | e
    · exact .inl (fun e2 => e (.inl e2))
    · rcases hf x e with e1 | e1
      · exact .inr e1
      · exact .inl (fun e2 => by have := h.lt x e2; omega)
  · rcases hf c e with e1 | e1
    · exact h.cf.2 e1
    · have := h.lt c h.cf.1; omega
  · rcases e with e | e
    · exact Nat.lt_of_lt_of_le (h.lt x e) hk.size
    · exact hT.fl x e
set_option maxHeartbeats 4000000 in
set_option maxRecDepth 100000 in
theorem factors17_hit (h : Co w c Fp FT p lo hi rows t f k m b N L) (P : Nat → Bool) (h1 : 1 ≤ (ems P (k + m)).length) (h2 : (ems P (k + m)).length ≤ m) (u v : Value)
    (hu : Qi w u (ems (fun i => !P i) (k + m)).length (emz (fun i => !P i) (k + m))) (hv : Qi w v (ems P (k + m)).length (emz P (k + m))) (eb : Nat) (hold : (eb, ent17 f k m P) ∈ L) :
    Calls Tryz.prog 85 #[.pointer (some ⟨c, 0, none⟩), u, v] w fun e w' => ∃ d, e = .returned d ∧ Fz17 w w' c Fp d f k m b (fun N' L' => N' = N ∧ L' = us12 eb (ent17 f k m P) L) P := by
  have hs := h.hs
  obtain ⟨r, B, MB, K, mm, ov, hT⟩ := h.tv
  have c1 := get12_yes hT v _ _ hv (fun i hi => emz_wf17 (by omega) hi) hold rfl
  have HO : Hid (∀ w1 g, w.heap.size < g → Gt w w1 g (ent17 f k m P) → Us w w1 FT t 16 r N B MB K mm (us12 eb (ent17 f k m P) L) → Fz17 w w1 c Fp (.slice (some ⟨g, 0, none⟩) (ems P (k + m)).length (ems P (k + m)).length) f k m b (fun N' L' => N' = N ∧ L' = us12 eb (ent17 f k m P) L) P) := fun w1 g hg hG hU => by
    obtain ⟨ov', hT'⟩ := hU.tt
    have hCo := h.grownF hT' (hU.ke.mono (fun x _ e => by rw [e]; exact hT.tfp)) (fun x e => e.imp id (fun e => by omega))
    obtain ⟨BD, hV⟩ := hG.val
    have hC := hV.csg12 (by show (ems P (k + m)).length ≤ big; unfold big; omega)
    refine ⟨⟨_, _, _, ⟨_, _, _, _, _, _, hCo⟩, ⟨rfl, rfl⟩, fun x e => ?_, g, w1.heap.size, _, BD, Nat.le_of_lt hg, hC, fun x a1 a2 e => ?_, ⟨g, _, _, rfl, Nat.le_refl _, hV.list⟩⟩, hU.ke.mono (fun x _ e => by rw [e]; exact h.tf _ hT.tfp)⟩
    · rcases e with e | e | e
      · exact .inl e
      · exact .inl (h.tf x e)
      · exact .inr (by omega)
    · rcases e with e | e | e
      · have := h.lt x e; omega
      · have := h.lt x (h.tf x e); omega
      · omega
  have q5 := h.c5
  have D1 : (((ems P (k + m)).length : Int) == 0) = false := beq_eq_false_iff_ne.2 (by omega)
  obtain ⟨-, -, va, vc, rfl, -⟩ := hv
  obtain ⟨-, -, ua, uc, rfl, -⟩ := hu
  clear h hT hs h1 h2 hold
  go_enter Tryz.func85, Tryz.ntmps85
  go_wp2_with (go_at_call 122; (with_reducible refine c1.mono ?_); rintro e w1 ⟨g, rfl, hg, hG, hU⟩; clear c1; have HF : Hid _ := HO.out w1 g hg hG hU; clear hg hG hU HO)
  go_ret
  exact ⟨_, rfl, HF.out⟩
end
end Go.Proofs.YtefolifecbhgoaaGreat
namespace Go.Proofs.YtefolifecbhgoaaGreat
open Go.RowKit Gf2
set_option linter.unusedVariables false


theorem headI17 (b o n cx m : Nat) (hm : m ≤ cx) (W : World) : (Instr.slice 40 (.slice (some ⟨b, o, none⟩) n cx) none (some (.int .i64 (m : Int))) none).run Tryz.prog W = .ok (.slice (some ⟨b, o, none⟩) m cx) W := by
  have he : Tryz.prog.elem 40 = 3 := by kernel_rfl
  have hsz : ∀ W : World, (sizeOf 3).run Tryz.prog W = .ok 1 W := fun W => by
    obtain ⟨i, hi, -, hs, -⟩ := info_inta
    simp [sizeOf, typeInfo, hi, hs]
  have hu : Tryz.prog.underlying 40 = some (.slice (Tryz.prog.elem 40)) := by rw [he]; exact Tryz.underlying40
  have h := run_slice_h (P := Tryz.prog) (w := W) 40 (some ⟨b, o, none⟩) n cx hu .i64 (m : Int) (by omega) (by omega)
  have e : (if cx = 0 then some (⟨b, o, none⟩ : Addr) else (some (⟨b, o, none⟩ : Addr)).map (·.add 0)) = some ⟨b, o, none⟩ := by
    split
    · rfl
    · show some ((⟨b, o, none⟩ : Addr).add 0) = _
      rw [Addr.add_lit, Nat.add_zero]
  rw [h, he, hsz]
  simp only [Result.andThen, sliced, Int.toNat_natCast, Nat.zero_mul, Nat.sub_zero, e]
theorem set4_17 {x : World} {g : Nat} {T : TypeId} {z0 z1 z2 z3 : Value} (a b c d : Value) (h : x.heap[g]? = some (.cells #[z0, z1, z2, z3] T (0, 0))) (y : World) (hy : y = (((x.setCell ⟨g, 0, none⟩ a).setCell ⟨g, 1, none⟩ b).setCell ⟨g, 2, none⟩ c).setCell ⟨g, 3, none⟩ d) :
    Ke (fun q => q = g) x y ∧ y.heap[g]? = some (.cells #[a, b, c, d] T (0, 0)) := by
  have h1 : (x.setCell ⟨g, 0, none⟩ a).heap[g]? = some (.cells #[a, z1, z2, z3] T (0, 0)) := heap_setCell_same _ _ _ _ _ _ h
  have h2 : ((x.setCell ⟨g, 0, none⟩ a).setCell ⟨g, 1, none⟩ b).heap[g]? = some (.cells #[a, b, z2, z3] T (0, 0)) := heap_setCell_same _ _ _ _ _ _ h1
  have h3 : (((x.setCell ⟨g, 0, none⟩ a).setCell ⟨g, 1, none⟩ b).setCell ⟨g, 2, none⟩ c).heap[g]? = some (.cells #[a, b, c, z3] T (0, 0)) := heap_setCell_same _ _ _ _ _ _ h2
  have h4 : ((((x.setCell ⟨g, 0, none⟩ a).setCell ⟨g, 1, none⟩ b).setCell ⟨g, 2, none⟩ c).setCell ⟨g, 3, none⟩ d).heap[g]? = some (.cells #[a, b, c, d] T (0, 0)) := heap_setCell_same _ _ _ _ _ _ h3
  rw [hy]
  exact ⟨((((Only.refl g x).setCell 0 a).setCell 1 b).setCell 2 c |>.setCell 3 d).kp.ke, h4⟩
theorem results_crt {P : Program} {fn : Func} {p u : Tmp} {ty : TypeId} (h : fn.results = #[.cell p ty, .tmp u]) (tmps : Array Value) (w : World) (g : Nat) (t : TypeId) (cs : Array Value) (fr : Nat × Nat) (d : TypeDesc)
    (hp : tmps.getD p undef = .pointer (some ⟨g, 0, none⟩)) (hg : w.heap[g]? = some (.cells cs t fr)) (hu : P.underlying ty = some d) (hd : (match d with | .struct _ | .array _ _ => true | _ => false) = true) (hi : (P.info? ty).map (·.size) = some cs.size) :
    (results fn tmps).run P w = .ok (.tuple #[.agg cs, tmps.getD u undef]) w := by
  have hp' : tmps[p]?.getD undef = .pointer (some ⟨g, 0, none⟩) := by simpa using hp
  simp [results, h, hp', asAddr, run_loadVar_row w g t ty cs fr d hg hu hd hi]
theorem info_plan17 : (Tryz.prog.info? 89).map (·.size) = some 4 := by kernel_rfl
theorem Qi.ke17 {E : Nat → Prop} {w w' : World} {b o n cap : Nat} {F : Nat → Int} (h : Qi w (.slice (some ⟨b, o, none⟩) n cap) n F) (hk : Ke E w w') (hb : ¬ E b) : Qi w' (.slice (some ⟨b, o, none⟩) n cap) n F := by
  obtain ⟨h1, -, a, cp, e, h5, h6, h4⟩ := h
  cases e
  refine ⟨h1, trivial, _, _, rfl, h5, h6, fun h0 => ?_⟩
  obtain ⟨b', o', e, hl, hc⟩ := h4 h0
  cases e
  exact ⟨b, o, rfl, Nat.lt_of_lt_of_le hl hk.size, fun i hi => (hk.cell hl hb).trans (hc i hi)⟩
theorem Gi.ke17 {E : Nat → Prop} {w0 w w' : World} {v : Value} {n : Nat} {F : Nat → Int} (h : Gi w0 w v n F) (hk : Ke E w w') (hb : ∀ x, w0.heap.size ≤ x → ¬ E x) : Qi w' v n F := by
  have hq := h.rb
  rcases h.2 with ⟨rfl, rfl⟩ | ⟨g, C, F', rfl, a2, a3, a4, a5⟩
  · exact ⟨by decide, trivial, none, 0, rfl, Nat.le_refl _, by decide, fun h => absurd h (Nat.lt_irrefl _)⟩
  · exact hq.ke17 hk (hb g a3)
theorem Ke.both17 {E E' : Nat → Prop} {a b c : World} (h : Ke E a b) (k : Ke E' b c) : Ke (fun x => E x ∨ E' x) a c := (h.mono (fun _ _ e => .inl e)).trans (k.mono (fun _ _ e => .inr e))
structure Pl17 (w w' : World) (c : Nat) (Fp : Nat → Prop) (pl : Value) (f : Int) (k m b N : Nat) (L : List (Nat × Ent)) (P : Nat → Bool) : Prop where
  ex : ∃ Fp' N' L' mv uv d, pl = .agg #[mv, uv, d, .slice none 0 0] ∧ Cd w' c Fp' f k m b N' L' ∧ (∀ x, Fp' x → Fp x ∨ w.heap.size ≤ x) ∧ N' ≤ N + 256 ∧ L'.length = L.length + 1 ∧ (∀ b x, (b, x) ∈ L' → (b, x) ∈ L ∨ x = ent17 f k m P) ∧
    Qi w' mv (ems P (k + m)).length (emz P (k + m)) ∧ Qi w' uv k (emz (fun i => !P i) (k + m)) ∧ Lb w' d (ems P (k + m)).length (fun _ => k) (dec17 f k m P)
  ke : Ke Fp w w'
section
variable {w : World} {c : Nat} {Fp FT : Nat → Prop} {p : Addr} {lo hi : Nat} {rows : Value} {t : Nat} {f : Int} {k m b N : Nat} {L : List (Nat × Ent)}
set_option maxHeartbeats 4000000 in
set_option maxRecDepth 100000 in
theorem plan17_new (h : Co w c Fp FT p lo hi rows t f k m b N L) (P : Nat → Bool) (h1 : 1 ≤ (ems P (k + m)).length) (h2 : (ems P (k + m)).length ≤ m) (v : Value) (hv : Qi w v (ems P (k + m)).length (emz P (k + m)))
    (hnew : ∀ b x, (b, x) ∈ L → x.key ≠ tk12 (emz P (k + m)) (ems P (k + m)).length) (hroom : L.length < 16) (hN : N ≤ 1000000) :
    Calls Tryz.prog 43 #[.pointer (some ⟨c, 0, none⟩), v] w fun e w' => ∃ pl, e = .returned (.tuple #[pl, .int .i64 0]) ∧ Pl17 w w' c Fp pl f k m b N L P := by
  have hs := h.hs
  have hk := h.hk
  have hbo := ems_both P (k + m)
  obtain ⟨x0, hx0⟩ : ∃ x0, x0 = w.alloc (.cells #[.slice none 0 0, .slice none 0 0, .slice none 0 0, .slice none 0 0] 89) := ⟨_, rfl⟩
  have b0 : Below w.heap.size w x0 := by rw [hx0]; exact (Below.refl _ _).alloc (Nat.le_refl _) _
  have p0 : x0.heap[w.heap.size]? = some (.cells #[.slice none 0 0, .slice none 0 0, .slice none 0 0, .slice none 0 0] 89 (0, 0)) := by rw [hx0]; exact heap_alloc_new _ _
  have hz0 : x0.heap.size = w.heap.size + 1 := by rw [hx0]; simp
  have HX : Hid (w.alloc (.cells #[.slice none 0 0, .slice none 0 0, .slice none 0 0, .slice none 0 0] 89) = x0) := hx0.symm
  clear hx0
  have c1 := lost17 (k + m) P v x0.drew (by omega) (hv.below b0.drew)
  have q1 : x0.drew.cell? ⟨c, 1, none⟩ = _ := (h.below b0.drew).c1
  have q2 : x0.drew.cell? ⟨c, 2, none⟩ = _ := (h.below b0.drew).c2
  have HL : Hid (∀ w1 u, Gi x0.drew w1 u (ems (fun i => !P i) (k + m)).length (emz (fun i => !P i) (k + m)) → (w1.cell? ⟨c, 1, none⟩ = some (.int .i64 (k : Int)) ∧ w1.cell? ⟨c, 2, none⟩ = some (.int .i64 (m : Int))) ∧ ∃ ua nu uc, u = .slice (some ⟨ua, 0, none⟩) nu uc ∧
      (∀ W : World, (Instr.slice 40 (.slice (some ⟨ua, 0, none⟩) nu uc) none (some (.int .i64 (k : Int))) none).run Tryz.prog W = .ok (.slice (some ⟨ua, 0, none⟩) k uc) W) ∧ Below w.heap.size w w1 ∧ Qi w1 (.slice (some ⟨ua, 0, none⟩) nu uc) (ems (fun i => !P i) (k + m)).length (emz (fun i => !P i) (k + m)) ∧ Qi w1 (.slice (some ⟨ua, 0, none⟩) k uc) k (emz (fun i => !P i) (k + m)) ∧ w1.heap[w.heap.size]? = some (.cells #[.slice none 0 0, .slice none 0 0, .slice none 0 0, .slice none 0 0] 89 (0, 0)) ∧ w.heap.size < ua) := fun w1 u hG => by
    have hb1 : Below x0.heap.size x0 w1 := undraw17 hG.1
    have hbw := b0.trans (hb1.mono b0.size)
    refine ⟨⟨(h.below hbw).c1, (h.below hbw).c2⟩, ?_⟩
    have hq := hG.rb
    rcases hG.2 with ⟨e, -⟩ | ⟨g, C, F, rfl, a2, a3, -⟩
    · omega
    · exact ⟨g, _, C, rfl, headI17 g 0 _ C k (by omega), hbw, hq, hq.take (by omega), (hb1.block _ (by omega)).trans p0, by have : x0.heap.size ≤ g := a3; omega⟩
  have ek : ((k + m : Nat) : Int) = (k : Int) + (m : Int) := by omega
  rw [ek] at c1
  have W0 : wrap64 ((k : Int) + (m : Int)) = (k : Int) + (m : Int) := by unfold wrap64; omega
  have W1 : IntKind.i64.wrap ((k : Int) + (m : Int)) = (k : Int) + (m : Int) := by rw [IntKind.wrap_i64]; omega
  have D1 : ¬ m < (ems P (k + m)).length := by omega
  obtain ⟨nn, hnn⟩ : ∃ nn, nn = (ems P (k + m)).length := ⟨_, rfl⟩
  have HO : Hid (Co w c Fp FT p lo hi rows t f k m b N L ∧ Qi w v (ems P (k + m)).length (emz P (k + m)) ∧ (∀ b x, (b, x) ∈ L → x.key ≠ tk12 (emz P (k + m)) (ems P (k + m)).length) ∧ L.length < 16 ∧ N ≤ 1000000 ∧ 1 ≤ (ems P (k + m)).length ∧ (ems P (k + m)).length ≤ m) := ⟨h, hv, hnew, hroom, hN, h1, h2⟩
  obtain ⟨-, -, va, vc, rfl, -⟩ := hv
  clear h hnew hroom hN h1 h2 hs hk hbo b0 p0 hz0 ek
  go_enter Tryz.func43, Tryz.ntmps43
  go_wp2
  rw [HX.out]
  refine region_planI (fun w' => w'.cell? ⟨c, 1, none⟩ = some (.int .i64 (k : Int)) ∧ w'.cell? ⟨c, 2, none⟩ = some (.int .i64 (m : Int))) [0, 1, 2, 3, 4, 5, 6, 7, 8, 9, 10, 11, 12, 13, 14, 15] [10, 5] 50 ⟨q1, q2⟩ (by kernel_rfl) (by kernel_rfl) (fun _ a d v _ h => by cases d <;> exact h) ?_
  simp only [atI, List.getElem?_cons_zero, List.getElem?_cons_succ]
  refine planH_step ?Al0 rfl (fun w' hS => ?sl0) rfl (fun K hK => ?nl0)
  case sl0 =>
    obtain ⟨y0, y1⟩ := hS
    simp only [List.take_succ_cons, List.take_zero]
    repeat still_step
    exact rfl
  case nl0 =>
  go_simp
  go_wp2_with (go_at_call 83; (with_reducible refine c1.mono ?_); rintro e w1 ⟨u, rfl, hG⟩; clear c1; obtain ⟨⟨q1, q2⟩, ua, nu, uc, rfl, s1, HC⟩ := HL.out w1 u hG)
  refine hK _ _ ⟨q1, q2⟩ ?_
  clear hK K
  refine planH_last ?Al1 rfl (fun w' hS => ?sl1) rfl ?nl1
  case sl1 =>
    obtain ⟨y0, y1⟩ := hS
    simp only [List.take_succ_cons, List.take_zero]
    repeat still_step
    exact rfl
  case nl1 =>
  clear q1 W0 W1 HL hG
  have c2 := clone17 (.slice va (ems P (k + m)).length vc) (ems P (k + m)).length (emz P (k + m)) w1.drew (HO.out.2.1.below HC.1.drew) HO.out.2.2.2.2.2.1 (by have := HO.out.1.hs; have := HO.out.2.2.2.2.2.2; omega)
  have hQ := HC
  have HM : Hid (∀ w2 mv, Gi w1.drew w2 mv (ems P (k + m)).length (emz P (k + m)) → w2.cell? ⟨c, 1, none⟩ = some (.int .i64 (k : Int)) ∧ Calls Tryz.prog 85 #[.pointer (some ⟨c, 0, none⟩), .slice (some ⟨ua, 0, none⟩) nu uc, .slice va (ems P (k + m)).length vc] w2 fun e w' => ∃ d, e = .returned d ∧ Fa17 w2 w' c Fp d f k m b N L P) := fun w2 mv hM => by
    have hb2 : Below w.heap.size w w2 := hQ.1.trans ((undraw17 hM.1).mono hQ.1.size)
    refine ⟨(HO.out.1.below hb2).c1, ?_⟩
    exact factors17_new (HO.out.1.below hb2) P HO.out.2.2.2.2.2.1 HO.out.2.2.2.2.2.2 _ _ (hQ.2.1.below (undraw17 hM.1)) (HO.out.2.1.below hb2) HO.out.2.2.1 HO.out.2.2.2.1 HO.out.2.2.2.2.1
  have HF : Hid (∀ w2 mv, Gi w1.drew w2 mv (ems P (k + m)).length (emz P (k + m)) → ∀ w3 d, Fa17 w2 w3 c Fp d f k m b N L P → w3.cell? ⟨c, 1, none⟩ = some (.int .i64 (k : Int)) ∧ ∃ ma mn mc da dn dc, mv = .slice ma mn mc ∧ d = .slice da dn dc ∧
      w3.heap[w.heap.size]? = some (.cells #[.slice none 0 0, .slice none 0 0, .slice none 0 0, .slice none 0 0] 89 (0, 0)) ∧
      ∀ w4, Ke (fun x => x = w.heap.size) w3 w4 → w4.cell? ⟨c, 1, none⟩ = some (.int .i64 (k : Int)) ∧ Pl17 w w4 c Fp (.agg #[mv, .slice (some ⟨ua, 0, none⟩) k uc, d, .slice none 0 0]) f k m b N L P) := fun w2 mv hM w3 d hF => by
    have hb1 := undraw17 hM.1
    have hb2 : Below w.heap.size w w2 := hQ.1.trans (hb1.mono hQ.1.size)
    obtain ⟨Fp', N', L', hC, hFp, hN', hL', hen, hd⟩ := hF.co
    obtain ⟨FT', p', lo', hi', rows', t', hCo⟩ := id hC
    have hz : w.heap.size < w1.heap.size := (Array.getElem?_eq_some_iff.1 hQ.2.2.2.1).1
    have hnF : ¬ Fp w.heap.size := fun e => Nat.lt_irrefl _ (HO.out.1.lt _ e)
    have p2 := (hb1.block _ hz).trans hQ.2.2.2.1
    have p3 := (hF.ke.2 _ (Nat.lt_of_lt_of_le hz hb1.size) hnF).trans p2
    have hz2 : w1.heap.size ≤ w2.heap.size := hb1.size
    refine ⟨hCo.c1, ?_⟩
    obtain ⟨ma, mc, hma⟩ : ∃ ma mc, mv = .slice ma (ems P (k + m)).length mc := hM.form
    obtain ⟨da, dc, hda⟩ : ∃ da dc, d = .slice da (ems P (k + m)).length dc := by
      obtain ⟨V, ⟨-, a, c, e, -⟩, -⟩ := hd
      exact ⟨a, c, e⟩
    refine ⟨ma, _, mc, da, _, dc, hma, hda, p3, fun w4 hk4 => ?_⟩
    have hnF' : ¬ Fp' w.heap.size := fun e => by
      rcases hFp _ e with e | e
      · exact hnF e
      · omega
    have hCo4 := hCo.ke hk4 (fun x e => by rw [e]; exact hnF')
    refine ⟨hCo4.c1, ⟨Fp', N', L', mv, _, d, rfl, ⟨_, _, _, _, _, _, hCo4⟩, fun x e => ?_, hN', hL', hen, ?_, ?_, ?_⟩, ?_⟩
    · rcases hFp _ e with e | e
      · exact .inl e
      · exact .inr (Nat.le_trans hb2.size e)
    · exact hM.ke17 (hF.ke.both17 hk4) (fun x hx e => by
        have hx' : w1.heap.size ≤ x := hx
        rcases e with e | e
        · have := HO.out.1.lt x e; have := hQ.1.size; omega
        · omega)
    · exact (hQ.2.2.1.below hb1).ke17 (hF.ke.both17 hk4) (fun e => by
        have := hQ.2.2.2.2
        rcases e with e | e
        · have := HO.out.1.lt _ e; omega
        · omega)
    · exact (hd.mono (E' := fun x => x = w.heap.size) (fun x _ e => .inl (by rw [e]; omega))).ke hk4 |>.lb
    · have k1 : Ke Fp w w2 := ke_below hb2 _
      have k3 := k1.trans hF.ke
      refine ⟨k3.1.trans hk4.1, fun x hx hn => ?_⟩
      rw [hk4.2 x (Nat.lt_of_lt_of_le hx k3.size) (by omega), k3.2 x hx hn]
  have q1 := (HO.out.1.below HC.1.drew).c1
  go_wp2
  refine region_planI (fun w' => w'.cell? ⟨c, 1, none⟩ = some (.int .i64 (k : Int))) [0, 2, 3, 4, 5, 6, 7, 8, 9, 10, 1, 11, 12, 13, 14] [10, 0, 1, 1] 50 q1 (by kernel_rfl) (by kernel_rfl) (fun _ a d v _ h => by cases d <;> exact h) ?_
  simp only [atI, List.getElem?_cons_zero, List.getElem?_cons_succ]
  refine planH_step ?Ap0 rfl (fun w' hS => ?sp0) rfl (fun K hK => ?np0)
  case sp0 =>
    have y0 := hS
    simp only [List.take_succ_cons, List.take_zero]
    repeat still_step
    exact rfl
  case np0 =>
  go_simp
  go_wp2_with (go_at_call 84; (with_reducible refine c2.mono ?_); rintro e w2 ⟨mv, rfl, hM⟩; clear c2; obtain ⟨q1, c3⟩ := HM.out w2 mv hM)
  refine hK _ _ q1 ?_
  clear hK K
  refine planH_step ?Ap1 rfl (fun w' hS => ?sp1) rfl (fun K hK => ?np1)
  case sp1 =>
    have y0 := hS
    simp only [List.take_zero]
    exact rfl
  case np1 =>
  go_simp
  go_wp2_with (go_at_call 85; (with_reducible refine c3.mono ?_); rintro e w3 ⟨d, rfl, hF⟩; clear c3; obtain ⟨q1, ma, mn, mc, da, dn, dc, rfl, rfl, HZ⟩ := HF.out w2 mv hM w3 d hF)
  refine hK _ _ q1 ?_
  clear hK K
  refine planH_step ?Ap2 rfl (fun w' hS => ?sp2) rfl (fun K hK => ?np2)
  case sp2 =>
    have y0 := hS
    simp only [List.take_succ_cons, List.take_zero]
    repeat still_step
    exact rfl
  case np2 =>
  have z0 : w3.cell? ⟨w.heap.size, 0, none⟩ = some (.slice none 0 0) := by rw [cell_of_row _ _ 0 _ _ _ HZ.1]; rfl
  have z1 : w3.cell? ⟨w.heap.size, 1, none⟩ = some (.slice none 0 0) := by rw [cell_of_row _ _ 1 _ _ _ HZ.1]; rfl
  have z2 : w3.cell? ⟨w.heap.size, 2, none⟩ = some (.slice none 0 0) := by rw [cell_of_row _ _ 2 _ _ _ HZ.1]; rfl
  have z3 : w3.cell? ⟨w.heap.size, 3, none⟩ = some (.slice none 0 0) := by rw [cell_of_row _ _ 3 _ _ _ HZ.1]; rfl
  have g0 := frozen_of_row w3 w.heap.size 0 _ _ HZ.1
  have g1 := frozen_of_row w3 w.heap.size 1 _ _ HZ.1
  have g2 := frozen_of_row w3 w.heap.size 2 _ _ HZ.1
  have g3 := frozen_of_row w3 w.heap.size 3 _ _ HZ.1
  go_simp
  go_wp2
  clear z0 z1 z2 z3 g0 g1 g2 g3
  obtain ⟨w4, hw4⟩ : ∃ w4, w4 = (((w3.setCell ⟨w.heap.size, 0, none⟩ (.slice ma mn mc)).setCell ⟨w.heap.size, 1, none⟩ (.slice (some ⟨ua, 0, none⟩) k uc)).setCell ⟨w.heap.size, 2, none⟩ (.slice da dn dc)).setCell ⟨w.heap.size, 3, none⟩ (.slice none 0 0) := ⟨_, rfl⟩
  obtain ⟨k4, p4⟩ := set4_17 (.slice ma mn mc) (.slice (some ⟨ua, 0, none⟩) k uc) (.slice da dn dc) (.slice none 0 0) HZ.1 w4 hw4
  rw [← hw4]
  clear hw4
  obtain ⟨q1, HP⟩ := HZ.2 w4 k4
  refine hK _ _ q1 ?_
  clear hK K
  refine planH_last ?Ap3 rfl (fun w' hS => ?sp3) rfl ?np3
  case sp3 =>
    have y0 := hS
    simp only [List.take_succ_cons, List.take_zero]
    repeat still_step
    exact rfl
  case np3 =>
  go_wp2
  (try simp only [Exit.inBlock, Exit.then])
  refine bodyPost_ret (results_crt rfl _ w4 w.heap.size _ _ _ _ rfl p4 Tryz.underlying89 rfl info_plan17) rfl ?_
  exact ⟨_, rfl, HP⟩
end
end Go.Proofs.YtefolifecbhgoaaGreat
namespace Go.Proofs.YtefolifecbhgoaaGreat
open Go.RowKit Gf2
set_option linter.unusedVariables false


structure Pm17 (w : World) (pl : Value) (gm Cm gu Cu dlo dhi : Nat) (d : Value) (DC DB : Nat → Nat) (f : Int) (k m : Nat) (P : Nat → Bool) : Prop where
  eq : pl = .agg #[.slice (some ⟨gm, 0, none⟩) (ems P (k + m)).length Cm, .slice (some ⟨gu, 0, none⟩) k Cu, d, .slice none 0 0]
  mr : ∃ Fm, (ems P (k + m)).length ≤ Cm ∧ Ri w gm Cm Fm ∧ ∀ i, i < (ems P (k + m)).length → Fm i = emz P (k + m) i
  ur : ∃ Fu, k ≤ Cu ∧ Ri w gu Cu Fu ∧ ∀ i, i < k → Fu i = emz (fun i => !P i) (k + m) i
  dr : Cs dlo dhi w d (ems P (k + m)).length (fun _ => k) DC DB (dec17 f k m P)
  ne : gm ≠ gu ∧ (gm < dlo ∨ dhi ≤ gm) ∧ (gu < dlo ∨ dhi ≤ gu)
  dl : ∃ g C F, d = .slice (some ⟨g, 0, none⟩) (ems P (k + m)).length C ∧ (ems P (k + m)).length ≤ C ∧ (dlo ≤ g ∧ g < dhi) ∧ w.rowIs g 27 C F
section
variable {w w' : World} {pl d : Value} {gm Cm gu Cu dlo dhi : Nat} {DC DB : Nat → Nat} {f : Int} {k m : Nat} {P : Nat → Bool}
def Pk17 (gm gu dlo dhi x : Nat) : Prop := x = gm ∨ x = gu ∨ (dlo ≤ x ∧ x < dhi)
theorem Pm17.ke {E : Nat → Prop} (h : Pm17 w pl gm Cm gu Cu dlo dhi d DC DB f k m P) (hk : Ke E w w') (hE : ∀ x, Pk17 gm gu dlo dhi x → ¬ E x) : Pm17 w' pl gm Cm gu Cu dlo dhi d DC DB f k m P := by
  obtain ⟨e, ⟨Fm, a1, a2, a3⟩, ⟨Fu, b1, b2, b3⟩, hd, hn, ⟨g, C, F, c1, c2, c3, c4⟩⟩ := h
  exact ⟨e, ⟨Fm, a1, ⟨a2.1, trivial, a2.2.2.of_block (hk.2 gm a2.2.2.lt (hE _ (.inl rfl)))⟩, a3⟩, ⟨Fu, b1, ⟨b2.1, trivial, b2.2.2.of_block (hk.2 gu b2.2.2.lt (hE _ (.inr (.inl rfl))))⟩, b3⟩, hd.keep hk (fun x h1 h2 => hE x (.inr (.inr ⟨h1, h2⟩))), hn, ⟨g, C, F, c1, c2, c3, c4.of_block (hk.2 g c4.lt (hE g (.inr (.inr c3))))⟩⟩
theorem Pm17.below (h : Pm17 w pl gm Cm gu Cu dlo dhi d DC DB f k m P) (hb : Below w.heap.size w w') : Pm17 w' pl gm Cm gu Cu dlo dhi d DC DB f k m P := h.ke (ke_below hb (fun _ => False)) (fun _ _ e => e)
theorem ri_qi17 {g C n : Nat} {F S : Nat → Int} (h : Ri w g C F) (hn : n ≤ C) (e : ∀ i, i < n → F i = S i) : Qi w (.slice (some ⟨g, 0, none⟩) n C) n S := by
  refine ⟨Nat.le_trans hn h.1, trivial, _, _, rfl, hn, h.1, fun _ => ⟨g, 0, rfl, h.2.2.lt, fun i hi => ?_⟩⟩
  rw [Nat.zero_add, h.2.2.cell (by omega), e i hi]
theorem Pm17.qm (h : Pm17 w pl gm Cm gu Cu dlo dhi d DC DB f k m P) : Qi w (.slice (some ⟨gm, 0, none⟩) (ems P (k + m)).length Cm) (ems P (k + m)).length (emz P (k + m)) := by
  obtain ⟨Fm, a1, a2, a3⟩ := h.mr
  exact ri_qi17 a2 a1 a3
theorem Pm17.qu (h : Pm17 w pl gm Cm gu Cu dlo dhi d DC DB f k m P) : Qi w (.slice (some ⟨gu, 0, none⟩) k Cu) k (emz (fun i => !P i) (k + m)) := by
  obtain ⟨Fm, a1, a2, a3⟩ := h.ur
  exact ri_qi17 a2 a1 a3
end
structure Pz17 (w w' : World) (c : Nat) (Fp : Nat → Prop) (pl : Value) (f : Int) (k m b : Nat) (R : Nat → List (Nat × Ent) → Prop) (P : Nat → Bool) : Prop where
  ex : ∃ Fp' N' L' gm Cm gu Cu dlo dhi d DC DB, Pm17 w' pl gm Cm gu Cu dlo dhi d DC DB f k m P ∧ Cd w' c Fp' f k m b N' L' ∧ R N' L' ∧ (∀ x, Fp' x → Fp x ∨ w.heap.size ≤ x) ∧ (w.heap.size ≤ gm ∧ w.heap.size ≤ gu ∧ w.heap.size ≤ dlo) ∧ ∀ x, Pk17 gm gu dlo dhi x → ¬ Fp' x
  ke : Ke Fp w w'
section
variable {w : World} {c : Nat} {Fp FT : Nat → Prop} {p : Addr} {lo hi : Nat} {rows : Value} {t : Nat} {f : Int} {k m b N : Nat} {L : List (Nat × Ent)}
set_option maxHeartbeats 4000000 in
set_option maxRecDepth 100000 in
theorem plan17_z (h : Co w c Fp FT p lo hi rows t f k m b N L) (P : Nat → Bool) (R : Nat → List (Nat × Ent) → Prop) (h1 : 1 ≤ (ems P (k + m)).length) (h2 : (ems P (k + m)).length ≤ m) (v : Value) (hv : Qi w v (ems P (k + m)).length (emz P (k + m)))
    (hfac : ∀ w2 u2, Below w.heap.size w w2 → Qi w2 u2 (ems (fun i => !P i) (k + m)).length (emz (fun i => !P i) (k + m)) → Qi w2 v (ems P (k + m)).length (emz P (k + m)) → Calls Tryz.prog 85 #[.pointer (some ⟨c, 0, none⟩), u2, v] w2 fun e w' => ∃ d, e = .returned d ∧ Fz17 w2 w' c Fp d f k m b R P) :
    Calls Tryz.prog 43 #[.pointer (some ⟨c, 0, none⟩), v] w fun e w' => ∃ pl, e = .returned (.tuple #[pl, .int .i64 0]) ∧ Pz17 w w' c Fp pl f k m b R P := by
  have hs := h.hs
  have hk := h.hk
  have hbo := ems_both P (k + m)
  obtain ⟨x0, hx0⟩ : ∃ x0, x0 = w.alloc (.cells #[.slice none 0 0, .slice none 0 0, .slice none 0 0, .slice none 0 0] 89) := ⟨_, rfl⟩
  have b0 : Below w.heap.size w x0 := by rw [hx0]; exact (Below.refl _ _).alloc (Nat.le_refl _) _
  have p0 : x0.heap[w.heap.size]? = some (.cells #[.slice none 0 0, .slice none 0 0, .slice none 0 0, .slice none 0 0] 89 (0, 0)) := by rw [hx0]; exact heap_alloc_new _ _
  have hz0 : x0.heap.size = w.heap.size + 1 := by rw [hx0]; simp
  have HX : Hid (w.alloc (.cells #[.slice none 0 0, .slice none 0 0, .slice none 0 0, .slice none 0 0] 89) = x0) := hx0.symm
  clear hx0
  have c1 := lost17 (k + m) P v x0.drew (by omega) (hv.below b0.drew)
  have q1 : x0.drew.cell? ⟨c, 1, none⟩ = _ := (h.below b0.drew).c1
  have q2 : x0.drew.cell? ⟨c, 2, none⟩ = _ := (h.below b0.drew).c2
  have HL : Hid (∀ w1 u, Gi x0.drew w1 u (ems (fun i => !P i) (k + m)).length (emz (fun i => !P i) (k + m)) → (w1.cell? ⟨c, 1, none⟩ = some (.int .i64 (k : Int)) ∧ w1.cell? ⟨c, 2, none⟩ = some (.int .i64 (m : Int))) ∧ ∃ ua nu uc, u = .slice (some ⟨ua, 0, none⟩) nu uc ∧
      (∀ W : World, (Instr.slice 40 (.slice (some ⟨ua, 0, none⟩) nu uc) none (some (.int .i64 (k : Int))) none).run Tryz.prog W = .ok (.slice (some ⟨ua, 0, none⟩) k uc) W) ∧ Below w.heap.size w w1 ∧ Qi w1 (.slice (some ⟨ua, 0, none⟩) nu uc) (ems (fun i => !P i) (k + m)).length (emz (fun i => !P i) (k + m)) ∧ Qi w1 (.slice (some ⟨ua, 0, none⟩) k uc) k (emz (fun i => !P i) (k + m)) ∧ w1.heap[w.heap.size]? = some (.cells #[.slice none 0 0, .slice none 0 0, .slice none 0 0, .slice none 0 0] 89 (0, 0)) ∧ w.heap.size < ua ∧ ua < w1.heap.size ∧ ∃ Fu, (ems (fun i => !P i) (k + m)).length ≤ uc ∧ Ri w1 ua uc Fu ∧ ∀ i, i < (ems (fun i => !P i) (k + m)).length → Fu i = emz (fun i => !P i) (k + m) i) := fun w1 u hG => by
    have hb1 : Below x0.heap.size x0 w1 := undraw17 hG.1
    have hbw := b0.trans (hb1.mono b0.size)
    refine ⟨⟨(h.below hbw).c1, (h.below hbw).c2⟩, ?_⟩
    have hq := hG.rb
    rcases hG.2 with ⟨e, -⟩ | ⟨g, C, F, rfl, a2, a3, a4, a5⟩
    · omega
    · exact ⟨g, _, C, rfl, headI17 g 0 _ C k (by omega), hbw, hq, hq.take (by omega), (hb1.block _ (by omega)).trans p0, by have : x0.heap.size ≤ g := a3; omega, a4.2.2.lt, F, a2, a4, a5⟩
  have ek : ((k + m : Nat) : Int) = (k : Int) + (m : Int) := by omega
  rw [ek] at c1
  have W0 : wrap64 ((k : Int) + (m : Int)) = (k : Int) + (m : Int) := by unfold wrap64; omega
  have W1 : IntKind.i64.wrap ((k : Int) + (m : Int)) = (k : Int) + (m : Int) := by rw [IntKind.wrap_i64]; omega
  have D1 : ¬ m < (ems P (k + m)).length := by omega
  obtain ⟨nn, hnn⟩ : ∃ nn, nn = (ems P (k + m)).length := ⟨_, rfl⟩
  have HO : Hid (Co w c Fp FT p lo hi rows t f k m b N L ∧ Qi w v (ems P (k + m)).length (emz P (k + m)) ∧ (∀ w2 u2, Below w.heap.size w w2 → Qi w2 u2 (ems (fun i => !P i) (k + m)).length (emz (fun i => !P i) (k + m)) → Qi w2 v (ems P (k + m)).length (emz P (k + m)) → Calls Tryz.prog 85 #[.pointer (some ⟨c, 0, none⟩), u2, v] w2 fun e w' => ∃ d, e = .returned d ∧ Fz17 w2 w' c Fp d f k m b R P) ∧ True ∧ True ∧ 1 ≤ (ems P (k + m)).length ∧ (ems P (k + m)).length ≤ m) := ⟨h, hv, hfac, trivial, trivial, h1, h2⟩
  obtain ⟨-, -, va, vc, rfl, -⟩ := hv
  clear h hfac h1 h2 hs hk hbo b0 p0 hz0 ek
  go_enter Tryz.func43, Tryz.ntmps43
  go_wp2
  rw [HX.out]
  refine region_planI (fun w' => w'.cell? ⟨c, 1, none⟩ = some (.int .i64 (k : Int)) ∧ w'.cell? ⟨c, 2, none⟩ = some (.int .i64 (m : Int))) [0, 1, 2, 3, 4, 5, 6, 7, 8, 9, 10, 11, 12, 13, 14, 15] [10, 5] 50 ⟨q1, q2⟩ (by kernel_rfl) (by kernel_rfl) (fun _ a d v _ h => by cases d <;> exact h) ?_
  simp only [atI, List.getElem?_cons_zero, List.getElem?_cons_succ]
  refine planH_step ?Al0 rfl (fun w' hS => ?sl0) rfl (fun K hK => ?nl0)
  case sl0 =>
    obtain ⟨y0, y1⟩ := hS
    simp only [List.take_succ_cons, List.take_zero]
    repeat still_step
    exact rfl
  case nl0 =>
  go_simp
  go_wp2_with (go_at_call 83; (with_reducible refine c1.mono ?_); rintro e w1 ⟨u, rfl, hG⟩; clear c1; obtain ⟨⟨q1, q2⟩, ua, nu, uc, rfl, s1, HC⟩ := HL.out w1 u hG)
  refine hK _ _ ⟨q1, q2⟩ ?_
  clear hK K
  refine planH_last ?Al1 rfl (fun w' hS => ?sl1) rfl ?nl1
  case sl1 =>
    obtain ⟨y0, y1⟩ := hS
    simp only [List.take_succ_cons, List.take_zero]
    repeat still_step
    exact rfl
  case nl1 =>
  clear q1 W0 W1 HL hG
  have c2 := clone17 (.slice va (ems P (k + m)).length vc) (ems P (k + m)).length (emz P (k + m)) w1.drew (HO.out.2.1.below HC.1.drew) HO.out.2.2.2.2.2.1 (by have := HO.out.1.hs; have := HO.out.2.2.2.2.2.2; omega)
  have hQ := HC
  have HM : Hid (∀ w2 mv, Gi w1.drew w2 mv (ems P (k + m)).length (emz P (k + m)) → w2.cell? ⟨c, 1, none⟩ = some (.int .i64 (k : Int)) ∧ Calls Tryz.prog 85 #[.pointer (some ⟨c, 0, none⟩), .slice (some ⟨ua, 0, none⟩) nu uc, .slice va (ems P (k + m)).length vc] w2 fun e w' => ∃ d, e = .returned d ∧ Fz17 w2 w' c Fp d f k m b R P) := fun w2 mv hM => by
    have hb2 : Below w.heap.size w w2 := hQ.1.trans ((undraw17 hM.1).mono hQ.1.size)
    refine ⟨(HO.out.1.below hb2).c1, ?_⟩
    exact HO.out.2.2.1 w2 _ hb2 (hQ.2.1.below (undraw17 hM.1)) (HO.out.2.1.below hb2)
  have HF : Hid (∀ w2 mv, Gi w1.drew w2 mv (ems P (k + m)).length (emz P (k + m)) → ∀ w3 d, Fz17 w2 w3 c Fp d f k m b R P → w3.cell? ⟨c, 1, none⟩ = some (.int .i64 (k : Int)) ∧ ∃ ma mn mc da dn dc, mv = .slice ma mn mc ∧ d = .slice da dn dc ∧
      w3.heap[w.heap.size]? = some (.cells #[.slice none 0 0, .slice none 0 0, .slice none 0 0, .slice none 0 0] 89 (0, 0)) ∧
      ∀ w4, Ke (fun x => x = w.heap.size) w3 w4 → w4.cell? ⟨c, 1, none⟩ = some (.int .i64 (k : Int)) ∧ Pz17 w w4 c Fp (.agg #[mv, .slice (some ⟨ua, 0, none⟩) k uc, d, .slice none 0 0]) f k m b R P) := fun w2 mv hM w3 d hF => by
    have hb1 := undraw17 hM.1
    have hb2 : Below w.heap.size w w2 := hQ.1.trans (hb1.mono hQ.1.size)
    obtain ⟨Fp', N', L', hC, hR, hFp, dlo, dhi, DC, DB, hd0, hd, hdn, gl, Cl, Fl, hdl, hcl, hFl⟩ := hF.co
    obtain ⟨FT', p', lo', hi', rows', t', hCo⟩ := id hC
    have hz : w.heap.size < w1.heap.size := (Array.getElem?_eq_some_iff.1 hQ.2.2.2.1).1
    have hnF : ¬ Fp w.heap.size := fun e => Nat.lt_irrefl _ (HO.out.1.lt _ e)
    have p2 := (hb1.block _ hz).trans hQ.2.2.2.1
    have p3 := (hF.ke.2 _ (Nat.lt_of_lt_of_le hz hb1.size) hnF).trans p2
    have hz2 : w1.heap.size ≤ w2.heap.size := hb1.size
    have hz3 := hF.ke.size
    refine ⟨hCo.c1, ?_⟩
    rcases hM.2 with ⟨e, -⟩ | ⟨gm, Cm, Fm, hmv, m2, m3, m4, m5⟩
    · have := HO.out.2.2.2.2.2.1; omega
    obtain ⟨ul, ult, Fu, u1, u2, u3⟩ := hQ.2.2.2.2
    obtain ⟨da, dc, hda, -⟩ := hd.form
    have m3' : w1.heap.size ≤ gm := m3
    have mlt : gm < w2.heap.size := m4.2.2.lt
    have hbo := ems_both P (k + m)
    have hle := HO.out.2.2.2.2.2.2
    refine ⟨_, _, Cm, da, _, dc, hmv, hda, p3, fun w4 hk4 => ?_⟩
    have hlow : ∀ x, w.heap.size ≤ x → x < w2.heap.size → ¬ Fp' x := fun x a1 a2 e => by
      rcases hFp _ e with e | e
      · have := HO.out.1.lt x e; omega
      · omega
    have hCo4 := hCo.ke hk4 (fun x e => by rw [e]; exact hlow _ (Nat.le_refl _) (by omega))
    have kk : Ke (fun x => Fp x ∨ x = w.heap.size) w2 w4 := hF.ke.both17 hk4
    have nn : ∀ x, w.heap.size < x → ¬ (Fp x ∨ x = w.heap.size) := fun x a e => by
      rcases e with e | e
      · have := HO.out.1.lt x e; omega
      · omega
    have hgl : dlo ≤ gl ∧ gl < dhi := by
      obtain ⟨a, cc, e1, -, -, hf1⟩ := hd.form
      obtain ⟨g', e2, g1, g2, -⟩ := hf1 HO.out.2.2.2.2.2.1
      rw [hdl] at e1
      cases e1
      cases e2
      exact ⟨g1, g2⟩
    refine ⟨hCo4.c1, ⟨Fp', N', L', gm, Cm, ua, uc, dlo, dhi, d, DC, DB, ⟨by rw [hmv], ⟨Fm, m2, ⟨m4.1, trivial, m4.2.2.of_block (kk.2 gm mlt (nn gm (by omega)))⟩, m5⟩, ⟨Fu, by omega, ⟨u2.1, trivial, (u2.2.2.of_block (hb1.block _ ult)).of_block (kk.2 ua (by omega) (nn ua ul))⟩, fun i hi => u3 i (by omega)⟩, hd.keep hk4 (fun x a1 a2 e => by omega), ⟨by omega, .inl (by omega), .inl (by omega)⟩, ⟨gl, Cl, Fl, hdl, hcl, hgl, hFl.of_block (hk4.2 gl hFl.lt (fun e => by have e' : gl = w.heap.size := e; omega))⟩⟩, ⟨_, _, _, _, _, _, hCo4⟩, hR, fun x e => ?_, ⟨by omega, by omega, by omega⟩, fun x e => ?_⟩, ?_⟩
    · rcases hFp _ e with e | e
      · exact .inl e
      · exact .inr (Nat.le_trans hb2.size e)
    · rcases e with e | e | e
      · exact hlow x (by omega) (by omega)
      · exact hlow x (by omega) (by omega)
      · exact hdn x e.1 e.2
    · have k1 : Ke Fp w w2 := ke_below hb2 _
      have k3 := k1.trans hF.ke
      refine ⟨k3.1.trans hk4.1, fun x hx hn => ?_⟩
      rw [hk4.2 x (Nat.lt_of_lt_of_le hx k3.size) (by omega), k3.2 x hx hn]
  have q1 := (HO.out.1.below HC.1.drew).c1
  go_wp2
  refine region_planI (fun w' => w'.cell? ⟨c, 1, none⟩ = some (.int .i64 (k : Int))) [0, 2, 3, 4, 5, 6, 7, 8, 9, 10, 1, 11, 12, 13, 14] [10, 0, 1, 1] 50 q1 (by kernel_rfl) (by kernel_rfl) (fun _ a d v _ h => by cases d <;> exact h) ?_
  simp only [atI, List.getElem?_cons_zero, List.getElem?_cons_succ]
  refine planH_step ?Ap0 rfl (fun w' hS => ?sp0) rfl (fun K hK => ?np0)
  case sp0 =>
    have y0 := hS
    simp only [List.take_succ_cons, List.take_zero]
    repeat still_step
    exact rfl
  case np0 =>
  go_simp
  go_wp2_with (go_at_call 84; (with_reducible refine c2.mono ?_); rintro e w2 ⟨mv, rfl, hM⟩; clear c2; obtain ⟨q1, c3⟩ := HM.out w2 mv hM)
  refine hK _ _ q1 ?_
  clear hK K
  refine planH_step ?Ap1 rfl (fun w' hS => ?sp1) rfl (fun K hK => ?np1)
  case sp1 =>
    have y0 := hS
    simp only [List.take_zero]
    exact rfl
  case np1 =>
  go_simp
  go_wp2_with (go_at_call 85; (with_reducible refine c3.mono ?_); rintro e w3 ⟨d, rfl, hF⟩; clear c3; obtain ⟨q1, ma, mn, mc, da, dn, dc, rfl, rfl, HZ⟩ := HF.out w2 mv hM w3 d hF)
  refine hK _ _ q1 ?_
  clear hK K
  refine planH_step ?Ap2 rfl (fun w' hS => ?sp2) rfl (fun K hK => ?np2)
  case sp2 =>
    have y0 := hS
    simp only [List.take_succ_cons, List.take_zero]
    repeat still_step
    exact rfl
  case np2 =>
  have z0 : w3.cell? ⟨w.heap.size, 0, none⟩ = some (.slice none 0 0) := by rw [cell_of_row _ _ 0 _ _ _ HZ.1]; rfl
  have z1 : w3.cell? ⟨w.heap.size, 1, none⟩ = some (.slice none 0 0) := by rw [cell_of_row _ _ 1 _ _ _ HZ.1]; rfl
  have z2 : w3.cell? ⟨w.heap.size, 2, none⟩ = some (.slice none 0 0) := by rw [cell_of_row _ _ 2 _ _ _ HZ.1]; rfl
  have z3 : w3.cell? ⟨w.heap.size, 3, none⟩ = some (.slice none 0 0) := by rw [cell_of_row _ _ 3 _ _ _ HZ.1]; rfl
  have g0 := frozen_of_row w3 w.heap.size 0 _ _ HZ.1
  have g1 := frozen_of_row w3 w.heap.size 1 _ _ HZ.1
  have g2 := frozen_of_row w3 w.heap.size 2 _ _ HZ.1
  have g3 := frozen_of_row w3 w.heap.size 3 _ _ HZ.1
  go_simp
  go_wp2
  clear z0 z1 z2 z3 g0 g1 g2 g3
  obtain ⟨w4, hw4⟩ : ∃ w4, w4 = (((w3.setCell ⟨w.heap.size, 0, none⟩ (.slice ma mn mc)).setCell ⟨w.heap.size, 1, none⟩ (.slice (some ⟨ua, 0, none⟩) k uc)).setCell ⟨w.heap.size, 2, none⟩ (.slice da dn dc)).setCell ⟨w.heap.size, 3, none⟩ (.slice none 0 0) := ⟨_, rfl⟩
  obtain ⟨k4, p4⟩ := set4_17 (.slice ma mn mc) (.slice (some ⟨ua, 0, none⟩) k uc) (.slice da dn dc) (.slice none 0 0) HZ.1 w4 hw4
  rw [← hw4]
  clear hw4
  obtain ⟨q1, HP⟩ := HZ.2 w4 k4
  refine hK _ _ q1 ?_
  clear hK K
  refine planH_last ?Ap3 rfl (fun w' hS => ?sp3) rfl ?np3
  case sp3 =>
    have y0 := hS
    simp only [List.take_succ_cons, List.take_zero]
    repeat still_step
    exact rfl
  case np3 =>
  go_wp2
  (try simp only [Exit.inBlock, Exit.then])
  refine bodyPost_ret (results_crt rfl _ w4 w.heap.size _ _ _ _ rfl p4 Tryz.underlying89 rfl info_plan17) rfl ?_
  exact ⟨_, rfl, HP⟩
end
end Go.Proofs.YtefolifecbhgoaaGreat
