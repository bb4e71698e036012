import Derived.Test.YtdnhidachdjgaaaMxf
namespace Go.Proofs.Ytdnhidachdjgaaa
open Go.RowKit Gf2
set_option linter.unusedVariables false

/-- the first x cells from column c on scaled in row p. -/
def scp (S : Nat → Nat → Nat) (p c x : Nat) : Nat → Nat → Nat := fun i j => if i = p ∧ c ≤ j ∧ j < c + x then fm 285 (fv (S p c)) (S p j) else S i j
theorem scp_zero (S : Nat → Nat → Nat) (p c i j : Nat) : S i j = scp S p c 0 i j := by unfold scp; rw [if_neg (by omega)]
theorem scp_step (S : Nat → Nat → Nat) (p c x i j : Nat) : st2 (scp S p c x) p (c + x) (fm 285 (fv (S p c)) (S p (c + x))) i j = scp S p c (x + 1) i j := by
  unfold st2 scp
  by_cases e : i = p ∧ j = c + x
  · rw [if_pos e, if_pos (by omega), e.2]
  · rw [if_neg e]
    by_cases e2 : i = p ∧ c ≤ j ∧ j < c + x
    · rw [if_pos e2, if_pos (by omega)]
    · rw [if_neg e2, if_neg (by omega)]
/-- the rows below r cleared. -/
def clp (M : Nat → Nat → Nat) (p c r : Nat) : Nat → Nat → Nat := fun i j => if i < r ∧ i ≠ p ∧ c ≤ j then M i j ^^^ fm 285 (M i c) (M p j) else M i j
theorem clp_zero (S : Nat → Nat → Nat) (p c i j : Nat) : S i j = clp S p c 0 i j := by unfold clp; rw [if_neg (by omega)]
theorem clp_skip (M : Nat → Nat → Nat) (p c i j : Nat) : clp M p c p i j = clp M p c (p + 1) i j := by
  unfold clp
  by_cases e : i < p ∧ i ≠ p ∧ c ≤ j
  · rw [if_pos e, if_pos (by omega)]
  · rw [if_neg e, if_neg (by omega)]
theorem clp_step (M : Nat → Nat → Nat) {p c r k : Nat} (hrp : r ≠ p) (hc : c < k) (i j : Nat) (hj : j < k) : upn (clp M p c r) r (pl (clp M p c r r) c (k - c) (fun x => clp M p c r r (c + x) ^^^ fm 285 (clp M p c r r c) (clp M p c r p (c + x)))) i j = clp M p c (r + 1) i j := by
  by_cases e : i = r
  · subst e
    rw [upn_same]
    unfold pl
    by_cases h : c ≤ j
    · rw [if_pos (by omega)]
      show clp M p c i i (c + (j - c)) ^^^ fm 285 (clp M p c i i c) (clp M p c i p (c + (j - c))) = _
      rw [show c + (j - c) = j by omega]
      unfold clp
      rw [if_neg (by omega), if_neg (by omega), if_neg (by omega), if_pos (by omega)]
    · rw [if_neg (by omega)]
      unfold clp
      rw [if_neg (by omega), if_neg (by omega)]
  · rw [upn_other _ _ e]
    unfold clp
    by_cases h : i < r ∧ i ≠ p ∧ c ≤ j
    · rw [if_pos h, if_pos (by omega)]
    · rw [if_neg h, if_neg (by omega)]
theorem clp_own (M : Nat → Nat → Nat) {p c r i : Nat} (j : Nat) (h : r ≤ i ∨ i = p) : clp M p c r i j = M i j := by unfold clp; rw [if_neg (by omega)]

/-- the rows' own blocks. -/
abbrev EB (m : Nat) (B : Nat → Nat) : Nat → Prop := fun x => ∃ r, r < m ∧ x = B r
theorem Ke.setB {m : Nat} {B : Nat → Nat} {w w' : World} (h : Ke (EB m B) w w') {p : Nat} (hp : p < m) (j : Nat) (x : Value) : Ke (EB m B) w (w'.setCell ⟨B p, j, none⟩ x) :=
  h.trans ((((Only.refl (B p) w').setCell j x).kp.ke).mono (fun y _ e => ⟨p, hp, e⟩))
set_option maxHeartbeats 4000000 in
set_option maxRecDepth 100000 in
theorem clearcol10 (t lo hi m k p c gm cm : Nat) (B : Nat → Nat) (S : Nat → Nat → Nat) (w : World) (ht : Tab8 w t) (htl : ∀ r, r < m → t ≠ B r) (hC : Cs lo hi w (.slice (some ⟨gm, 0, none⟩) m cm) m (fun _ => k) (fun _ => k) B S) (hp : p < m) (hc : c < k) (hk : k ≤ 768) (hm : m ≤ 256) :
    Calls Try.prog 76 #[.pointer (some ⟨t, 0, none⟩), .slice (some ⟨gm, 0, none⟩) m cm, .int .i64 (p : Int), .int .i64 (c : Int)] w fun e w' => e = .returned (.tuple #[]) ∧ Cs lo hi w' (.slice (some ⟨gm, 0, none⟩) m cm) m (fun _ => k) (fun _ => k) B (clr (scl S p c) p c) ∧ Ke (EB m B) w w' := by
  have q1 := hC.at_ hp
  have q2 := hC.cell_ hp (j := c) hc
  have lS := hC.lt_ hp (j := c) hc
  have c1 := tinv_all t (S p c) w ht lS
  rw [ti_fv] at c1
  have ip : ((p : Nat) : Int) < (m : Int) := by omega
  have ic : ((c : Nat) : Int) < (k : Int) := by omega
  have ic2 : ((c : Nat) : Int) ≤ (k : Int) := by omega
  have i0 : (0 : Int) < (k : Int) - (c : Int) := by omega
  have lv := fv_lt lS
  have HT : Hid (∀ x, Ke (EB m B) w x → Tab8 x t) := fun x hx => ht.of_heap (hx.2 t ht.lt (fun ⟨r, hr, e⟩ => htl r hr e))
  have HC : Hid (Cs lo hi w (.slice (some ⟨gm, 0, none⟩) m cm) m (fun _ => k) (fun _ => k) B S) := hC
  generalize hU : fv (S p c) = U at c1 lv
  generalize te (S p c) = E1 at c1
  have HU : Hid (fv (S p c) = U) := hU
  have HS : Hid (∀ r, r < m → t ≠ B r) := htl
  clear hC ht hU htl
  go_enter Try.func76, Try.ntmps76
  go_wp2_with (go_at_call 40; (with_reducible refine c1.mono ?_); rintro e w9 ⟨rfl, q9, hw9⟩; subst hw9)
  clear c1 q1 q2 lS ip ic2 i0
  obtain ⟨L, hL⟩ : ∃ L, L = k - c := ⟨_, rfl⟩
  rw [← hL]
  have hcL : c + L = k := by omega
  have HL : Hid (k - c = L) := hL.symm
  clear hL
  go_loopw [31] (fun i wr => ∃ x : Nat, x ≤ L ∧ i = .int .i64 x ∧ Cs lo hi wr (.slice (some ⟨gm, 0, none⟩) m cm) m (fun _ => k) (fun _ => k) B (scp S p c x) ∧ Ke (EB m B) w wr) (fun i _ => L - (intOf i).toNat)
  case atStart => exact ⟨0, Nat.zero_le _, rfl, (HC.out.drewN _).congr (fun i _ j _ => scp_zero S p c i j), (Ke.refl _ _).drewN _⟩
  case round =>
    obtain ⟨x, hx, rfl, hC1, hb1⟩ := hrel
    by_cases hlt : x < L
    · have hck : c + x < k := by omega
      have q3 := hC1.cell_ hp (j := c + x) hck
      have e3 : scp S p c x p (c + x) = S p (c + x) := by unfold scp; rw [if_neg (by omega)]
      rw [e3] at q3
      have l3 : S p (c + x) < 256 := HC.out.lt_ hp (j := c + x) hck
      have c5 := tmul_nat t U (S p (c + x)) wr (HT.out _ hb1) lv l3
      have HD : Hid (∀ y q, y = wr.drewN q → (∃ z : Nat, y.cell? ⟨B p, c + x, none⟩ = some (.int .u8 (z : Nat))) ∧ y.frozen? ⟨B p, c + x, none⟩ = false ∧ Cs lo hi (y.setCell ⟨B p, c + x, none⟩ (.int .u8 (fm 285 U (S p (c + x)) : Nat))) (.slice (some ⟨gm, 0, none⟩) m cm) m (fun _ => k) (fun _ => k) B (scp S p c (x + 1)) ∧ Ke (EB m B) w (y.setCell ⟨B p, c + x, none⟩ (.int .u8 (fm 285 U (S p (c + x)) : Nat)))) := fun y q hy => by
        have hC2 := hC1.drewN q
        have hb2 := hb1.drewN q
        rw [← hy] at hC2 hb2
        exact ⟨⟨_, hC2.cell_ hp (j := c + x) hck⟩, hC2.froz hp (c + x), (hC2.set hp (c + x) (fm 285 U (S p (c + x))) (fm8_lt _ _)).congr (fun i _ j _ => by rw [← HU.out]; exact scp_step S p c x i j), hb2.setB hp (c + x) _⟩
      have ib : ((x : Nat) : Int) < (L : Int) := by omega
      have W1 := wrap_succ8 (j := x) (by unfold big; omega)
      generalize fm 285 U (S p (c + x)) = M at c5 HD
      generalize S p (c + x) = A0 at q3 c5
      have HX : Hid (x < L) := hlt
      clear hC1 hb1 e3 l3 hlt hx hck hcL hc hp hk hm ic lv
      go_wp2_with (go_at_call 41; (with_reducible refine c5.mono ?_); rintro e w8 ⟨rfl, q8, hw8⟩; obtain ⟨⟨z5, q5⟩, q6, q7, q7b⟩ := HD.out _ _ hw8; have HD2 : Hid (Cs lo hi (w8.setCell ⟨B p, c + x, none⟩ (.int .u8 (M : Nat))) (.slice (some ⟨gm, 0, none⟩) m cm) m (fun _ => k) (fun _ => k) B (scp S p c (x + 1)) ∧ Ke (EB m B) w (w8.setCell ⟨B p, c + x, none⟩ (.int .u8 (M : Nat)))) := ⟨q7, q7b⟩; clear hw8 q7 q7b c5 HD q3)
      go_roundw
      case rel => exact ⟨x + 1, HX.out, by first | rfl | (rw [W1]; rfl), HD2.out.1, HD2.out.2⟩
      case measure => first | exact meas_lt8 HX.out | (rw [W1]; exact meas_lt8 HX.out)
    · have hxk : L = x := by omega
      subst hxk
      have hC2 : Cs lo hi wr (.slice (some ⟨gm, 0, none⟩) m cm) m (fun _ => k) (fun _ => k) B (scl S p c) := hC1.congr (fun i hi' j hj => by
        have hj : j < k := hj
        unfold scp scl
        by_cases e : i = p ∧ c ≤ j
        · rw [if_pos e, if_pos (by omega)]
        · rw [if_neg e, if_neg (by omega)])
      have HD : Hid (Cs lo hi wr (.slice (some ⟨gm, 0, none⟩) m cm) m (fun _ => k) (fun _ => k) B (scl S p c) ∧ Ke (EB m B) w wr) := ⟨hC2, hb1⟩
      clear hC1 hb1 hC2
      obtain ⟨MM, hMM⟩ : ∃ MM, Hid (MM = scl S p c) := ⟨_, rfl⟩
      rw [← hMM.out] at HD
      go_wp2
      go_loopw [46] (fun i w2 => ∃ r : Nat, r ≤ m ∧ i = .int .i64 r ∧ Cs lo hi w2 (.slice (some ⟨gm, 0, none⟩) m cm) m (fun _ => k) (fun _ => k) B (clp MM p c r) ∧ Ke (EB m B) w w2) (fun i _ => m - (intOf i).toNat)
      case atStart => exact ⟨0, Nat.zero_le _, rfl, HD.out.1.congr (fun i _ j _ => clp_zero MM p c i j), HD.out.2⟩
      case round =>
        obtain ⟨r, hr, rfl, hC1, hb1⟩ := hrel
        clear HD
        have ic2 : ((c : Nat) : Int) ≤ (k : Int) := by omega
        have ip : ((p : Nat) : Int) < (m : Int) := by omega
        by_cases hlt2 : r < m
        · have q1 := hC1.at_ hlt2
          have ib : ((r : Nat) : Int) < (m : Int) := by omega
          have W1 := wrap_succ8 (j := r) (by unfold big; omega)
          by_cases hrp : r = p
          · subst hrp
            have HE : Hid (Cs lo hi wr (.slice (some ⟨gm, 0, none⟩) m cm) m (fun _ => k) (fun _ => k) B (clp MM r c (r + 1)) ∧ Ke (EB m B) w wr) := ⟨hC1.congr (fun i _ j _ => clp_skip MM r c i j), hb1⟩
            clear hC1 hb1
            go_wp2
            go_roundw
            case rel => exact ⟨r + 1, hlt2, by first | rfl | (rw [W1]; rfl), HE.out.1, HE.out.2⟩
            case measure => first | exact meas_lt8 hlt2 | (rw [W1]; exact meas_lt8 hlt2)
          · have hI : ¬ ((r : Nat) : Int) = ((p : Nat) : Int) := fun e => hrp (Int.ofNat.inj e)
            have q5 := hC1.cell_ hlt2 (j := c) hc
            have hC1' : Cs lo hi wr.drew (.slice (some ⟨gm, 0, none⟩) m cm) m (fun _ => k) (fun _ => k) B (clp MM p c r) := hC1.drewN 1
            have hbr := hC1.row r hlt2
            have hnep : B p ≠ B r := fun e => hrp (hC1.inj p r hp hlt2 e).symm
            have hFk : Fk wr.drew (B r) L (some ⟨B p, c, none⟩) (fun j => clp MM p c r p (c + j)) := ⟨fun j hj => hC1'.lt_ hp (j := c + j) (by omega), fun _ => ⟨B p, c, rfl, hnep, (hC1'.row p hp).2.2.2.lt, fun j hj => hC1'.cell_ hp (j := c + j) (by omega)⟩⟩
            have c7 := addmul10 t (clp MM p c r r c) L (B r) c k (k - c) (k - c) (clp MM p c r r) (fun j => clp MM p c r p (c + j)) (some ⟨B p, c, none⟩) L wr.drew (HT.out _ (hb1.drewN 1)) (HS.out r hlt2) (hC1.lt_ hlt2 (j := c) hc) (hC1'.row r hlt2).2.2.2 (Nat.le_of_eq HL.out.symm) (Nat.le_of_eq (Nat.add_sub_cancel' (Nat.le_of_lt hc))) hFk
            have HE : Hid (∀ y, Kp (B r) wr.drew y → Rw y (B r) k (pl (clp MM p c r r) c L (fun j => clp MM p c r r (c + j) ^^^ fm 285 (clp MM p c r r c) (clp MM p c r p (c + j)))) → Cs lo hi y (.slice (some ⟨gm, 0, none⟩) m cm) m (fun _ => k) (fun _ => k) B (clp MM p c (r + 1)) ∧ Ke (EB m B) w y) := fun y h1 h2 => by
              rw [← HL.out] at h2
              exact ⟨(hC1'.turn1 hlt2 h1 h2).congr (fun i _ j hj => clp_step MM hrp hc i j hj), (hb1.drewN 1).trans (h1.ke.mono (fun z _ e => ⟨r, hlt2, e⟩))⟩
            generalize clp MM p c r r c = A0 at q5 c7 HE
            have HX : Hid (r < m) := hlt2
            clear hC1 hC1' hb1 hbr hFk HC HT HU hlt2 hr hcL hc hp hk hm lv hx hnep
            go_wp2
            refine region_planT (fun w' => w'.cell? ⟨B r, c, none⟩ = some (.int .u8 (A0 : Nat))) 9 [9] 65 q5 (by kernel_rfl) (by kernel_rfl) (fun _ a d v _ h => by cases d <;> exact h) ?_
            refine planT_last ?A2x0 rfl (fun w' hS => ?s2x0) rfl ?n2x0
            case s2x0 =>
              simp only [List.take_succ_cons, List.take_zero]
              repeat still_step
              exact rfl
            case n2x0 =>
            simp only [List.drop_succ_cons, List.drop_zero]
            go_wp2_with (go_at_call 58; ((with_reducible refine c7.mono ?_); rintro e w8 ⟨rfl, hk8, hr8⟩; have HF := HE.out w8 hk8 hr8; have HF : Hid _ := HF; clear hk8 hr8 HE c7))
            go_roundw
            case rel => first | exact ⟨r + 1, HX.out, by first | rfl | (rw [W1]; rfl), HF.out.1, HF.out.2⟩ | (rw [W1]; (repeat apply Exists.intro); exact ⟨⟨r + 1, HX.out, rfl, HF.out.1, HF.out.2⟩, rfl⟩)
            case measure => first | exact meas_lt8 HX.out | (rw [W1]; exact meas_lt8 HX.out)
        · have hrm : r = m := by omega
          subst hrm
          go_wp2
          ((try simp only [Exit.inBlock, Exit.then]); first | (refine bodyPost_ret (results_none rfl _ _ _) rfl ?_) | (refine bodyPost_end (results_none rfl _ _ _) rfl ?_))
          rw [← hMM.out]
          refine ⟨rfl, hC1.congr (fun i hi' j hj => ?_), hb1⟩
          unfold clp clr
          by_cases e : i ≠ p ∧ c ≤ j
          · rw [if_pos e, if_pos ⟨hi', e.1, e.2⟩]
          · rw [if_neg e, if_neg (fun h => e ⟨h.2.1, h.2.2⟩)]
end Go.Proofs.Ytdnhidachdjgaaa
