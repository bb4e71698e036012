import Derived.Test.YtljfpgebekpjgaaWsap
import Derived.Test.YtljfpgebekpjgaaWsar
import Derived.BigQuiet
namespace Go.Proofs.Ytljfpgebekpjgaa
open Go.RowKit Gf2
set_option linter.unusedVariables false

theorem ti_fv (a : Nat) : ti a = fv a := by unfold ti fv; rfl
theorem Tab8.kp {w w' : World} {t g : Nat} (h : Tab8 w t) (hk : Kp g w w') (hne : t ≠ g) : Tab8 w' t := h.of_heap (hk.2 t h.lt hne)
/-- one place more. -/
theorem pl_more {F S : Nat → Nat} {o k : Nat} (i : Nat) : (if i = o + k then S k else pl F o k S i) = pl F o (k + 1) S i := by
  unfold pl
  by_cases e : i = o + k
  · rw [if_pos e, if_pos (by omega), show i - o = k by omega]
  · rw [if_neg e]
    by_cases e2 : o ≤ i ∧ i < o + k
    · rw [if_pos e2, if_pos (by omega)]
    · rw [if_neg e2, if_neg (by omega)]

set_option maxHeartbeats 2000000 in
set_option maxRecDepth 100000 in
theorem addmul10 (t a n g o N ld cd : Nat) (F S : Nat → Nat) (x : Option Addr) (cx : Nat) (w : World) (ht : Tab8 w t) (htg : t ≠ g) (ha : a < 256) (hR : Rw w g N F) (hn : n ≤ ld) (hd : o + ld ≤ N) (hx : Fk w g n x S) :
    Calls Try.prog 61 #[.pointer (some ⟨t, 0, none⟩), .int .u8 (a : Int), .slice (some ⟨g, o, none⟩) ld cd, .slice x n cx] w fun e w' => e = .returned (.tuple #[]) ∧ Kp g w w' ∧ Rw w' g N (pl F o n (fun j => F (o + j) ^^^ fm 285 a (S j))) := by
  by_cases ha0 : a = 0
  · subst ha0
    have : Rw w g N (pl F o n (fun j => F (o + j) ^^^ fm 285 0 (S j))) := hR.congr (fun i hi => by
      unfold pl
      split
      · show F i = F (o + (i - o)) ^^^ fm 285 0 (S (i - o))
        rw [fld8.zero_fm, Nat.xor_zero, show o + (i - o) = i by omega]
      · rfl)
    clear ht hx
    go_enter Try.func61, Try.ntmps61
    go_wp2
    ((try simp only [Exit.inBlock, Exit.then]); first | (refine bodyPost_ret (results_none rfl _ _ _) rfl ?_) | (refine bodyPost_end (results_none rfl _ _ _) rfl ?_))
    exact ⟨rfl, Kp.refl _ _, this⟩
  · have hI : ¬ ((a : Nat) : Int) = 0 := by omega
    have hIb : (((a : Nat) : Int) == 0) = false := by simp [ha0]
    have hNb := hR.1
    obtain ⟨hS, hx4⟩ := hx
    go_enter Try.func61, Try.ntmps61
    go_wp2
    go_loopw [14] (fun i wr => ∃ k : Nat, k ≤ n ∧ i = .int .i64 k ∧ Kp g w wr ∧ Rw wr g N (pl F o k (fun j => F (o + j) ^^^ fm 285 a (S j)))) (fun i _ => n - (intOf i).toNat)
    case atStart => exact ⟨0, Nat.zero_le _, rfl, Kp.refl _ _, hR.congr (fun i _ => (pl_out (by omega)).symm)⟩
    case round =>
      obtain ⟨k, hk, rfl, hkp, hr⟩ := hrel
      by_cases hlt : k < n
      · obtain ⟨b, p, rfl, hbg, hbl, hc⟩ := hx4 (by omega)
        have q1 := (hkp.cell (q := p + k) hbl hbg).trans (hc k hlt)
        have q2 := hr.2.2.cell (i := o + k) (by omega)
        rw [show pl F o k (fun j => F (o + j) ^^^ fm 285 a (S j)) (o + k) = F (o + k) from pl_out (by omega)] at q2
        have q3 := hr.2.2.frozen (o + k)
        have lF : F (o + k) < 256 := hR.2.1 _ (by omega)
        have lS := hS k hlt
        have c5 := tmul_nat t a (S k) wr.drew ((ht.kp hkp htg).of_heap rfl) ha lS
        have X := u8_xor_nat (F (o + k)) (fm 285 a (S k)) lF (fm8_lt _ _)
        have HC : Hid (Kp g w (wr.setCell ⟨g, o + k, none⟩ (.int .u8 ((F (o + k) ^^^ fm 285 a (S k) : Nat) : Int))) ∧ Rw (wr.setCell ⟨g, o + k, none⟩ (.int .u8 ((F (o + k) ^^^ fm 285 a (S k) : Nat) : Int))) g N (pl F o (k + 1) (fun j => F (o + j) ^^^ fm 285 a (S j)))) :=
          ⟨hkp.setCell _ _, (hr.set (o + k) (F (o + k) ^^^ fm 285 a (S k)) (Nat.xor_lt_two_pow (n := 8) lF (fm8_lt _ _))).congr (fun i _ => pl_more (S := fun j => F (o + j) ^^^ fm 285 a (S j)) i)⟩
        have ib : ((k : Nat) : Int) < (n : Int) := by omega
        have ib2 : ((k : Nat) : Int) < (ld : Int) := by omega
        have W1 := wrap_succ8 (j := k) (by omega)
        generalize fm 285 a (S k) = M at c5 X HC
        generalize F (o + k) = A0 at q2 X HC
        generalize hM2 : A0 ^^^ M = M2 at X HC
        clear hr hkp hx4 hR hd hn hNb hM2 lF ht hc
        go_wp2
        refine region_planT (fun w' => w'.cell? ⟨g, o + k, none⟩ = some (.int .u8 (A0 : Nat))) 9 [7, 1] 30 q2 (by kernel_rfl) (by kernel_rfl) (fun _ a d v _ h => by cases d <;> exact h) ?_
        refine planT_step ?A1x0 rfl (fun w' hS => ?s1x0) rfl (fun K hK => ?n1x0)
        case s1x0 =>
          simp only [List.take_succ_cons, List.take_zero]
          repeat still_step
          exact rfl
        case n1x0 =>
        go_simp
        go_wp2_with (go_at_call 33; ((with_reducible refine c5.mono ?_); rintro e w9 ⟨rfl, q, rfl⟩))
        refine hK _ _ q2 ?_
        clear hK K c5
        refine planT_last ?A2x0 rfl (fun w' hS => ?s2x0) rfl ?n2x0
        case s2x0 =>
          simp only [List.take_succ_cons, List.take_zero]
          repeat still_step
          exact rfl
        case n2x0 =>
        simp only [List.drop_succ_cons, List.drop_zero]
        go_wp2
        go_roundw
        case rel => first | exact ⟨k + 1, hlt, by first | rfl | (rw [W1]; rfl), HC.out.1.drewN _, HC.out.2.drewN _⟩ | (rw [W1]; (repeat apply Exists.intro); exact ⟨⟨k + 1, hlt, rfl, HC.out.1.drewN _, HC.out.2.drewN _⟩, rfl⟩)
        case measure => first | exact meas_lt8 hlt | (rw [W1]; exact meas_lt8 hlt)
      · have hkn : k = n := by omega
        subst hkn
        clear hx4
        go_wp2
        ((try simp only [Exit.inBlock, Exit.then]); first | (refine bodyPost_ret (results_none rfl _ _ _) rfl ?_) | (refine bodyPost_end (results_none rfl _ _ _) rfl ?_))
        exact ⟨rfl, hkp, hr⟩
end Go.Proofs.Ytljfpgebekpjgaa
namespace Go.Proofs.Ytljfpgebekpjgaa
open Go.RowKit Gf2
set_option linter.unusedVariables false

/-- the first x cells from column c on scaled in row p. -/
def scp (S : Nat → Nat → Nat) (p c x : Nat) : Nat → Nat → Nat := fun i j => if i = p ∧ c ≤ j ∧ j < c + x then fm 285 (fv (S p c)) (S p j) else S i j
theorem scp_zero (S : Nat → Nat → Nat) (p c i j : Nat) : S i j = scp S p c 0 i j := by unfold scp; rw [if_neg (by omega)]
theorem scp_step (S : Nat → Nat → Nat) (p c x i j : Nat) : st2 (scp S p c x) p (c + x) (fm 285 (fv (S p c)) (S p (c + x))) i j = scp S p c (x + 1) i j := by
  unfold st2 scp
  by_cases e : i = p ∧ j = c + x
  · rw [if_pos e, if_pos (by omega), e.2]
  · rw [if_neg e]
    by_cases e2 : i = p ∧ c ≤ j ∧ j < c + x
    · rw [if_pos e2, if_pos (by omega)]
    · rw [if_neg e2, if_neg (by omega)]
/-- the rows below r cleared. -/
def clp (M : Nat → Nat → Nat) (p c r : Nat) : Nat → Nat → Nat := fun i j => if i < r ∧ i ≠ p ∧ c ≤ j then M i j ^^^ fm 285 (M i c) (M p j) else M i j
theorem clp_zero (S : Nat → Nat → Nat) (p c i j : Nat) : S i j = clp S p c 0 i j := by unfold clp; rw [if_neg (by omega)]
theorem clp_skip (M : Nat → Nat → Nat) (p c i j : Nat) : clp M p c p i j = clp M p c (p + 1) i j := by
  unfold clp
  by_cases e : i < p ∧ i ≠ p ∧ c ≤ j
  · rw [if_pos e, if_pos (by omega)]
  · rw [if_neg e, if_neg (by omega)]
theorem clp_step (M : Nat → Nat → Nat) {p c r k : Nat} (hrp : r ≠ p) (hc : c < k) (i j : Nat) (hj : j < k) : upn (clp M p c r) r (pl (clp M p c r r) c (k - c) (fun x => clp M p c r r (c + x) ^^^ fm 285 (clp M p c r r c) (clp M p c r p (c + x)))) i j = clp M p c (r + 1) i j := by
  by_cases e : i = r
  · subst e
    rw [upn_same]
    unfold pl
    by_cases h : c ≤ j
    · rw [if_pos (by omega)]
      show clp M p c i i (c + (j - c)) ^^^ fm 285 (clp M p c i i c) (clp M p c i p (c + (j - c))) = _
      rw [show c + (j - c) = j by omega]
      unfold clp
      rw [if_neg (by omega), if_neg (by omega), if_neg (by omega), if_pos (by omega)]
    · rw [if_neg (by omega)]
      unfold clp
      rw [if_neg (by omega), if_neg (by omega)]
  · rw [upn_other _ _ e]
    unfold clp
    by_cases h : i < r ∧ i ≠ p ∧ c ≤ j
    · rw [if_pos h, if_pos (by omega)]
    · rw [if_neg h, if_neg (by omega)]
/-- the rows' own blocks. -/
abbrev EB (m : Nat) (B : Nat → Nat) : Nat → Prop := fun x => ∃ r, r < m ∧ x = B r
theorem Ke.setB {m : Nat} {B : Nat → Nat} {w w' : World} (h : Ke (EB m B) w w') {p : Nat} (hp : p < m) (j : Nat) (x : Value) : Ke (EB m B) w (w'.setCell ⟨B p, j, none⟩ x) :=
  h.trans ((((Only.refl (B p) w').setCell j x).kp.ke).mono (fun y _ e => ⟨p, hp, e⟩))
set_option maxHeartbeats 4000000 in
set_option maxRecDepth 100000 in
theorem clearcol10 (t lo hi m k p c gm cm : Nat) (B : Nat → Nat) (S : Nat → Nat → Nat) (w : World) (ht : Tab8 w t) (htl : ∀ r, r < m → t ≠ B r) (hC : Cs lo hi w (.slice (some ⟨gm, 0, none⟩) m cm) m (fun _ => k) (fun _ => k) B S) (hp : p < m) (hc : c < k) (hk : k ≤ 768) (hm : m ≤ 256) :
    Calls Try.prog 115 #[.pointer (some ⟨t, 0, none⟩), .slice (some ⟨gm, 0, none⟩) m cm, .int .i64 (p : Int), .int .i64 (c : Int)] w fun e w' => e = .returned (.tuple #[]) ∧ Cs lo hi w' (.slice (some ⟨gm, 0, none⟩) m cm) m (fun _ => k) (fun _ => k) B (clr (scl S p c) p c) ∧ Ke (EB m B) w w' := by
  have q1 := hC.at_ hp
  have q2 := hC.cell_ hp (j := c) hc
  have lS := hC.lt_ hp (j := c) hc
  have c1 := tinv_all t (S p c) w ht lS
  rw [ti_fv] at c1
  have ip : ((p : Nat) : Int) < (m : Int) := by omega
  have ic : ((c : Nat) : Int) < (k : Int) := by omega
  have ic2 : ((c : Nat) : Int) ≤ (k : Int) := by omega
  have i0 : (0 : Int) < (k : Int) - (c : Int) := by omega
  have lv := fv_lt lS
  have HT : Hid (∀ x, Ke (EB m B) w x → Tab8 x t) := fun x hx => ht.of_heap (hx.2 t ht.lt (fun ⟨r, hr, e⟩ => htl r hr e))
  have HC : Hid (Cs lo hi w (.slice (some ⟨gm, 0, none⟩) m cm) m (fun _ => k) (fun _ => k) B S) := hC
  generalize hU : fv (S p c) = U at c1 lv
  generalize te (S p c) = E1 at c1
  have HU : Hid (fv (S p c) = U) := hU
  have HS : Hid (∀ r, r < m → t ≠ B r) := htl
  clear hC ht hU htl
  go_enter Try.func115, Try.ntmps115
  go_wp2_with (go_at_call 37; (with_reducible refine c1.mono ?_); rintro e w9 ⟨rfl, q9, hw9⟩; subst hw9)
  clear c1 q1 q2 lS ip ic2 i0
  obtain ⟨L, hL⟩ : ∃ L, L = k - c := ⟨_, rfl⟩
  rw [← hL]
  have hcL : c + L = k := by omega
  have HL : Hid (k - c = L) := hL.symm
  clear hL
  go_loopw [31] (fun i wr => ∃ x : Nat, x ≤ L ∧ i = .int .i64 x ∧ Cs lo hi wr (.slice (some ⟨gm, 0, none⟩) m cm) m (fun _ => k) (fun _ => k) B (scp S p c x) ∧ Ke (EB m B) w wr) (fun i _ => L - (intOf i).toNat)
  case atStart => exact ⟨0, Nat.zero_le _, rfl, (HC.out.drewN _).congr (fun i _ j _ => scp_zero S p c i j), (Ke.refl _ _).drewN _⟩
  case round =>
    obtain ⟨x, hx, rfl, hC1, hb1⟩ := hrel
    by_cases hlt : x < L
    · have hck : c + x < k := by omega
      have q3 := hC1.cell_ hp (j := c + x) hck
      have e3 : scp S p c x p (c + x) = S p (c + x) := by unfold scp; rw [if_neg (by omega)]
      rw [e3] at q3
      have l3 : S p (c + x) < 256 := HC.out.lt_ hp (j := c + x) hck
      have c5 := tmul_nat t U (S p (c + x)) wr (HT.out _ hb1) lv l3
      have HD : Hid (∀ y q, y = wr.drewN q → (∃ z : Nat, y.cell? ⟨B p, c + x, none⟩ = some (.int .u8 (z : Nat))) ∧ y.frozen? ⟨B p, c + x, none⟩ = false ∧ Cs lo hi (y.setCell ⟨B p, c + x, none⟩ (.int .u8 (fm 285 U (S p (c + x)) : Nat))) (.slice (some ⟨gm, 0, none⟩) m cm) m (fun _ => k) (fun _ => k) B (scp S p c (x + 1)) ∧ Ke (EB m B) w (y.setCell ⟨B p, c + x, none⟩ (.int .u8 (fm 285 U (S p (c + x)) : Nat)))) := fun y q hy => by
        have hC2 := hC1.drewN q
        have hb2 := hb1.drewN q
        rw [← hy] at hC2 hb2
        exact ⟨⟨_, hC2.cell_ hp (j := c + x) hck⟩, hC2.froz hp (c + x), (hC2.set hp (c + x) (fm 285 U (S p (c + x))) (fm8_lt _ _)).congr (fun i _ j _ => by rw [← HU.out]; exact scp_step S p c x i j), hb2.setB hp (c + x) _⟩
      have ib : ((x : Nat) : Int) < (L : Int) := by omega
      have W1 := wrap_succ8 (j := x) (by unfold big; omega)
      generalize fm 285 U (S p (c + x)) = M at c5 HD
      generalize S p (c + x) = A0 at q3 c5
      have HX : Hid (x < L) := hlt
      clear hC1 hb1 e3 l3 hlt hx hck hcL hc hp hk hm ic lv
      go_wp2_with (go_at_call 33; (with_reducible refine c5.mono ?_); rintro e w8 ⟨rfl, q8, hw8⟩; obtain ⟨⟨z5, q5⟩, q6, q7, q7b⟩ := HD.out _ _ hw8; have HD2 : Hid (Cs lo hi (w8.setCell ⟨B p, c + x, none⟩ (.int .u8 (M : Nat))) (.slice (some ⟨gm, 0, none⟩) m cm) m (fun _ => k) (fun _ => k) B (scp S p c (x + 1)) ∧ Ke (EB m B) w (w8.setCell ⟨B p, c + x, none⟩ (.int .u8 (M : Nat)))) := ⟨q7, q7b⟩; clear hw8 q7 q7b c5 HD q3)
      go_roundw
      case rel => exact ⟨x + 1, HX.out, by first | rfl | (rw [W1]; rfl), HD2.out.1, HD2.out.2⟩
      case measure => first | exact meas_lt8 HX.out | (rw [W1]; exact meas_lt8 HX.out)
    · have hxk : L = x := by omega
      subst hxk
      have hC2 : Cs lo hi wr (.slice (some ⟨gm, 0, none⟩) m cm) m (fun _ => k) (fun _ => k) B (scl S p c) := hC1.congr (fun i hi' j hj => by
        have hj : j < k := hj
        unfold scp scl
        by_cases e : i = p ∧ c ≤ j
        · rw [if_pos e, if_pos (by omega)]
        · rw [if_neg e, if_neg (by omega)])
      have HD : Hid (Cs lo hi wr (.slice (some ⟨gm, 0, none⟩) m cm) m (fun _ => k) (fun _ => k) B (scl S p c) ∧ Ke (EB m B) w wr) := ⟨hC2, hb1⟩
      clear hC1 hb1 hC2
      obtain ⟨MM, hMM⟩ : ∃ MM, Hid (MM = scl S p c) := ⟨_, rfl⟩
      rw [← hMM.out] at HD
      go_wp2
      go_loopw [46] (fun i w2 => ∃ r : Nat, r ≤ m ∧ i = .int .i64 r ∧ Cs lo hi w2 (.slice (some ⟨gm, 0, none⟩) m cm) m (fun _ => k) (fun _ => k) B (clp MM p c r) ∧ Ke (EB m B) w w2) (fun i _ => m - (intOf i).toNat)
      case atStart => exact ⟨0, Nat.zero_le _, rfl, HD.out.1.congr (fun i _ j _ => clp_zero MM p c i j), HD.out.2⟩
      case round =>
        obtain ⟨r, hr, rfl, hC1, hb1⟩ := hrel
        clear HD
        have ic2 : ((c : Nat) : Int) ≤ (k : Int) := by omega
        have ip : ((p : Nat) : Int) < (m : Int) := by omega
        by_cases hlt2 : r < m
        · have q1 := hC1.at_ hlt2
          have ib : ((r : Nat) : Int) < (m : Int) := by omega
          have W1 := wrap_succ8 (j := r) (by unfold big; omega)
          by_cases hrp : r = p
          · subst hrp
            have HE : Hid (Cs lo hi wr (.slice (some ⟨gm, 0, none⟩) m cm) m (fun _ => k) (fun _ => k) B (clp MM r c (r + 1)) ∧ Ke (EB m B) w wr) := ⟨hC1.congr (fun i _ j _ => clp_skip MM r c i j), hb1⟩
            clear hC1 hb1
            go_wp2
            go_roundw
            case rel => exact ⟨r + 1, hlt2, by first | rfl | (rw [W1]; rfl), HE.out.1, HE.out.2⟩
            case measure => first | exact meas_lt8 hlt2 | (rw [W1]; exact meas_lt8 hlt2)
          · have hI : ¬ ((r : Nat) : Int) = ((p : Nat) : Int) := fun e => hrp (Int.ofNat.inj e)
            have q5 := hC1.cell_ hlt2 (j := c) hc
            have hC1' : Cs lo hi wr.drew (.slice (some ⟨gm, 0, none⟩) m cm) m (fun _ => k) (fun _ => k) B (clp MM p c r) := hC1.drewN 1
            have hbr := hC1.row r hlt2
            have hnep : B p ≠ B r := fun e => hrp (hC1.inj p r hp hlt2 e).symm
            have hFk : Fk wr.drew (B r) L (some ⟨B p, c, none⟩) (fun j => clp MM p c r p (c + j)) := ⟨fun j hj => hC1'.lt_ hp (j := c + j) (by omega), fun _ => ⟨B p, c, rfl, hnep, (hC1'.row p hp).2.2.2.lt, fun j hj => hC1'.cell_ hp (j := c + j) (by omega)⟩⟩
            have c7 := addmul10 t (clp MM p c r r c) L (B r) c k (k - c) (k - c) (clp MM p c r r) (fun j => clp MM p c r p (c + j)) (some ⟨B p, c, none⟩) L wr.drew (HT.out _ (hb1.drewN 1)) (HS.out r hlt2) (hC1.lt_ hlt2 (j := c) hc) (hC1'.row r hlt2).2.2.2 (Nat.le_of_eq HL.out.symm) (Nat.le_of_eq (Nat.add_sub_cancel' (Nat.le_of_lt hc))) hFk
            have HE : Hid (∀ y, Kp (B r) wr.drew y → Rw y (B r) k (pl (clp MM p c r r) c L (fun j => clp MM p c r r (c + j) ^^^ fm 285 (clp MM p c r r c) (clp MM p c r p (c + j)))) → Cs lo hi y (.slice (some ⟨gm, 0, none⟩) m cm) m (fun _ => k) (fun _ => k) B (clp MM p c (r + 1)) ∧ Ke (EB m B) w y) := fun y h1 h2 => by
              rw [← HL.out] at h2
              exact ⟨(hC1'.turn1 hlt2 h1 h2).congr (fun i _ j hj => clp_step MM hrp hc i j hj), (hb1.drewN 1).trans (h1.ke.mono (fun z _ e => ⟨r, hlt2, e⟩))⟩
            generalize clp MM p c r r c = A0 at q5 c7 HE
            have HX : Hid (r < m) := hlt2
            clear hC1 hC1' hb1 hbr hFk HC HT HU hlt2 hr hcL hc hp hk hm lv hx hnep
            go_wp2
            refine region_planT (fun w' => w'.cell? ⟨B r, c, none⟩ = some (.int .u8 (A0 : Nat))) 9 [9] 65 q5 (by kernel_rfl) (by kernel_rfl) (fun _ a d v _ h => by cases d <;> exact h) ?_
            refine planT_last ?A2x0 rfl (fun w' hS => ?s2x0) rfl ?n2x0
            case s2x0 =>
              simp only [List.take_succ_cons, List.take_zero]
              repeat still_step
              exact rfl
            case n2x0 =>
            simp only [List.drop_succ_cons, List.drop_zero]
            go_wp2_with (go_at_call 61; ((with_reducible refine c7.mono ?_); rintro e w8 ⟨rfl, hk8, hr8⟩; have HF := HE.out w8 hk8 hr8; have HF : Hid _ := HF; clear hk8 hr8 HE c7))
            go_roundw
            case rel => first | exact ⟨r + 1, HX.out, by first | rfl | (rw [W1]; rfl), HF.out.1, HF.out.2⟩ | (rw [W1]; (repeat apply Exists.intro); exact ⟨⟨r + 1, HX.out, rfl, HF.out.1, HF.out.2⟩, rfl⟩)
            case measure => first | exact meas_lt8 HX.out | (rw [W1]; exact meas_lt8 HX.out)
        · have hrm : r = m := by omega
          subst hrm
          go_wp2
          ((try simp only [Exit.inBlock, Exit.then]); first | (refine bodyPost_ret (results_none rfl _ _ _) rfl ?_) | (refine bodyPost_end (results_none rfl _ _ _) rfl ?_))
          rw [← hMM.out]
          refine ⟨rfl, hC1.congr (fun i hi' j hj => ?_), hb1⟩
          unfold clp clr
          by_cases e : i ≠ p ∧ c ≤ j
          · rw [if_pos e, if_pos ⟨hi', e.1, e.2⟩]
          · rw [if_neg e, if_neg (fun h => e ⟨h.2.1, h.2.2⟩)]
end Go.Proofs.Ytljfpgebekpjgaa
namespace Go.Proofs.Ytljfpgebekpjgaa
open Go.RowKit Gf2
set_option linter.unusedVariables false

theorem wrap_lt8 {j b : Nat} (h : j < b) (hb : b ≤ 1000) : wrap64 ((j : Int) + 1) = (j : Int) + 1 := wrap_succ8 (by unfold big; omega)
/-- copy of n bytes into a row. -/
theorem copy10 {w : World} {g o N dl n cap cx : Nat} {F S : Nat → Nat} {x : Option Addr} (hr : Rw w g N F) (hx : Rb w (.slice x n cx) n S) (hd : o + dl ≤ N) (hn : n ≤ dl) :
    ∃ w', (Builtin.copy_ #[28, 28] 3 #[.slice (some ⟨g, o, none⟩) dl cap, .slice x n cx]).run Try.prog w = .ok (goInt n) w' ∧ Rw w' g N (pl F o n S) ∧ Only g w w' := by
  obtain ⟨h1, h2, a, c', e, h5, h6, h4⟩ := hx
  cases e
  exact copy8_min w (g := g) (o := o) (dl := dl) (cap := cap) hr (m := n) (n := n) h2 (fun h0 => by
    obtain ⟨b, p, e, hl, hc⟩ := h4 h0
    exact ⟨b, p, e, hc⟩) hd hn (Nat.le_refl _) (Nat.min_eq_left hn)

set_option maxHeartbeats 2000000 in
set_option maxRecDepth 100000 in
theorem checkBoth10_yes (u v : Value) (m m' : Nat) (n n' : Nat → Nat) (S S' : Nat → Nat → Nat) (w : World) (h : Lb w u m n S) (h' : Lb w v m' n' S') (hf : Fm m n) (hf' : Fm m' n') :
    Calls Try.prog 60 #[u, v] w fun e w' => e = .returned (.int .i64 0) ∧ w' = w := by
  have c1 := check10_yes u m n S w h hf
  have c2 := check10_yes v m' n' S' w h' hf'
  clear h h'
  go_enter Try.func60, Try.ntmps60
  go_wp2_with (go_at_call 34; first | ((with_reducible refine c1.mono ?_); rintro e w9 ⟨rfl, hw9⟩; have hw9 := hw9.symm; subst hw9) | ((with_reducible refine c2.mono ?_); rintro e w9 ⟨rfl, hw9⟩; have hw9 := hw9.symm; subst hw9))
  go_ret
  exact ⟨rfl, rfl⟩
set_option maxHeartbeats 2000000 in
set_option maxRecDepth 100000 in
theorem checkSquare10_yes (u : Value) (m : Nat) (n : Nat → Nat) (S : Nat → Nat → Nat) (w : World) (h : Lb w u m n S) (hf : Fm m n) (hsq : n 0 = m) :
    Calls Try.prog 58 #[u] w fun e w' => e = .returned (.int .i64 0) ∧ w' = w := by
  have c1 := check10_yes u m n S w h hf
  obtain ⟨V, ⟨hn, a, cap, rfl, -, -, h4⟩, hV⟩ := h
  obtain ⟨b, o, rfl, hbl, hc⟩ := h4 (by have := hf.1; omega)
  obtain ⟨x0, y0, z0⟩ : ∃ x y, w.cell? ⟨b, o + 0, none⟩ = some (.slice x m y) := by
    obtain ⟨_, _, x, y, e, _⟩ := hV 0 (by have := hf.1; omega)
    exact ⟨x, y, by rw [hc 0 (by have := hf.1; omega), e, hsq]⟩
  rw [Nat.add_zero] at z0
  have i0 : (0 : Int) < (m : Int) := by have := hf.1; omega
  clear h4 hc hV
  go_enter Try.func58, Try.ntmps58
  go_wp2_with (go_at_call 34; ((with_reducible refine c1.mono ?_); rintro e w9 ⟨rfl, hw9⟩; have hw9 := hw9.symm; subst hw9))
  go_ret
  exact ⟨rfl, rfl⟩

/-- the list of m rows' own block. -/
def Lz (w : World) (g m : Nat) : Prop := ∃ A : Array Value, w.heap[g]? = some (.cells A 28 (0, 0)) ∧ A.size = m
theorem Lz.of_heap {w w' : World} {g m : Nat} (h : Lz w g m) (e : w'.heap[g]? = w.heap[g]?) : Lz w' g m := by
  obtain ⟨A, h1, h2⟩ := h
  exact ⟨A, e.trans h1, h2⟩
theorem Lz.lt {w : World} {g m : Nat} (h : Lz w g m) : g < w.heap.size := by
  obtain ⟨A, h1, h2⟩ := h
  obtain ⟨hlt, _⟩ := Array.getElem?_eq_some_iff.1 h1
  exact hlt
theorem Cs.ne {lo hi m g cm : Nat} {w : World} {n C B : Nat → Nat} {S : Nat → Nat → Nat} (h : Cs lo hi w (.slice (some ⟨g, 0, none⟩) m cm) m n C B S) {i : Nat} (hi' : i < m) : B i ≠ g := by
  obtain ⟨a, c, e, hc1, hc2, hf⟩ := h.form
  cases e
  obtain ⟨g', e1, g1, g2, g3, g4⟩ := hf (by omega)
  cases e1
  exact g3 i hi'
theorem Lz.kp {lo hi m g cm r : Nat} {w w' : World} {n C B : Nat → Nat} {S : Nat → Nat → Nat} (h : Lz w g m) (hC : Cs lo hi w (.slice (some ⟨g, 0, none⟩) m cm) m n C B S) (hr : r < m) (hk : Kp (B r) w w') : Lz w' g m := h.of_heap (hk.2 g h.lt (fun e => hC.ne hr e.symm))
theorem Lz.rows {lo hi m k g cm : Nat} {w : World} {B : Nat → Nat} {S : Nat → Nat → Nat} (h : Lz w g m) (hC : Cs lo hi w (.slice (some ⟨g, 0, none⟩) m cm) m (fun _ => k) (fun _ => k) B S) : w.rowIs g 28 m (fun i => .slice (some ⟨B i, 0, none⟩) k k) := by
  obtain ⟨A, h1, h2⟩ := h
  exact ⟨A, h1, h2, fun i hi' => by rw [← cell_of_row w g i A _ _ h1]; exact hC.at_ hi'⟩
/-- a matrix that is answered, with its list in block g. -/
def AnsL (w w' : World) (g m c : Nat) (S : Nat → Nat → Nat) : Prop := (∃ B, Cs w.heap.size w'.heap.size w' (.slice (some ⟨g, 0, none⟩) m m) m (fun _ => c) (fun _ => c) B S ∧ w'.rowIs g 28 m (fun i => .slice (some ⟨B i, 0, none⟩) c c)) ∧ Below w.heap.size w w'
theorem AnsL.ans {w w' : World} {g m c : Nat} {S : Nat → Nat → Nat} (h : AnsL w w' g m c S) : Ans w w' (.slice (some ⟨g, 0, none⟩) m m) m c S := by
  obtain ⟨⟨B, h1, h2⟩, h3⟩ := h
  exact ⟨⟨B, h1⟩, h3⟩
theorem Cs.ansL {lo hi m c g : Nat} {w w' : World} {B : Nat → Nat} {S : Nat → Nat → Nat} (h : Cs lo hi w' (.slice (some ⟨g, 0, none⟩) m m) m (fun _ => c) (fun _ => c) B S) (hz : Lz w' g m) (hl : w.heap.size ≤ lo) (hb : Below w.heap.size w w') : AnsL w w' g m c S :=
  ⟨⟨B, h.wide hl h.hw (Nat.le_refl _), hz.rows h⟩, hb⟩
theorem Zr.lz {w wr : World} {m c : Nat} (h : Zr w wr m c m) : Lz wr w.heap.size m := by
  obtain ⟨A, h1, h2, h3⟩ := h.list
  exact ⟨A, h1, h2⟩

set_option maxHeartbeats 2000000 in
set_option maxRecDepth 100000 in
theorem strip10s (u : Value) (m f t k : Nat) (n : Nat → Nat) (S : Nat → Nat → Nat) (w : World) (h : Lb w u m n S) (hm : 1 ≤ m) (hm2 : m ≤ 256) (hft : f + k = t) (hk1 : 1 ≤ k) (ht2 : t ≤ 768) (hn : ∀ i, i < m → t ≤ n i) :
    Calls Try.prog 84 #[u, .int .i64 (f : Int), .int .i64 (t : Int)] w fun e w' => e = .returned (.slice (some ⟨w.heap.size, 0, none⟩) m m) ∧ AnsL w w' w.heap.size m k (fun i j => S i (f + j)) := by
  obtain ⟨V, ⟨hnb, a, cap, rfl, -, -, h4⟩, hV⟩ := h
  obtain ⟨b, o, rfl, hbl, hc⟩ := h4 (by omega)
  have W0 : wrap64 ((t : Int) - (f : Int)) = (k : Int) := by unfold wrap64; omega
  have W0' : (t : Int) - (f : Int) = (k : Int) := by omega
  have c4 := zeros10_any m k w (by omega) (by omega)
  have kt : t - f = k := by omega
  have HK : Hid (f + k = t ∧ k ≤ big ∧ m ≤ big) := ⟨hft, by unfold big; omega, by unfold big; omega⟩
  have HK1 : Hid (1 ≤ k) := hk1
  clear hk1
  have ft : ((f : Nat) : Int) ≤ (t : Int) := by omega
  have HV : Hid (∀ y, Below w.heap.size w y → ∀ i, i < m → ∃ x n' cx, y.cell? ⟨b, o + i, none⟩ = some (.slice x n' cx) ∧ t ≤ n' ∧ n' ≤ cx ∧ Rb y (.slice x n' cx) n' (S i)) := fun y hy i hi => by
    obtain ⟨x, cx, e, hcx⟩ : ∃ x cx, V i = .slice x (n i) cx ∧ n i ≤ cx := by obtain ⟨_, _, x, y, e, e', _⟩ := hV i hi; exact ⟨x, y, e, e'⟩
    have hr := (hV i hi).rb.below hy
    rw [e] at hr
    exact ⟨x, n i, cx, by rw [← e, ← hc i hi]; exact hy.cell (p := ⟨b, o + i, none⟩) hbl.1, hn i hi, hcx, hr⟩
  clear h4 hc hV hn hft
  go_enter Try.func84, Try.ntmps84
  go_wp2_with (go_at_call 32; (with_reducible refine c4.mono ?_); rintro e w1 ⟨rfl, hz⟩)
  clear c4 W0
  have hC := hz.cs HK.out.2.2 HK.out.2.1
  have hb1 := hz.bel
  have hlz := hz.lz
  clear hz
  generalize hB : (fun i => w.heap.size + 1 + i) = B at hC
  clear hB
  have hm1 : m ≤ 1000 := Nat.le_trans hm2 (by decide)
  go_loopw [18] (fun i wr => ∃ r : Nat, r ≤ m ∧ i = .int .i64 r ∧ Cs w.heap.size w1.heap.size wr (.slice (some ⟨w.heap.size, 0, none⟩) m m) m (fun _ => k) (fun _ => k) B (fil (fun i j => S i (f + j)) (fun _ _ => 0) r 0) ∧ Below w.heap.size w wr ∧ Lz wr w.heap.size m) (fun i _ => m - (intOf i).toNat)
  case atStart => exact ⟨0, Nat.zero_le _, rfl, hC.fil_start _, hb1, hlz⟩
  case round =>
    obtain ⟨r, hr, rfl, hC', hb', hlz'⟩ := hrel
    clear hC hb1 hlz
    by_cases hlt : r < m
    · obtain ⟨x, n', cx, q1, ln, lc, hrb⟩ := HV.out wr hb' r hlt
      obtain ⟨bx, ox, rfl⟩ : ∃ bx ox, x = some ⟨bx, ox, none⟩ := by
        obtain ⟨_, _, a9, c9, e9, _, _, h9⟩ := id hrb
        cases e9
        obtain ⟨b9, o9, e9, _⟩ := h9 (by have := HK1.out; have := HK.out.1; omega)
        exact ⟨b9, o9, e9⟩
      have hcf : ¬ cx = f := by have := HK1.out; have := HK.out.1; omega
      have q2 := hC'.at_ hlt
      have ib : ((r : Nat) : Int) < (m : Int) := Int.ofNat_lt.2 hlt
      have W1 := wrap_lt8 hlt hm1
      have tn : ((t : Nat) : Int) ≤ (n' : Int) := Int.ofNat_le.2 ln
      have tc : ((t : Nat) : Int) ≤ (cx : Int) := Int.ofNat_le.2 (Nat.le_trans ln lc)
      have HX : Hid (r < m) := hlt
      have HD : Hid (Cs w.heap.size w1.heap.size wr (.slice (some ⟨w.heap.size, 0, none⟩) m m) m (fun _ => k) (fun _ => k) B (fil (fun i j => S i (f + j)) (fun _ _ => 0) r 0) ∧ (Below w.heap.size w wr ∧ Lz wr w.heap.size m) ∧ Rb wr.drew (.slice (some ⟨bx, ox + f, none⟩) k (cx - f)) k (fun j => S r (f + j))) := ⟨hC', ⟨hb', hlz'⟩, by
        have h8 := hrb.drop (o := f) (by have := HK.out.1; omega)
        exact (h8.cut (n := k) (by have := HK.out.1; omega) (by have := HK.out.1; omega)).drewN 1⟩
      clear hC' hb' hlz' hrb hlt hr hm hm2 hm1 ht2 hnb ln lc HV kt W0'
      go_wp2
      refine region_planT (fun w' => w'.cell? ⟨w.heap.size, r, none⟩ = some (.slice (some ⟨B r, 0, none⟩) k k)) 8 [8] 34 q2 (by kernel_rfl) (by kernel_rfl) (fun _ a d v _ h => by cases d <;> exact h) ?_
      refine planT_last ?A2x0 rfl (fun w' hS => ?s2x0) rfl ?n2x0
      case s2x0 =>
        simp only [List.take_succ_cons, List.take_zero]
        repeat still_step
        exact rfl
      case n2x0 =>
      simp only [List.drop_succ_cons, List.drop_zero]
      obtain ⟨hC', ⟨hb', hlz'⟩, hrb⟩ := HD.out
      have hC2 : Cs w.heap.size w1.heap.size wr.drew (.slice (some ⟨w.heap.size, 0, none⟩) m m) m (fun _ => k) (fun _ => k) B (fil (fun i j => S i (f + j)) (fun _ _ => 0) r 0) := hC'.drewN 1
      obtain ⟨w5, hrun, hr5, ho5⟩ := copy10 (o := 0) (dl := k) (cap := k) (hC2.row r HX.out).2.2.2 hrb (Nat.le_of_eq (Nat.zero_add k)) (Nat.le_refl k)
      have HE : Hid (Cs w.heap.size w1.heap.size w5 (.slice (some ⟨w.heap.size, 0, none⟩) m m) m (fun _ => k) (fun _ => k) B (fil (fun i j => S i (f + j)) (fun _ _ => 0) (r + 1) 0) ∧ Below w.heap.size w w5 ∧ Lz w5 w.heap.size m) := ⟨(hC2.turn1 HX.out ho5.kp hr5).congr (fun i _ j hj => by
        have hj : j < k := hj
        unfold fil
        by_cases e : i = r
        · subst e
          rw [upn_same, if_pos (by omega)]
          unfold pl
          rw [if_pos (by omega)]
          show S i (f + (j - 0)) = S i (f + j)
          rw [Nat.sub_zero]
        · rw [upn_other _ _ e]
          by_cases e2 : i < r
          · rw [if_pos (by omega), if_pos (by omega)]
          · rw [if_neg (by omega), if_neg (by omega)]), (below_drewN hb' 1).trans (ho5.kp.below (hC2.row r HX.out).1 (below_drewN hb' 1).size), Lz.kp (w := wr.drew) (hlz'.of_heap rfl) hC2 HX.out ho5.kp⟩
      have kt : t - f = k := by have := HK.out.1; omega
      rw [kt]
      clear hC' hb' hlz' hrb hC2 hr5 ho5 HD kt
      go_wp2
      go_roundw
      case rel => first | exact ⟨r + 1, HX.out, by first | rfl | (rw [W1]; rfl), HE.out.1, HE.out.2.1, HE.out.2.2⟩ | (rw [W1]; (repeat apply Exists.intro); exact ⟨⟨r + 1, HX.out, rfl, HE.out.1, HE.out.2.1, HE.out.2.2⟩, rfl⟩)
      case measure => first | exact meas_lt8 HX.out | (rw [W1]; exact meas_lt8 HX.out)
    · have hrm : r = m := Nat.le_antisymm hr (Nat.le_of_not_lt hlt)
      subst hrm
      go_wp2
      go_ret
      exact ⟨rfl, hC'.fil_end.ansL hlz' (Nat.le_refl _) hb'⟩
theorem strip10 (u : Value) (m f t k : Nat) (n : Nat → Nat) (S : Nat → Nat → Nat) (w : World) (h : Lb w u m n S) (hm : 1 ≤ m) (hm2 : m ≤ 256) (hft : f + k = t) (hk1 : 1 ≤ k) (ht2 : t ≤ 768) (hn : ∀ i, i < m → t ≤ n i) :
    Calls Try.prog 84 #[u, .int .i64 (f : Int), .int .i64 (t : Int)] w fun e w' => ∃ v, e = .returned v ∧ Ans w w' v m k (fun i j => S i (f + j)) :=
  (strip10s u m f t k n S w h hm hm2 hft hk1 ht2 hn).mono fun e w' ⟨h1, h2⟩ => ⟨_, h1, h2.ans⟩
end Go.Proofs.Ytljfpgebekpjgaa
namespace Go.Proofs.Ytljfpgebekpjgaa
open Go.RowKit Gf2
set_option linter.unusedVariables false

/-- a and b side by side, a of l columns. -/
def bes (l : Nat) (S T : Nat → Nat → Nat) : Nat → Nat → Nat := fun i j => if j < l then S i j else T i (j - l)
/-- a list of rows, each of n bytes. -/
theorem rows10 {w : World} {u : Value} {m n : Nat} {S : Nat → Nat → Nat} (h : Lb w u m (fun _ => n) S) (h0 : 1 ≤ m) : ∃ b o cap, u = .slice (some ⟨b, o, none⟩) m cap ∧ ∀ y, Below w.heap.size w y → ∀ i, i < m → ∃ x cx, y.cell? ⟨b, o + i, none⟩ = some (.slice x n cx) ∧ Rb y (.slice x n cx) n (S i) := by
  obtain ⟨V, ⟨hnb, a, cap, rfl, -, -, h4⟩, hV⟩ := h
  obtain ⟨b, o, rfl, hbl, hc⟩ := h4 h0
  refine ⟨b, o, cap, rfl, fun y hy i hi => ?_⟩
  obtain ⟨x, cx, e⟩ : ∃ x cx, V i = .slice x n cx := by obtain ⟨_, _, x, y, e, _⟩ := hV i hi; exact ⟨x, y, e⟩
  have hr := (hV i hi).rb.below hy
  rw [e] at hr
  exact ⟨x, cx, by rw [← e, ← hc i hi]; exact hy.cell (p := ⟨b, o + i, none⟩) hbl.1, hr⟩
theorem wrap_sum8 {a b : Nat} (h : a ≤ 512) (k : b ≤ 512) : wrap64 ((a : Int) + (b : Int)) = ((a + b : Nat) : Int) := by
  unfold wrap64
  omega
set_option maxHeartbeats 2000000 in
set_option maxRecDepth 100000 in
theorem beside10s (u v : Value) (m l k : Nat) (S T : Nat → Nat → Nat) (w : World) (hu : Lb w u m (fun _ => l) S) (hv : Lb w v m (fun _ => k) T) (hm : 1 ≤ m) (hm2 : m ≤ 256) (hl : 1 ≤ l) (hl2 : l ≤ 512) (hk : 1 ≤ k) (hk2 : k ≤ 512) :
    Calls Try.prog 82 #[u, v] w fun e w' => e = .returned (.slice (some ⟨w.heap.size, 0, none⟩) m m) ∧ AnsL w w' w.heap.size m (l + k) (bes l S T) := by
  obtain ⟨b, o, cap, rfl, hU⟩ := rows10 hu hm
  obtain ⟨b', o', cap', rfl, hV⟩ := rows10 hv hm
  obtain ⟨x0, y0, z0, -⟩ := hU w (Below.refl _ _) 0 hm
  obtain ⟨x1, y1, z1, -⟩ := hV w (Below.refl _ _) 0 hm
  rw [Nat.add_zero] at z0 z1
  have i0 : (0 : Int) < (m : Int) := Int.ofNat_lt.2 hm
  have W0 := wrap_sum8 hl2 hk2
  have c4 := fun x => zeros10_any m (l + k) x (by omega) (by omega)
  have HK : Hid (m ≤ 1000 ∧ m ≤ big ∧ l + k ≤ big) := ⟨by omega, by unfold big; omega, by unfold big; omega⟩
  obtain ⟨L, hL⟩ : ∃ L, Hid (L = l + k) := ⟨_, rfl⟩
  rw [← hL.out] at W0 c4 HK
  have HU : Hid _ := hU
  have HV : Hid _ := hV
  have HK2 : Hid (1 ≤ k ∧ 1 ≤ l) := ⟨hk, hl⟩
  clear hu hv hm hm2 hl hl2 hk hk2 hU hV
  go_enter Try.func82, Try.ntmps82
  go_wp2
  go_quiet (fail)
  go_wp2_with (go_at_call 32; (with_reducible refine (c4 _).mono ?_); rintro e w1 ⟨rfl, hz⟩)
  clear c4 W0 z0 z1 i0
  have hz : Zr w w1 m L m := ⟨hz.sz, hz.list, hz.rows, hz.bel.os, hz.bel.tape, hz.bel.output, hz.bel.size, hz.bel.block⟩
  have hC := hz.cs HK.out.2.1 HK.out.2.2
  have hb1 := hz.bel
  have hlz := hz.lz
  clear hz
  generalize hB : (fun i => w.heap.size + 1 + i) = B at hC
  clear hB
  go_loopw [26] (fun i wr => ∃ r : Nat, r ≤ m ∧ i = .int .i64 r ∧ Cs w.heap.size w1.heap.size wr (.slice (some ⟨w.heap.size, 0, none⟩) m m) m (fun _ => L) (fun _ => L) B (fil (bes l S T) (fun _ _ => 0) r 0) ∧ Below w.heap.size w wr ∧ Lz wr w.heap.size m) (fun i _ => m - (intOf i).toNat)
  case atStart => exact ⟨0, Nat.zero_le _, rfl, hC.fil_start _, hb1, hlz⟩
  case round =>
    obtain ⟨r, hr, rfl, hC', hb', hlz'⟩ := hrel
    clear hC hb1 hlz
    by_cases hlt : r < m
    · obtain ⟨x, cx, q1, hrb⟩ := HU.out wr hb' r hlt
      have q2 := hC'.at_ hlt
      have ib : ((r : Nat) : Int) < (m : Int) := Int.ofNat_lt.2 hlt
      have W1 := wrap_lt8 hlt HK.out.1
      have lL : ((l : Nat) : Int) < (L : Int) := by have := hL.out; have := HK2.out; omega
      have lL2 : ((l : Nat) : Int) ≤ (L : Int) := Int.le_of_lt lL
      have lL3 : ¬ L = l := by omega
      obtain ⟨w5, hrun, hr5, ho5⟩ := copy10 (o := 0) (dl := L) (cap := L) (hC'.row r hlt).2.2.2 hrb (Nat.le_of_eq (Nat.zero_add L)) (by omega)
      have hC5 := hC'.turn1 hlt ho5.kp hr5
      have hb5 : Below w.heap.size w w5 := hb'.trans (ho5.kp.below (hC'.row r hlt).1 hb'.size)
      obtain ⟨x', cx', q3, hrb'⟩ := HV.out w5.drew hb5.drew r hlt
      obtain ⟨w6, hrun6, hr6, ho6⟩ := copy10 (w := w5.drew) (o := l) (dl := L - l) (cap := L - l) ((hC5.drewN 1).row r hlt).2.2.2 hrb' (by have := hL.out; omega) (by have := hL.out; omega)
      have hC6 := (hC5.drewN 1).turn1 hlt ho6.kp hr6
      have HE : Hid (Cs w.heap.size w1.heap.size w6 (.slice (some ⟨w.heap.size, 0, none⟩) m m) m (fun _ => L) (fun _ => L) B (fil (bes l S T) (fun _ _ => 0) (r + 1) 0) ∧ Below w.heap.size w w6 ∧ Lz w6 w.heap.size m) := ⟨hC6.congr (fun i _ j hj => by
        have hj : j < L := hj
        have hLk := hL.out
        unfold fil
        by_cases e : i = r
        · subst e
          rw [upn_same, if_pos (by omega)]
          unfold pl bes
          by_cases e2 : j < l
          · rw [if_neg (by omega), if_pos e2, upn_same, if_pos (by omega), Nat.sub_zero]
          · rw [if_pos (by omega), if_neg e2]
        · rw [upn_other _ _ e, upn_other _ _ e]
          by_cases e2 : i < r
          · rw [if_pos (by omega), if_pos (by omega)]
          · rw [if_neg (by omega), if_neg (by omega)]), (below_drewN hb5 1).trans (ho6.kp.below ((hC5.drewN 1).row r hlt).1 (below_drewN hb5 1).size), Lz.kp (w := w5.drew) ((hlz'.kp hC' hlt ho5.kp).of_heap rfl) (hC5.drewN 1) hlt ho6.kp⟩
      have HX : Hid (r < m) := hlt
      clear hC' hb' hlz' hrb hlt hr hr5 ho5 hC5 hb5 hrb' hr6 ho6 hC6 HU HV
      go_wp2
      refine region_planT (fun w' => w'.cell? ⟨b', o' + r, none⟩ = some (.slice x' k cx')) 7 [7] 47 q3 (by kernel_rfl) (by kernel_rfl) (fun _ a d v _ h => by cases d <;> exact h) ?_
      refine planT_last ?A2x0 rfl (fun w' hS => ?s2x0) rfl ?n2x0
      case s2x0 =>
        simp only [List.take_succ_cons, List.take_zero]
        repeat still_step
        exact rfl
      case n2x0 =>
      simp only [List.drop_succ_cons, List.drop_zero]
      go_wp2
      go_roundw
      case rel => first | exact ⟨r + 1, HX.out, by first | rfl | (rw [W1]; rfl), HE.out.1, HE.out.2.1, HE.out.2.2⟩ | (rw [W1]; (repeat apply Exists.intro); exact ⟨⟨r + 1, HX.out, rfl, HE.out.1, HE.out.2.1, HE.out.2.2⟩, rfl⟩)
      case measure => first | exact meas_lt8 HX.out | (rw [W1]; exact meas_lt8 HX.out)
    · have hrm : r = m := Nat.le_antisymm hr (Nat.le_of_not_lt hlt)
      subst hrm
      have := hL.out
      go_wp2
      go_ret
      exact ⟨rfl, by rw [← hL.out]; exact hC'.fil_end.ansL hlz' (Nat.le_refl _) hb'⟩
end Go.Proofs.Ytljfpgebekpjgaa
namespace Go.Proofs.Ytljfpgebekpjgaa
open Go.RowKit Gf2
set_option linter.unusedVariables false

/-- the product, its first x terms in row r, the rows below r whole. -/
def mup (n : Nat) (S T : Nat → Nat → Nat) (r x : Nat) : Nat → Nat → Nat := fun i j => if i < r then mm n S T i j else if i = r then mm x S T i j else 0
theorem mup_step (n k : Nat) (S T : Nat → Nat → Nat) (r x i j : Nat) (hj : j < k) : upn (mup n S T r x) r (pl (mup n S T r x r) 0 k (fun j => mup n S T r x r (0 + j) ^^^ fm 285 (S r x) (T x j))) i j = mup n S T r (x + 1) i j := by
  by_cases e : i = r
  · subst e
    rw [upn_same]
    unfold pl
    rw [if_pos (by omega)]
    show mup n S T i x i (0 + (j - 0)) ^^^ fm 285 (S i x) (T x (j - 0)) = _
    rw [Nat.sub_zero, Nat.zero_add]
    unfold mup
    rw [if_neg (Nat.lt_irrefl _), if_pos rfl, if_neg (Nat.lt_irrefl _), if_pos rfl]
    rfl
  · rw [upn_other _ _ e]
    unfold mup
    by_cases h : i < r
    · rw [if_pos h, if_pos h]
    · rw [if_neg h, if_neg h, if_neg e, if_neg e]
theorem mup_row (n : Nat) (S T : Nat → Nat → Nat) (r i j : Nat) : mup n S T r n i j = mup n S T (r + 1) 0 i j := by
  unfold mup
  by_cases h : i < r
  · rw [if_pos h, if_pos (by omega)]
  · rw [if_neg h]
    by_cases e : i = r
    · rw [if_pos e, if_pos (by omega)]
    · rw [if_neg e, if_neg (by omega)]
      split
      · rfl
      · rfl
/-- a slice's address and room. -/
def sa10 : Value → Option Addr
  | .slice a _ _ => a
  | _ => none
def sc10 : Value → Nat
  | .slice _ _ c => c
  | _ => 0
theorem rows10f {w : World} {u : Value} {m n : Nat} {S : Nat → Nat → Nat} (h : Lb w u m (fun _ => n) S) (h0 : 1 ≤ m) : ∃ b o cap, ∃ (X : Nat → Option Addr) (CX : Nat → Nat), u = .slice (some ⟨b, o, none⟩) m cap ∧ ∀ y, Below w.heap.size w y → ∀ i, i < m → y.cell? ⟨b, o + i, none⟩ = some (.slice (X i) n (CX i)) ∧ ∀ g, w.heap.size ≤ g → Fk y g n (X i) (S i) := by
  obtain ⟨V, ⟨hnb, a, cap, rfl, -, -, h4⟩, hV⟩ := h
  obtain ⟨b, o, rfl, hbl, hc⟩ := h4 h0
  refine ⟨b, o, cap, fun i => sa10 (V i), fun i => sc10 (V i), rfl, fun y hy i hi => ?_⟩
  obtain ⟨h1, h2, x, cx, e, h3, h5, h6⟩ := hV i hi
  have e' : V i = .slice (sa10 (V i)) n (sc10 (V i)) := by rw [e]; rfl
  have ex : sa10 (V i) = x := by rw [e]; rfl
  refine ⟨by rw [← e', ← hc i hi]; exact hy.cell (p := ⟨b, o + i, none⟩) hbl.1, fun g hg => ⟨h2, fun h0 => ?_⟩⟩
  obtain ⟨bx, ox, e1, hl, hcl⟩ := h6 h0
  exact ⟨bx, ox, ex.trans e1, by omega, Nat.lt_of_lt_of_le hl.1 hy.size, fun j hj => (hy.cell (p := ⟨bx, ox + j, none⟩) hl.1).trans (hcl j hj)⟩
set_option maxHeartbeats 4000000 in
set_option maxRecDepth 100000 in
theorem mul10_full (u v : Value) (m n k : Nat) (S T : Nat → Nat → Nat) (w : World) (hu : Lb w u m (fun _ => n) S) (hv : Lb w v n (fun _ => k) T) (hm : 1 ≤ m) (hm2 : m ≤ 256) (hn : 1 ≤ n) (hn2 : n ≤ 256) (hk : 1 ≤ k) (hk2 : k ≤ 512) :
    Calls Try.prog 36 #[u, v] w fun e w' => ∃ x, e = .returned (.tuple #[x, .int .i64 0]) ∧ Ans w w' x m k (mm n S T) ∧ ∃ g F, x = .slice (some ⟨g, 0, none⟩) m m ∧ w'.rowIs g 28 m F := by
  have c1 := checkBoth10_yes u v m n (fun _ => n) (fun _ => k) S T w hu hv ⟨hm, hm2, hn, by show n ≤ 512; omega, fun _ _ => rfl⟩ ⟨hn, hn2, hk, hk2, fun _ _ => rfl⟩
  obtain ⟨b, o, cap, X, CX, rfl, hU⟩ := rows10f hu hm
  obtain ⟨b', o', cap', Y, CY, rfl, hV⟩ := rows10f hv hn
  obtain ⟨z0, -⟩ := hU w (Below.refl _ _) 0 hm
  rw [Nat.add_zero] at z0
  have c3 := new_tab w
  have c4 := fun x => zeros10_any m k x (by omega) (by omega)
  have i0 : (0 : Int) < (m : Int) := Int.ofNat_lt.2 hm
  have i1 : (0 : Int) < (n : Int) := Int.ofNat_lt.2 hn
  have z2 : ∀ y, Below w.heap.size w y → ∃ x2 y2, y.cell? ⟨b', o', none⟩ = some (.slice x2 k y2) := fun y hy => by
    obtain ⟨z, -⟩ := hV y hy 0 hn
    rw [Nat.add_zero] at z
    exact ⟨_, _, z⟩
  have HK : Hid (m ≤ 1000 ∧ n ≤ 1000 ∧ m ≤ big ∧ k ≤ big) := ⟨by omega, by omega, by unfold big; omega, by unfold big; omega⟩
  have HU : Hid _ := hU
  have HV : Hid _ := hV
  clear hu hv hm hm2 hn hn2 hk hk2 hU hV
  go_enter Try.func36, Try.ntmps36
  go_wp2_with (first | (go_at_call 60; (with_reducible refine c1.mono ?_); rintro e w9 ⟨rfl, hw9⟩; have hw9 := hw9.symm; subst hw9) | (go_at_call 31; (with_reducible refine c3.mono ?_); rintro e w9 ⟨rfl, w0, hw9, hs0, ht, hb0⟩; subst hw9; obtain ⟨x2, y2, z2⟩ := z2 w0 hb0) | (go_at_call 32; (with_reducible refine (c4 _).mono ?_); rintro e w1 ⟨rfl, hz⟩))
  clear c1 c3 c4 z0 z2 i0 i1
  have hz : Zr w0 w1 m k m := hz
  have hC := hz.cs HK.out.2.2.1 HK.out.2.2.2
  have hb1 := hz.bel
  have hls := hz.list
  clear hz
  generalize hB : (fun i => w0.heap.size + 1 + i) = B at hC
  clear hB
  rw [hs0] at hC hb1 hls
  have hz1 : w.heap.size + 2 ≤ w1.heap.size := by have := hls.lt; omega
  have HLs : Hid (∃ F, w1.rowIs (w.heap.size + 1) 28 m F) := ⟨_, hls⟩
  clear hls
  have HT : Hid (∀ x, Below (w.heap.size + 2) w1 x → Tab8 x w.heap.size) := fun x hx => ht.of_heap ((hx.block _ (by omega)).trans (hb1.block _ (by omega)))
  have HB : Hid (∀ x, Below (w.heap.size + 2) w1 x → Below w.heap.size w x) := fun x hx => hb0.trans ((hb1.trans (hx.mono (Nat.le_succ _))).mono (Nat.le_succ _))
  have HS : Hid (w.heap.size + 2 ≤ w1.heap.size) := hz1
  clear hz1
  clear hb0 ht hs0 z2
  go_loopw [36] (fun i wr => ∃ r : Nat, r ≤ m ∧ i = .int .i64 r ∧ Cs (w.heap.size + 1) w1.heap.size wr (.slice (some ⟨w.heap.size + 1, 0, none⟩) m m) m (fun _ => k) (fun _ => k) B (mup n S T r 0) ∧ Below (w.heap.size + 2) w1 wr) (fun i _ => m - (intOf i).toNat)
  case atStart => exact ⟨0, Nat.zero_le _, rfl, hC.congr (fun i _ j _ => by unfold mup; rw [if_neg (Nat.not_lt_zero _)]; split; rfl; rfl), Below.refl _ _⟩
  case round =>
    obtain ⟨r, hr, rfl, hC', hb'⟩ := hrel
    clear hC hb1
    by_cases hlt : r < m
    · obtain ⟨q1, -⟩ := HU.out wr (HB.out _ hb') r hlt
      have ib : ((r : Nat) : Int) < (m : Int) := Int.ofNat_lt.2 hlt
      have W1 := wrap_lt8 hlt HK.out.1
      go_wp2
      go_loopw [43] (fun j wr2 => ∃ c : Nat, c ≤ n ∧ j = .int .i64 c ∧ Cs (w.heap.size + 1) w1.heap.size wr2 (.slice (some ⟨w.heap.size + 1, 0, none⟩) m m) m (fun _ => k) (fun _ => k) B (mup n S T r c) ∧ Below (w.heap.size + 2) w1 wr2) (fun j _ => n - (intOf j).toNat)
      case atStart => exact ⟨0, Nat.zero_le _, rfl, hC', hb'⟩
      case round =>
        obtain ⟨c, hc, rfl, hC2, hb2⟩ := hrel
        clear hC' hb'
        by_cases hct : c < n
        · obtain ⟨-, hfa⟩ := HU.out wr (HB.out _ hb2) r hlt
          obtain ⟨la, hfa⟩ := hfa _ (Nat.le_refl _)
          obtain ⟨bx, ox, eX, -, hbl, hca⟩ := hfa (Nat.lt_of_le_of_lt (Nat.zero_le _) hct)
          have q3 := hca c hct
          have q2 : wr.drew.cell? ⟨w.heap.size + 1, r, none⟩ = some (.slice (some ⟨B r, 0, none⟩) k k) := hC2.at_ hlt
          obtain ⟨q4, hfb⟩ := HV.out wr.drew (below_drewN (HB.out _ hb2) 1) c hct
          have hC3 : Cs (w.heap.size + 1) w1.heap.size wr.drew (.slice (some ⟨w.heap.size + 1, 0, none⟩) m m) m (fun _ => k) (fun _ => k) B (mup n S T r c) := hC2.drewN 1
          have hbr := (hC3.row r hlt).1
          have hbr2 : w.heap.size + 2 ≤ B r := by have := hC3.ne hlt; omega
          have c7 := addmul10 w.heap.size (S r c) k (B r) 0 k k k (mup n S T r c r) (T c) (Y c) (CY c) wr.drew (HT.out _ (below_drewN hb2 1)) (Nat.ne_of_lt hbr) (la c hct) (hC3.row r hlt).2.2.2 (Nat.le_refl _) (Nat.le_of_eq (Nat.zero_add k)) (hfb _ (Nat.le_trans (Nat.le_succ _) hbr))
          have HE : Hid (∀ y, Kp (B r) wr.drew y → Rw y (B r) k (pl (mup n S T r c r) 0 k (fun j => mup n S T r c r (0 + j) ^^^ fm 285 (S r c) (T c j))) → Cs (w.heap.size + 1) w1.heap.size y (.slice (some ⟨w.heap.size + 1, 0, none⟩) m m) m (fun _ => k) (fun _ => k) B (mup n S T r (c + 1)) ∧ Below (w.heap.size + 2) w1 y) := fun y h1 h2 =>
            ⟨(hC3.turn1 hlt h1 h2).congr (fun i _ j hj => mup_step n k S T r c i j hj), (below_drewN hb2 1).trans (h1.below hbr2 (Nat.le_trans HS.out (below_drewN hb2 1).size))⟩
          have jb : ((c : Nat) : Int) < (n : Int) := Int.ofNat_lt.2 hct
          have W2 := wrap_lt8 hct HK.out.2.1
          have HX : Hid (c < n) := hct
          generalize S r c = A0 at q3 c7 HE
          rw [eX]
          clear hC2 hb2 hC3 hbr hbr2 hfa hfb hca hbl la HU HV hct hc hr
          go_wp2
          refine region_planT (fun w' => w'.cell? ⟨w.heap.size + 1, r, none⟩ = some (.slice (some ⟨B r, 0, none⟩) k k) ∧ w'.cell? ⟨b', o' + c, none⟩ = some (.slice (Y c) k (CY c))) 10 [10] 62 ⟨q2, q4⟩ (by kernel_rfl) (by kernel_rfl) (fun _ a d v _ h => by cases d <;> exact h) ?_
          refine planT_last ?A2x0 rfl (fun w' hS => ?s2x0) rfl ?n2x0
          case s2x0 =>
            obtain ⟨y1, y2⟩ := hS
            simp only [List.take_succ_cons, List.take_zero]
            repeat still_step
            exact rfl
          case n2x0 =>
          simp only [List.drop_succ_cons, List.drop_zero]
          go_wp2_with (go_at_call 61; ((with_reducible refine c7.mono ?_); rintro e w8 ⟨rfl, hk8, hr8⟩; have HF := HE.out w8 hk8 hr8; have HF : Hid _ := HF; clear hk8 hr8 HE c7))
          go_roundw
          case rel => first | exact ⟨c + 1, HX.out, by first | rfl | (rw [W2]; rfl), HF.out.1, HF.out.2⟩ | (rw [W2]; (repeat apply Exists.intro); exact ⟨⟨c + 1, HX.out, rfl, HF.out.1, HF.out.2⟩, rfl⟩)
          case measure => first | exact meas_lt8 HX.out | (rw [W2]; exact meas_lt8 HX.out)
        · have hcn : c = n := Nat.le_antisymm hc (Nat.le_of_not_lt hct)
          subst hcn
          have HC : Hid (Cs (w.heap.size + 1) w1.heap.size wr (.slice (some ⟨w.heap.size + 1, 0, none⟩) m m) m (fun _ => k) (fun _ => k) B (mup c S T (r + 1) 0) ∧ Below (w.heap.size + 2) w1 wr) := ⟨hC2.congr (fun i _ j _ => mup_row c S T r i j), hb2⟩
          clear hC2 hb2
          go_wp2
          go_roundw
          case rel => exact ⟨r + 1, hlt, by first | rfl | (rw [W1]; rfl), HC.out.1, HC.out.2⟩
          case measure => first | exact meas_lt8 hlt | (rw [W1]; exact meas_lt8 hlt)
    · have hrm : r = m := Nat.le_antisymm hr (Nat.le_of_not_lt hlt)
      subst hrm
      go_wp2
      go_ret2
      obtain ⟨F, hF⟩ := HLs.out
      refine ⟨_, rfl, (hC'.ans (Nat.le_succ _) (HB.out _ hb')).congr (fun i hi j _ => by unfold mup; rw [if_pos hi]), ?_⟩
      first | exact ⟨_, rfl, F, hF.of_block (hb'.block _ (Nat.lt_succ_self _))⟩ | exact ⟨_, F, rfl, hF.of_block (hb'.block _ (Nat.lt_succ_self _))⟩
theorem mul10_yes (u v : Value) (m n k : Nat) (S T : Nat → Nat → Nat) (w : World) (hu : Lb w u m (fun _ => n) S) (hv : Lb w v n (fun _ => k) T) (hm : 1 ≤ m) (hm2 : m ≤ 256) (hn : 1 ≤ n) (hn2 : n ≤ 256) (hk : 1 ≤ k) (hk2 : k ≤ 512) :
    Calls Try.prog 36 #[u, v] w fun e w' => ∃ x, e = .returned (.tuple #[x, .int .i64 0]) ∧ Ans w w' x m k (mm n S T) :=
  (mul10_full u v m n k S T w hu hv hm hm2 hn hn2 hk hk2).mono (fun _ _ ⟨x, h1, h2, _⟩ => ⟨x, h1, h2⟩)
end Go.Proofs.Ytljfpgebekpjgaa
namespace Go.Proofs.Ytljfpgebekpjgaa
open Go.RowKit Gf2
set_option linter.unusedVariables false

-- layer 4: slices.Sort of bytes that rise already
theorem less8_nan (x : Int) (w : World) : Calls Try.prog 149 #[.int .u8 x] w fun e w' => e = .returned (.bool false) ∧ w' = w := by
  go_enter Try.func149, Try.ntmps149
  go_wp2
  go_ret
  exact ⟨rfl, rfl⟩
set_option maxHeartbeats 400000 in
theorem less8 (x y : Int) (w : World) : Calls Try.prog 122 #[.int .u8 x, .int .u8 y] w fun e w' => e = .returned (.bool (decide (x < y))) ∧ w' = w := by
  have c1 := fun x w => less8_nan x w
  go_enter Try.func122, Try.ntmps122
  go_wp2_with (go_at_call 149; (with_reducible refine (c1 _ _).mono ?_); rintro e w9 ⟨rfl, hw9⟩; have hw9 := hw9.symm; subst hw9)
  go_ret
  exact ⟨rfl, rfl⟩
theorem less8_no (x y : Int) (w : World) (h : ¬ x < y) : Calls Try.prog 122 #[.int .u8 x, .int .u8 y] w fun e w' => e = .returned (.bool false) ∧ w' = w := by
  have c := less8 x y w
  rw [decide_eq_false h] at c
  exact c
/-- each is greater than those ahead of it. -/
def Up8 (n : Nat) (F : Nat → Nat) : Prop := ∀ i j, i < j → j < n → F i < F j
set_option maxHeartbeats 2000000 in
set_option maxRecDepth 100000 in
theorem order8 (v x : Value) (n a b : Nat) (F : Nat → Nat) (w : World) (h : Rb w v n F) (up : Up8 n F) (hab : a < b) (hb : b < n) :
    Calls Try.prog 156 #[v, .int .i64 (a : Int), .int .i64 (b : Int), x] w fun e w' => e = .returned (.tuple #[.int .i64 (a : Int), .int .i64 (b : Int)]) ∧ ∃ q, w' = w.drewN q := by
  have c1 := fun w => less8_no (F b : Int) (F a : Int) w (by have := up a b hab hb; omega)
  obtain ⟨-, -, aa, cap, rfl, -, -, h4⟩ := h
  obtain ⟨g, o, rfl, -, hc⟩ := h4 (by omega)
  have q1 := hc a (by omega)
  have q2 := hc b hb
  have ia : ((a : Nat) : Int) < (n : Int) := by omega
  have ib : ((b : Nat) : Int) < (n : Int) := by omega
  generalize F a = y at q1 c1
  generalize F b = z at q2 c1
  clear hc h4 up hab hb
  go_enter Try.func156, Try.ntmps156
  go_wp2
  go_quiet ((go_at_call 122; with_reducible exact Calls.quiet_of_same (c1 _)))
  go_wp2
  go_ret2
  exact ⟨rfl, _, rfl⟩
theorem rb_drewN8 {w : World} {v : Value} {n : Nat} {F : Nat → Nat} (h : Rb w v n F) (q : Nat) : Rb (w.drewN q) v n F := h
set_option maxHeartbeats 2000000 in
set_option maxRecDepth 100000 in
theorem median8 (v x : Value) (n a b c : Nat) (F : Nat → Nat) (w : World) (h : Rb w v n F) (up : Up8 n F) (hab : a < b) (hbc : b < c) (hc : c < n) :
    Calls Try.prog 148 #[v, .int .i64 (a : Int), .int .i64 (b : Int), .int .i64 (c : Int), x] w fun e w' => e = .returned (.int .i64 (b : Int)) ∧ ∃ q, w' = w.drewN q := by
  have c1 := fun q => order8 v x n a b F (w.drewN q) (rb_drewN8 h q) up hab (by omega)
  have c2 := fun q => order8 v x n b c F (w.drewN q) (rb_drewN8 h q) up hbc hc
  have c0 := order8 v x n a b F w h up hab (by omega)
  have hd : ∀ q r, (w.drewN q).drewN r = w.drewN (q + r) := fun q r => World.drewN_drewN _ _ _
  clear h up hab hbc hc
  go_enter Try.func148, Try.ntmps148
  go_wp2_with (go_at_call 156; first
    | ((with_reducible refine c0.mono ?_); rintro e w9 ⟨rfl, q0, rfl⟩; clear c0)
    | ((with_reducible refine (c2 _).mono ?_); rintro e w9 ⟨rfl, q1, hw9⟩; rw [hd] at hw9; subst hw9; clear c2)
    | ((with_reducible refine (c1 _).mono ?_); rintro e w9 ⟨rfl, q2, hw9⟩; rw [hd] at hw9; subst hw9; clear c1))
  go_ret
  exact ⟨rfl, _, rfl⟩
set_option maxHeartbeats 2000000 in
set_option maxRecDepth 100000 in
theorem adjacent8 (v x : Value) (n a : Nat) (F : Nat → Nat) (w : World) (h : Rb w v n F) (up : Up8 n F) (ha : 1 ≤ a) (hc : a + 1 < n) (hn : n ≤ 1000) :
    Calls Try.prog 147 #[v, .int .i64 (a : Int), x] w fun e w' => e = .returned (.int .i64 (a : Int)) ∧ ∃ q, w' = w.drewN q := by
  obtain ⟨b, rfl⟩ : ∃ b, a = b + 1 := ⟨a - 1, by omega⟩
  have c0 := median8 v x n b (b + 1) (b + 2) F w h up (by omega) (by omega) (by omega)
  have W0 : wrap64 (((b + 1 : Nat) : Int) - 1) = ((b : Nat) : Int) := by unfold wrap64; omega
  have W1 : wrap64 (((b + 1 : Nat) : Int) + 1) = ((b + 2 : Nat) : Int) := by unfold wrap64; omega
  generalize hs : ((b + 1 : Nat) : Int) = s at c0 W0 W1 ⊢
  generalize ((b : Nat) : Int) = r at c0 W0
  generalize ((b + 2 : Nat) : Int) = t at c0 W1
  clear h up ha hc hn hs
  go_enter Try.func147, Try.ntmps147
  go_wp2_with (go_at_call 148; first | rw [W0, W1] | skip; (with_reducible refine c0.mono ?_); rintro e w9 ⟨rfl, q0, rfl⟩; clear c0)
  go_ret
  exact ⟨rfl, _, rfl⟩
end Go.Proofs.Ytljfpgebekpjgaa
