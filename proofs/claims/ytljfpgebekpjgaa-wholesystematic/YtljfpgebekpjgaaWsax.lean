import Derived.Test.YtljfpgebekpjgaaWsav
import Derived.Test.YtljfpgebekpjgaaWsaw
import Derived.Test.YtljfpgebekpjgaaWsat
import Derived.Test.YtljfpgebekpjgaaWsau
namespace Go.Proofs.Ytljfpgebekpjgaa
open Go.RowKit Gf2
set_option linter.unusedVariables false

set_option maxHeartbeats 2000000 in
set_option maxRecDepth 100000 in
theorem ident11 (n : Nat) (w : World) (h1 : 1 ≤ n) (h2 : n ≤ 256) :
    Calls Try.prog 28 #[.int .i64 (n : Int)] w fun e w' => e = .returned (.tuple #[.slice (some ⟨w.heap.size, 0, none⟩) n n, .int .i64 0]) ∧ Ans w w' (.slice (some ⟨w.heap.size, 0, none⟩) n n) n n idm := by
  have c1 := fun x => within10_yes (n : Int) 256 x (by omega) (by omega)
  have c2 := fun x => zeros10_any n n x (by omega) (by omega)
  go_enter Try.func28, Try.ntmps28
  go_wp2_with (first | (go_at_call 30; (with_reducible refine (c1 _).mono ?_); rintro e w9 ⟨rfl, hw9⟩; have hw9 := hw9.symm; subst hw9) | (go_at_call 32; (with_reducible refine (c2 _).mono ?_); rintro e w1 ⟨rfl, hz⟩))
  clear c1 c2
  have hC := hz.cs (by unfold big; omega) (by unfold big; omega)
  have hb := hz.bel
  clear hz
  generalize hB : (fun i => w.heap.size + 1 + i) = B at hC
  clear hB
  go_loopw [14] (fun i wr => ∃ k : Nat, k ≤ n ∧ i = .int .i64 k ∧ Cs w.heap.size w1.heap.size wr (.slice (some ⟨w.heap.size, 0, none⟩) n n) n (fun _ => n) (fun _ => n) B (fun i j => if i < k ∧ i = j then 1 else 0) ∧ Below w.heap.size w wr) (fun i _ => n - (intOf i).toNat)
  case atStart => exact ⟨0, Nat.zero_le _, rfl, hC.congr (fun i _ j _ => (if_neg (by omega)).symm), hb⟩
  case round =>
    obtain ⟨k, hk, rfl, hC', hb'⟩ := hrel
    clear hC hb
    by_cases hlt : k < n
    · have q1 := hC'.at_ hlt
      have q2 := hC'.cell_ hlt (j := k) hlt
      have q3 := hC'.froz hlt k
      have ib : ((k : Nat) : Int) < (n : Int) := by omega
      have W1 := wrap_succ8 (j := k) (by unfold big; omega)
      have HZ : Hid (Cs w.heap.size w1.heap.size (wr.setCell ⟨B k, k, none⟩ (.int .u8 ((1 : Nat) : Int))) (.slice (some ⟨w.heap.size, 0, none⟩) n n) n (fun _ => n) (fun _ => n) B (fun i j => if i < k + 1 ∧ i = j then 1 else 0) ∧ Below w.heap.size w (wr.setCell ⟨B k, k, none⟩ (.int .u8 ((1 : Nat) : Int)))) :=
        ⟨(hC'.set hlt k 1 (by decide)).congr (fun i _ j _ => by
          show (if i = k ∧ j = k then 1 else if i < k ∧ i = j then 1 else 0) = (if i < k + 1 ∧ i = j then 1 else 0)
          by_cases e : i = k ∧ j = k
          · rw [if_pos e, if_pos (by omega)]
          · rw [if_neg e]
            by_cases e2 : i < k ∧ i = j
            · rw [if_pos e2, if_pos (by omega)]
            · rw [if_neg e2, if_neg (by omega)]), hC'.bel hb' hlt k _⟩
      clear hC' hb'
      go_wp2
      go_roundw
      case rel => exact ⟨k + 1, hlt, by first | rfl | (rw [W1]; rfl), HZ.out.1, HZ.out.2⟩
      case measure => first | exact meas_lt8 hlt | (rw [W1]; exact meas_lt8 hlt)
    · have hkn : k = n := by omega
      subst hkn
      go_wp2
      go_ret2
      exact ⟨rfl, (hC'.ans (Nat.le_refl _) hb').congr (fun i hi j hj => by
        unfold idm
        by_cases e : i = j
        · rw [if_pos ⟨hi, e⟩, if_pos e]
        · rw [if_neg (fun h => e h.2), if_neg e])⟩

/-- one list of lists behind another, in new memory. -/
theorem app_lists {W : World} {v : Value} {g n m k : Nat} {S T : Nat → Nat → Nat} (h : Lb W (.slice (some ⟨g, 0, none⟩) n n) n (fun _ => k) S) (hv : Lb W v m (fun _ => k) T) (h0 : 0 < n) (hm : 0 < m) (hnm : n + m ≤ 1000) :
    ∃ v' w', (Builtin.append_ #[22, 22] 22 #[.slice (some ⟨g, 0, none⟩) n n, v]).run Try.prog W = .ok v' w' ∧ Lb w' v' (n + m) (fun _ => k) (fun i j => if i < n then S i j else T (i - n) j) ∧ Below W.heap.size W w' := by
  obtain ⟨V, ⟨hnb, a, cap, e, -, -, h4⟩, hV⟩ := h
  obtain ⟨X, ⟨hmb, a', cap', rfl, -, -, k4⟩, hX⟩ := hv
  obtain ⟨b, o, eb, hbl, hc⟩ := h4 h0
  obtain ⟨b', o', rfl, hbl', hc'⟩ := k4 hm
  cases e
  cases eb
  obtain ⟨iL, k1, k2, k3, k5⟩ := info_l9
  obtain ⟨v', w', hrun, own, gr⟩ := run_append_arg_grows (P := Try.prog) W 22 22 28 iL (.slice Option.none 0 0) 1 24 Try.underlying22 k1 k2 k3 k5 rfl (by decide)
    ⟨g, 0, Option.none⟩ n n (lv9 V n) (by rw [lv9_len, Nat.mul_one]) (fun j u hu => by
      have hj : j < n := by
        apply Nat.lt_of_not_le
        intro hx
        rw [List.getElem?_eq_none (by rw [lv9_len]; exact hx)] at hu
        cases hu
      rw [lv9_get _ hj] at hu
      cases hu
      rw [Addr.add_lit]
      exact hc j hj)
    ⟨b', o', Option.none⟩ m cap' (lv9 X m) (by rw [lv9_len, Nat.mul_one]) (fun j u hu => by
      have hj : j < m := by
        apply Nat.lt_of_not_le
        intro hx
        rw [List.getElem?_eq_none (by rw [lv9_len]; exact hx)] at hu
        cases hu
      rw [lv9_get _ hj] at hu
      cases hu
      rw [Addr.add_lit]
      exact hc' j hj)
    (by omega) (by unfold maxLen; omega) (by omega)
  have hb : Below W.heap.size W w' := ⟨gr.os, gr.tape, gr.output, gr.size, fun x hx => gr.block x hx (fun e => by cases e)⟩
  rw [lv9_snoc] at own
  have hG : Gl w' W.heap.size v' (n + m) (fun r => if r < n then V r else X (r - n)) := own
  obtain ⟨a2, c2, rfl, f1, f2, f3⟩ := hG.form
  refine ⟨_, w', hrun, ⟨fun r => if r < n then V r else X (r - n), ⟨by unfold big; omega, a2, c2, rfl, f1, by unfold big; unfold maxLen at f2; omega, fun _ => ?_⟩, fun i hi => ?_⟩, hb⟩
  · obtain ⟨g2, e2, -, hg2, -, hcell⟩ := f3 (by omega)
    exact ⟨g2, 0, e2, ⟨hg2, fun x => x⟩, fun i hi => by rw [Nat.zero_add]; exact hcell i hi⟩
  · by_cases hin : i < n
    · simp only [if_pos hin]
      exact (hV i hin).ke (ke_below hb _)
    · simp only [if_neg hin]
      exact (hX (i - n) (by omega)).ke (ke_below hb _)

/-- the factors of the parity. -/
def par11 (f : Int) (k : Nat) : Nat → Nat → Nat := if f = 1 then cau k else lgr k
/-- all rows. -/
def gen11 (f : Int) (k : Nat) : Nat → Nat → Nat := fun i j => if i < k then idm i j else par11 f k (i - k) j
set_option maxHeartbeats 2000000 in
set_option maxRecDepth 100000 in
theorem parity11_yes (f : Int) (k m : Nat) (w : World) (hf : f = 0 ∨ f = 1) (h1 : 1 ≤ k) (h2 : 1 ≤ m) (h3 : k + m ≤ 256) :
    Calls Try.prog 27 #[.int .i64 f, .int .i64 (k : Int), .int .i64 (m : Int)] w fun e w' => ∃ v, e = .returned (.tuple #[v, .int .i64 0]) ∧ Ans w w' v m k (par11 f k) := by
  have c1 := check11_yes f k m w hf h1 h2 h3
  rcases hf with rfl | rfl
  · have c2 := lagrange11 k m w h1 h2 h3
    have e0 : par11 0 k = lgr k := if_neg (by decide)
    rw [e0]
    clear h1 h2 h3 e0
    go_enter Try.func27, Try.ntmps27
    go_wp2_with (first | (go_at_call 54; (with_reducible refine c1.mono ?_); rintro e w9 ⟨rfl, hw9⟩; have hw9 := hw9.symm; subst hw9; clear c1) | (go_at_call 56; (with_reducible refine c2.mono ?_); rintro e w1 ⟨v, rfl, hA⟩; clear c2; have HA : Hid _ := hA; clear hA))
    go_ret2
    exact ⟨_, rfl, HA.out⟩
  · have c2 := cauchy10_yes m k w h2 h1 (by omega)
    have e0 : par11 1 k = cau k := if_pos rfl
    rw [e0]
    clear h1 h2 h3 e0
    go_enter Try.func27, Try.ntmps27
    go_wp2_with (first | (go_at_call 54; (with_reducible refine c1.mono ?_); rintro e w9 ⟨rfl, hw9⟩; have hw9 := hw9.symm; subst hw9; clear c1) | (go_at_call 55; (with_reducible refine c2.mono ?_); rintro e w1 ⟨v, rfl, hA⟩; clear c2; have HA : Hid _ := hA; clear hA))
    go_ret2
    exact ⟨_, rfl, HA.out⟩
/-- what Generator answers. -/
structure Gn (w w' : World) (v : Value) (n k : Nat) (S : Nat → Nat → Nat) : Prop where
  lb : Lb w' v n (fun _ => k) S
  bel : Below w.heap.size w w'
set_option maxHeartbeats 2000000 in
set_option maxRecDepth 100000 in
theorem generator11_yes (f : Int) (k m : Nat) (w : World) (hf : f = 0 ∨ f = 1) (h1 : 1 ≤ k) (h2 : 1 ≤ m) (h3 : k + m ≤ 256) :
    Calls Try.prog 7 #[.int .i64 f, .int .i64 (k : Int), .int .i64 (m : Int)] w fun e w' => ∃ v, e = .returned (.tuple #[v, .int .i64 0]) ∧ Gn w w' v (k + m) k (gen11 f k) := by
  have c1 := parity11_yes f k m w hf h1 h2 h3
  have c2 := fun x => ident11 k x h1 (by omega)
  have HG : Hid (∀ w1 v w2, Ans w w1 v m k (par11 f k) → Ans w1 w2 (.slice (some ⟨w1.heap.size, 0, none⟩) k k) k k idm → ∃ v' w', (Builtin.append_ #[22, 22] 22 #[.slice (some ⟨w1.heap.size, 0, none⟩) k k, v]).run Try.prog w2 = .ok v' w' ∧ Gn w w' v' (k + m) k (gen11 f k)) := fun w1 v w2 hA hI => by
    obtain ⟨v', w', a1, a2, a3⟩ := app_lists hI.lb (hA.lb.below hI.2) (by omega) (by omega) (by omega)
    have hb2 := hA.2.trans (hI.2.mono hA.2.size)
    exact ⟨v', w', a1, a2, hb2.trans (a3.mono hb2.size)⟩
  clear hf h1 h2 h3
  go_enter Try.func7, Try.ntmps7
  go_wp2_with (first
    | (go_at_call 27; (with_reducible refine c1.mono ?_); rintro e w1 ⟨v, rfl, hA⟩; clear c1)
    | (go_at_call 28; (with_reducible refine (c2 _).mono ?_); rintro e w2 ⟨rfl, hI⟩; obtain ⟨v5, w5, hrun, hG⟩ := HG.out w1 v w2 hA hI; clear c2 hA hI; have HF : Hid _ := hG; clear hG)
    | (at_builtin; refine Lib.wpList_append_run _ rfl _ _ _ _ rfl _ _ rfl rfl _ _ hrun ?_))
  go_ret2
  exact ⟨_, rfl, HF.out⟩
end Go.Proofs.Ytljfpgebekpjgaa
namespace Go.Proofs.Ytljfpgebekpjgaa
open Go.RowKit Gf2
set_option linter.unusedVariables false

theorem Gn.congr {w w' : World} {v : Value} {n k : Nat} {S T : Nat → Nat → Nat} (h : Gn w w' v n k S) (e : ∀ i, i < n → ∀ j, j < k → S i j = T i j) : Gn w w' v n k T := ⟨h.lb.congr e, h.bel⟩
end Go.Proofs.Ytljfpgebekpjgaa
namespace Go.Proofs.Ytljfpgebekpjgaa
open Go.RowKit Gf2
set_option linter.unusedVariables false

/-- Vander's row s, by the products. -/
theorem gen0_eq {k s i : Nat} (hs : s < 256) (hi : i < k) (hk : k ≤ 256) : gen11 0 k s i = fm 285 (qq i k s) (fv (wg k i)) := by
  have wi : wg k i = qq i k i := rfl
  have wl : wg k i < 256 := wg_lt k i
  have w0 : wg k i ≠ 0 := pr_ne k _ (fun t ht => by
    by_cases e : t = i
    · rw [if_pos e]; decide
    · rw [if_neg e]; exact ⟨xor_lt8 (by omega) (by omega), xor_ne (fun x => e x.symm)⟩)
  unfold gen11
  by_cases hsk : s < k
  · rw [if_pos hsk]
    unfold idm
    by_cases e : s = i
    · subst e
      rw [if_pos rfl, ← wi, fm_comm, fv_mul wl w0]
    · rw [if_neg e, show qq i k s = 0 from pr_zero k _ s hsk (by rw [if_neg e, Nat.xor_self]), fld8.zero_fm]
  · rw [if_neg hsk]
    have ks : k + (s - k) = s := by omega
    have e1 : par11 0 k (s - k) i = lgr k (s - k) i := by unfold par11; rw [if_neg (by decide)]
    rw [e1]
    unfold lgr
    rw [ks]
    have x0 : s ^^^ i ≠ 0 := xor_ne (by omega)
    have xl : s ^^^ i < 256 := xor_lt8 hs (by omega)
    have m0 : fm 285 (wg k i) (s ^^^ i) ≠ 0 := fld8.fm_ne wl xl w0 x0
    have ml : fm 285 (wg k i) (s ^^^ i) < 256 := fld8.fm_lt _ _
    have ws : wg k s = fm 285 (qq i k s) (s ^^^ i) := by
      unfold wg
      rw [pr_congr k (g := fun t => s ^^^ t) (fun t ht => if_neg (by omega)), pr_pull k _ i hi]
      rfl
    unfold td
    rw [if_neg m0, ws]
    have il := fld8.fi_lt ml m0
    have im := fld8.fi_mul ml m0
    have fvl := fv_lt wl
    have fvm := fv_mul wl w0
    -- both sides are alike times the product
    have key : fm 285 (s ^^^ i) (fi 285 (fm 285 (wg k i) (s ^^^ i))) = fv (wg k i) := by
      have a : fm 285 (fv (wg k i)) (fm 285 (fm 285 (wg k i) (s ^^^ i)) (fi 285 (fm 285 (wg k i) (s ^^^ i)))) = fv (wg k i) := by rw [im, fld8.fm_one fvl]
      rw [← fld8.fm_assoc, ← fld8.fm_assoc, fvm, fld8.one_fm xl] at a
      exact a
    rw [fld8.fm_assoc, key]
end Go.Proofs.Ytljfpgebekpjgaa
namespace Go.Proofs.Ytljfpgebekpjgaa
open Gf2
set_option linter.unusedVariables false

-- layer 11: Vander's generator by its polynomials
theorem gen_poly8 {k i : Nat} (hi : i < k) (hk : k ≤ 256) : ∃ a, Gf2.El 8 a ∧ Dg a k ∧ ∀ s, s < 256 → pe 285 s k a = gen11 0 k s i := by
  obtain ⟨a, h1, h2, h3⟩ := poly i k
  have e : dg i k = k := if_pos hi
  rw [e] at h2 h3
  refine ⟨pc 285 (fv (wg k i)) a, fld8.el_pc _ _, fun c hc => ?_, fun s hs => ?_⟩
  · show fm 285 _ (a c) = 0
    rw [h2 c hc, fld8.fm_zero]
  · rw [fld8.pe_pc, gen0_eq hs hi hk, h3 s hs, fm_comm]
    rfl
theorem only_gen8 {k i : Nat} {f : Nat → Nat} (hi : i < k) (hk : k ≤ 256) (ef : Gf2.El 8 f) (df : Dg f k) (hv : ∀ t, t < k → pe 285 t k f = idm t i) : ∀ s, s < 256 → pe 285 s k f = gen11 0 k s i := by
  obtain ⟨a, a1, a2, a3⟩ := gen_poly8 hi hk
  have e : f = a := fld8.through_only (n := k) (pts := fun t => t) ef a1 df a2 (fun t ht => by show t < 256; omega) (fun _ _ _ _ h => h) (fun t ht => by
    show pe 285 t k f = pe 285 t k a
    rw [hv t ht, a3 t (by omega)]
    unfold gen11
    rw [if_pos ht])
  intro s hs
  rw [e, a3 s hs]
theorem sys8 {k : Nat} {A : Nat → Nat → Nat} (hk : k ≤ 256) (hA : ∀ c i, c < k → i < k → A c i < 256) (h : ∀ r i, r < k → i < k → mm k vdm A r i = idm r i) : ∀ s, s < 256 → ∀ i, i < k → mm k vdm A s i = gen11 0 k s i := by
  intro s hs i hi
  have key : ∀ t, pe 285 t k (fun c => if c < k then A c i else 0) = mm k vdm A t i := fun t => sx_congr (fun c hc => by
    show fm 285 (if c < k then A c i else 0) (fp 285 t c) = fm 285 (fp 285 t c) (A c i)
    rw [if_pos hc, fm_comm])
  rw [← key]
  refine only_gen8 hi hk (fun c => ?_) (fun c hc => by show (if c < k then A c i else 0) = 0; rw [if_neg (by omega)]) (fun t ht => by rw [key, h t i ht hi]) s hs
  show (if c < k then A c i else 0) < 256
  split
  · exact hA c i (by assumption) hi
  · decide
end Go.Proofs.Ytljfpgebekpjgaa
namespace Go.Proofs.Ytljfpgebekpjgaa
open Go.RowKit Gf2
set_option linter.unusedVariables false

set_option maxHeartbeats 2000000 in
set_option maxRecDepth 100000 in
theorem valid11_yes (f : Int) (k m : Nat) (w : World) (hf : f = 0 ∨ f = 1) (h1 : 1 ≤ k) (h2 : 1 ≤ m) (h3 : k + m ≤ 256) :
    Calls Try.prog 9 #[.int .i64 f, .int .i64 (k : Int), .int .i64 (m : Int)] w fun e w' => e = .returned (.bool true) ∧ w' = w := by
  have k1 : decide ((k : Int) < 1) = false := by simp; omega
  have k2 : decide ((m : Int) < 1) = false := by simp; omega
  have W0 : wrap64 ((k : Int) + (m : Int)) = ((k + m : Nat) : Int) := add_small (by omega) (by omega)
  have k3 : decide ((k : Int) ≤ 256) = true := by simp; omega
  have k4 : decide ((m : Int) ≤ 256) = true := by simp; omega
  have k5 : decide (((k + m : Nat) : Int) ≤ 256) = true := by simp; omega
  generalize k + m = km at W0 k5
  clear h1 h2 h3
  rcases hf with rfl | rfl
  · go_enter Try.func9, Try.ntmps9
    go_wp2
    go_ret
    exact ⟨by first | rfl | simp_all, rfl⟩
  · go_enter Try.func9, Try.ntmps9
    go_wp2
    go_ret
    exact ⟨by first | rfl | simp_all, rfl⟩


set_option maxHeartbeats 2000000 in
set_option maxRecDepth 100000 in
theorem valid11_no (f k m : Int) (w : World) (hf : f = 0 ∨ f = 1) (h : ¬ (1 ≤ k ∧ 1 ≤ m ∧ k + m ≤ 256)) :
    Calls Try.prog 9 #[.int .i64 f, .int .i64 k, .int .i64 m] w fun e w' => e = .returned (.bool false) ∧ w' = w := by
  by_cases h1 : k < 1
  · have k1 : decide (k < 1) = true := by simp; omega
    clear h
    go_enter Try.func9, Try.ntmps9
    go_wp2
    go_ret
    exact ⟨by first | rfl | simp_all, rfl⟩
  · have k1 : decide (k < 1) = false := by simp; omega
    by_cases h2 : m < 1
    · have k2 : decide (m < 1) = true := by simp; omega
      clear h
      go_enter Try.func9, Try.ntmps9
      go_wp2
      go_ret
      exact ⟨by first | rfl | simp_all, rfl⟩
    · have k2 : decide (m < 1) = false := by simp; omega
      by_cases h3 : k ≤ 256
      · have k3 : decide (k ≤ 256) = true := by simp; omega
        by_cases h4 : m ≤ 256
        · have k4 : decide (m ≤ 256) = true := by simp; omega
          have W0 : wrap64 (k + m) = k + m := by unfold wrap64; omega
          have k5 : decide (k + m ≤ 256) = false := by simp; omega
          clear h
          rcases hf with rfl | rfl
          · go_enter Try.func9, Try.ntmps9
            go_wp2
            go_ret
            exact ⟨rfl, rfl⟩
          · go_enter Try.func9, Try.ntmps9
            go_wp2
            go_ret
            exact ⟨rfl, rfl⟩
        · have k4 : decide (m ≤ 256) = false := by simp; omega
          clear h
          rcases hf with rfl | rfl
          · go_enter Try.func9, Try.ntmps9
            go_wp2
            go_ret
            exact ⟨by first | rfl | simp_all, rfl⟩
          · go_enter Try.func9, Try.ntmps9
            go_wp2
            go_ret
            exact ⟨by first | rfl | simp_all, rfl⟩
      · have k3 : decide (k ≤ 256) = false := by simp; omega
        clear h
        rcases hf with rfl | rfl
        · go_enter Try.func9, Try.ntmps9
          go_wp2
          go_ret
          exact ⟨by first | rfl | simp_all, rfl⟩
        · go_enter Try.func9, Try.ntmps9
          go_wp2
          go_ret
          exact ⟨by first | rfl | simp_all, rfl⟩
end Go.Proofs.Ytljfpgebekpjgaa
namespace Go.Proofs.Ytljfpgebekpjgaa
open Go.RowKit Gf2
set_option linter.unusedVariables false

theorem pick11 (x : Int) (L : Nat) (h1 : 0 < L) (h2 : L ≤ 256) : ∃ p : Nat, p < L ∧ wrap64 ((IntKind.u64.wrap x).tmod (IntKind.u64.wrap (L : Int))) = (p : Int) := by
  have e : IntKind.u64.wrap (L : Int) = (L : Int) := by unfold IntKind.wrap; simp [IntKind.bits, IntKind.signed]; omega
  have h0 : 0 ≤ IntKind.u64.wrap x := by unfold IntKind.wrap; simp [IntKind.bits, IntKind.signed]; omega
  rw [e]
  have a1 : 0 ≤ (IntKind.u64.wrap x).tmod (L : Int) := Int.tmod_nonneg _ h0
  have a2 : (IntKind.u64.wrap x).tmod (L : Int) < (L : Int) := Int.tmod_lt_of_pos _ (by omega)
  generalize (IntKind.u64.wrap x).tmod (L : Int) = y at a1 a2
  refine ⟨y.toNat, by omega, ?_⟩
  unfold wrap64
  omega
end Go.Proofs.Ytljfpgebekpjgaa
