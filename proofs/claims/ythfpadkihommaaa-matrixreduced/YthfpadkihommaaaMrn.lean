import Derived.Test.YthfpadkihommaaaMrg
import Derived.Test.YthfpadkihommaaaKac
namespace Go.Proofs.Ythfpadkihommaaa
open Go.RowKit Gf2
set_option linter.unusedVariables false

/-- x pivots lie ahead of column c. -/
def Px (t : Nat) (P : Nat → Nat) (c x : Nat) : Prop := x ≤ t ∧ (∀ i, i < x → P i < c) ∧ ∀ i, x ≤ i → i < t → c ≤ P i
theorem Px.start (t : Nat) (P : Nat → Nat) : Px t P 0 0 := ⟨Nat.zero_le _, fun i hi => absurd hi (Nat.not_lt_zero _), fun _ _ _ => Nat.zero_le _⟩
theorem Px.hit {t : Nat} {P : Nat → Nat} {c x : Nat} (h : Px t P c x) (up : ∀ i k, i < k → k < t → P i < P k) (hx : x < t) (e : P x = c) : Px t P (c + 1) (x + 1) :=
  ⟨hx, fun i hi => by
    by_cases e' : i = x
    · subst e'; omega
    · have := h.2.1 i (by omega); omega, fun i h1 h2 => by have := up x i (by omega) h2; omega⟩
theorem Px.miss {t : Nat} {P : Nat → Nat} {c x : Nat} (h : Px t P c x) (up : ∀ i k, i < k → k < t → P i < P k) (hx : x < t → P x ≠ c) : Px t P (c + 1) x ∧ ∀ k, k < t → P k ≠ c := by
  have hlt : ∀ i, x ≤ i → i < t → c < P i := fun i h1 h2 => by
    have a := h.2.2 x (Nat.le_refl _) (by omega)
    have b := hx (by omega)
    by_cases e : i = x
    · subst e; omega
    · have := up x i (by omega) h2; omega
  refine ⟨⟨h.1, fun i hi => by have := h.2.1 i hi; omega, fun i h1 h2 => hlt i h1 h2⟩, fun k hk e => ?_⟩
  by_cases e2 : k < x
  · have := h.2.1 k e2; omega
  · have := hlt k (by omega) hk; omega
theorem Px.far {t : Nat} {P : Nat → Nat} {f c x y : Nat} (hf : Px t P f x) (hc : Px t P c y) (up : ∀ i k, i < k → k < t → P i < P k) (hfree : ∀ k, k < t → P k ≠ f) (hlt : f < c) : f + y < c + x := by
  by_cases hxy : y ≤ x
  · omega
  · have cl : ∀ j, x + j < y → f + 1 + j ≤ P (x + j) := by
      intro j
      induction j with
      | zero => intro hj; have := hf.2.2 x (Nat.le_refl _) (by have := hc.1; omega); have := hfree x (by have := hc.1; omega); show f + 1 + 0 ≤ P x; omega
      | succ j ih => intro hj; have := ih (by omega); have := up (x + j) (x + (j + 1)) (by omega) (by have := hc.1; omega); omega
    have a := cl (y - 1 - x) (by omega)
    have b := hc.2.1 (x + (y - 1 - x)) (by omega)
    omega
theorem Px.last {t : Nat} {P : Nat → Nat} {n x : Nat} (h : Px t P n x) (hP : ∀ i, i < t → P i < n) : x = t := by
  apply Nat.le_antisymm h.1
  apply Nat.le_of_not_lt
  intro hlt
  have := h.2.2 x (Nat.le_refl _) hlt
  have := hP x hlt
  omega
/-- the vectors of the free columns ahead of c. -/
def Nl (t : Nat) (P : Nat → Nat) (M : Nat → Nat → Nat) (c : Nat) (S : Nat → Nat → Nat) : Prop := ∀ f x y, f < c → y + x = f → Px t P f x → (∀ k, k < t → P k ≠ f) → S y = nvs P M f t
theorem Nl.start (t : Nat) (P : Nat → Nat) (M : Nat → Nat → Nat) (S : Nat → Nat → Nat) : Nl t P M 0 S := fun f _ _ hf => absurd hf (Nat.not_lt_zero _)
theorem Nl.hit {t : Nat} {P : Nat → Nat} {M : Nat → Nat → Nat} {c x : Nat} {S : Nat → Nat → Nat} (h : Nl t P M c S) (hx : x < t) (e : P x = c) : Nl t P M (c + 1) S := fun f a y h1 h2 h3 h4 => by
  by_cases e' : f = c
  · exact absurd e (e' ▸ h4 x hx)
  · exact h f a y (by omega) h2 h3 h4
theorem Px.uniq {t : Nat} {P : Nat → Nat} {c x y : Nat} (h : Px t P c x) (k : Px t P c y) : x = y := by
  rcases Nat.lt_trichotomy x y with a | a | a
  · have := k.2.1 x a; have := h.2.2 x (Nat.le_refl _) (by have := k.1; omega); omega
  · exact a
  · have := h.2.1 y a; have := k.2.2 y (Nat.le_refl _) (by have := h.1; omega); omega
theorem Nl.miss {t : Nat} {P : Nat → Nat} {M : Nat → Nat → Nat} {c x k : Nat} {S : Nat → Nat → Nat} (h : Nl t P M c S) (up : ∀ i k, i < k → k < t → P i < P k) (hx : Px t P c x) (hk : k + x = c) : Nl t P M (c + 1) (upn S k (nvs P M c t)) := fun f a y h1 h2 h3 h4 => by
  by_cases e' : f = c
  · subst e'
    have := h3.uniq hx
    subst this
    have : y = k := by omega
    subst this
    exact upn_same _ _ _
  · have := h3.far hx up h4 (by omega)
    rw [upn_other _ _ (by omega)]
    exact h f a y (by omega) h2 h3 h4

/-- what Null answers. -/
structure An (w w' : World) (v : Value) (n t : Nat) (P : Nat → Nat) (M : Nat → Nat → Nat) : Prop where
  out : ∃ B k N, k + t = n ∧ Cs w.heap.size w'.heap.size w' v k (fun _ => n) (fun _ => n) B N ∧ Nl t P M n N ∧ Below w.heap.size w w'

set_option maxHeartbeats 2000000 in
set_option maxRecDepth 100000 in
theorem null10_yes (u : Value) (m n : Nat) (S : Nat → Nat → Nat) (w : World) (h : Lb w u m (fun _ => n) S) (h1 : 1 ≤ m) (h2 : m ≤ 256) (h3 : 1 ≤ n) (h4 : n ≤ 512) (hS : ∀ i j, S i j < 256) :
    Calls Try.prog 22 #[u] w fun e w' => ∃ v, e = .returned (.tuple #[v, .int .i64 0]) ∧ An w w' v n (elm m S n).t (elm m S n).P (elm m S n).M := by
  have c1 := reduce10_yes u m n S w h h1 h2 h3 h4 hS
  have hR := red_elm (m := m) hS n
  clear h hS
  generalize elm m S n = s at c1 hR
  obtain ⟨M, t, P, d⟩ := s
  dsimp only at c1 hR ⊢
  have HR : Hid _ := hR
  have H : Hid (1 ≤ m ∧ m ≤ 256 ∧ 1 ≤ n ∧ n ≤ 512 ∧ t ≤ m) := ⟨h1, h2, h3, h4, hR.tm⟩
  have HC : Hid (∀ w1 v pv, Ans w w1 v m n M → Gj (w.heap.size + 1) w1 pv t (fun i => (P i : Int)) → (∃ b o cap x y, v = .slice (some ⟨b, o, none⟩) m cap ∧ w1.cell? ⟨b, o, none⟩ = some (.slice x n y)) ∧ ∀ wr, Below w1.heap.size w1 wr → ∀ c, c < n → Calls Try.prog 45 #[v, pv, .int .i64 (c : Int)] wr fun e w' => e = .returned (.slice (some ⟨wr.heap.size, 0, none⟩) n n) ∧ Rw w' wr.heap.size n (nvs P M c t) ∧ Below wr.heap.size wr w') := fun w1 v pv hA hP => by
    refine ⟨?_, fun wr hb c hc => nullVector10 v pv m n c t P M wr (hA.lb.below hb) (hP.qi.below hb) h1 (by omega) hR.tm (by omega) hR.pc hc hR.lt⟩
    obtain ⟨b, o, cap, rfl⟩ := hA.lb.head h1
    obtain ⟨x, y, e⟩ := hA.lb.first h1
    exact ⟨b, o, cap, x, y, rfl, e⟩
  have i0 : (0 : Int) < (m : Int) := Int.ofNat_lt.2 h1
  clear h1 h2 h3 h4 hR
  go_enter Try.func22, Try.ntmps22
  go_wp2_with (go_at_call 18; (with_reducible refine c1.mono ?_); rintro e w1 ⟨v, pv, rfl, hA, hP⟩; clear c1; obtain ⟨⟨b, o, cap, x, y, rfl, z0⟩, hN⟩ := HC.out w1 v pv hA hP; obtain ⟨-, -, pa, pc, rfl, -, -, hpc⟩ := hP.qi; have HN : Hid _ := hN; have HPC : Hid _ := hpc; have HB : Hid (Below w.heap.size w w1) := hA.2; clear hA hP HC hN hpc)
  clear z0
  go_loopw [7, 8, 23] (fun av p i wr => ∃ k x c B N, c ≤ n ∧ k + x = c ∧ p = .int .i64 (x : Nat) ∧ i = .int .i64 (c : Nat) ∧ Px t P c x ∧ Nl t P M c N ∧ Hid (Cg w1 wr av k (fun _ => n) (fun _ => n) B N)) (fun _ _ i _ => n - (intOf i).toNat)
  case atStart => exact ⟨0, 0, 0, fun _ => 0, fun _ _ => 0, Nat.zero_le _, rfl, rfl, rfl, Px.start _ _, Nl.start _ _ _ _, Cg.start _ _ _ _ _⟩
  case round =>
    obtain ⟨k, x', c, B, N, hc, hk, rfl, rfl, hx, hl, hG⟩ := hrel
    obtain ⟨oa, oC, rfl⟩ := hG.out.form
    by_cases hct : c < n
    · have ic : ((c : Nat) : Int) < (n : Int) := Int.ofNat_lt.2 hct
      have W1 := wrap_lt8 hct (by have := H.out; omega)
      by_cases hit : x' < t ∧ P x' = c
      · obtain ⟨hxt, hp⟩ := hit
        obtain ⟨pb, po, rfl, hpl, hpc⟩ := HPC.out (by omega)
        have q1 : wr.cell? ⟨pb, po + x', none⟩ = some (.int .i64 (P x' : Int)) := (hG.out.bel.cell (p := ⟨pb, po + x', none⟩) hpl).trans (hpc x' hxt)
        rw [hp] at q1
        have ix : ((x' : Nat) : Int) < (t : Int) := Int.ofNat_lt.2 hxt
        have W2 := wrap_lt8 hxt (by have := H.out; omega)
        have HD : Hid (c + 1 ≤ n ∧ k + (x' + 1) = c + 1 ∧ Px t P (c + 1) (x' + 1) ∧ Nl t P M (c + 1) N) := ⟨hct, by omega, hx.hit HR.out.up hxt hp, hl.hit hxt hp⟩
        clear hpc hpl hxt hp hct hc hk hx hl HPC HN
        go_wp2
        go_roundw
        case rel => exact ⟨k, x' + 1, c + 1, B, N, HD.out.1, HD.out.2.1, by first | rfl | (rw [W2]; rfl), by first | rfl | (rw [W1]; rfl), HD.out.2.2.1, HD.out.2.2.2, hG⟩
        case measure => first | exact meas_lt8 HD.out.1 | (rw [W1]; exact meas_lt8 HD.out.1)
      · have hxn : x' < t → P x' ≠ c := fun a b => hit ⟨a, b⟩
        obtain ⟨hx2, hfree⟩ := hx.miss HR.out.up hxn
        have c1 := HN.out wr hG.out.bel c hct
        have HA : Hid (∀ w3, Rw w3 wr.heap.size n (nvs P M c t) → Below wr.heap.size wr w3 → ∃ v5 w5, (Builtin.append_ #[22, 22] 22 #[.slice oa k oC, .slice (some ⟨w3.heap.size, 0, none⟩) 1 1]).run Try.prog (w3.alloc (.cells #[.slice (some ⟨wr.heap.size, 0, none⟩) n n] 26)) = .ok v5 w5 ∧ Cg w1 w5 v5 (k + 1) (fun _ => n) (fun _ => n) (upn B k wr.heap.size) (upn N k (nvs P M c t))) :=
          fun w3 r3 b3 => by
            obtain ⟨v5, w5, e1, e2⟩ := cg_run hG.out b3 (Nat.le_refl _) (Nat.le_refl _) r3 (by have := H.out; omega)
            exact ⟨v5, w5, e1, e2.congr (fun r hr => by
              by_cases e : r = k
              · subst e; exact ⟨upn_same _ _ _, upn_same _ _ _, rfl, rfl⟩
              · exact ⟨upn_other _ _ e, upn_other _ _ e, rfl, rfl⟩)⟩
        have HD : Hid (c + 1 ≤ n ∧ k + 1 + x' = c + 1 ∧ Px t P (c + 1) x' ∧ Nl t P M (c + 1) (upn N k (nvs P M c t))) := ⟨hct, by omega, hx2, hl.miss HR.out.up hx hk⟩
        by_cases hxt : x' < t
        · obtain ⟨pb, po, rfl, hpl, hpc⟩ := HPC.out (by omega)
          have q1 : wr.cell? ⟨pb, po + x', none⟩ = some (.int .i64 (P x' : Int)) := (hG.out.bel.cell (p := ⟨pb, po + x', none⟩) hpl).trans (hpc x' hxt)
          have ix : ((x' : Nat) : Int) < (t : Int) := Int.ofNat_lt.2 hxt
          have T1 : (((P x' : Nat) : Int) == ((c : Nat) : Int)) = false := by have := hxn hxt; simp; omega
          generalize P x' = px at q1 T1
          clear hpc hpl hxt hct hc hk hx hl HPC HN hit hxn hx2 hfree
          go_wp2_with (first | (go_at_call 45; (with_reducible refine c1.mono ?_); rintro e w3 ⟨rfl, r3, b3⟩; obtain ⟨v5, w5, hrun, hG5⟩ := HA.out w3 r3 b3; clear c1 r3 b3; have HG5 : Hid _ := hG5; clear hG5) | (at_builtin; refine Lib.wpList_append_run _ rfl _ _ _ _ rfl _ _ rfl rfl _ _ hrun ?_))
          go_roundw
          case rel => exact ⟨k + 1, x', c + 1, _, _, HD.out.1, HD.out.2.1, rfl, by first | rfl | (rw [W1]; rfl), HD.out.2.2.1, HD.out.2.2.2, HG5⟩
          case measure => first | exact meas_lt8 HD.out.1 | (rw [W1]; exact meas_lt8 HD.out.1)
        · have ix : ¬ ((x' : Nat) : Int) < (t : Int) := by omega
          clear hxt hct hc hk hx hl HPC HN hit hxn hx2 hfree
          go_wp2_with (first | (go_at_call 45; (with_reducible refine c1.mono ?_); rintro e w3 ⟨rfl, r3, b3⟩; obtain ⟨v5, w5, hrun, hG5⟩ := HA.out w3 r3 b3; clear c1 r3 b3; have HG5 : Hid _ := hG5; clear hG5) | (at_builtin; refine Lib.wpList_append_run _ rfl _ _ _ _ rfl _ _ rfl rfl _ _ hrun ?_))
          go_roundw
          case rel => exact ⟨k + 1, x', c + 1, _, _, HD.out.1, HD.out.2.1, rfl, by first | rfl | (rw [W1]; rfl), HD.out.2.2.1, HD.out.2.2.2, HG5⟩
          case measure => first | exact meas_lt8 HD.out.1 | (rw [W1]; exact meas_lt8 HD.out.1)
    · have hcn : c = n := Nat.le_antisymm hc (Nat.le_of_not_lt hct)
      have hxt := (hcn ▸ hx).last HR.out.pc
      have HF : Hid (k + t = n ∧ Cs w.heap.size wr.heap.size wr (.slice oa k oC) k (fun _ => n) (fun _ => n) B N ∧ Nl t P M n N ∧ Below w.heap.size w wr) := ⟨by omega, by
        exact hG.out.cs.wide HB.out.size (Nat.le_refl _) (Nat.le_refl _), hcn ▸ hl, HB.out.trans (hG.out.bel.mono HB.out.size)⟩
      have ic : ¬ ((c : Nat) : Int) < (n : Int) := by omega
      clear hl hx hk hc hct hcn hxt HPC HN
      go_wp2
      go_ret2
      exact ⟨_, rfl, ⟨B, k, N, HF.out⟩⟩
end Go.Proofs.Ythfpadkihommaaa
