import Derived.Test.YtljfpgebekpjgaaWsas
import Derived.Test.YtljfpgebekpjgaaWsal
import Derived.Test.YtljfpgebekpjgaaWsar
import Derived.WalkMore
import Derived.Deep.LoopGhost
import Derived.BigQuiet
namespace Go.Proofs.Ytljfpgebekpjgaa
open Go.RowKit Gf2
set_option linter.unusedVariables false

theorem stp_full {m c : Nat} {s : St} (h : s.t = m) : stp m c s = s := by unfold stp; rw [if_pos h]
theorem elm_stop {m : Nat} {M : Nat → Nat → Nat} {c : Nat} (h : (elm m M c).t = m) : ∀ q, elm m M (c + q) = elm m M c
  | 0 => rfl
  | q + 1 => by
    show stp m (c + q) (elm m M (c + q)) = elm m M c
    rw [elm_stop h q, stp_full h]
theorem elm_stop' {m : Nat} {M : Nat → Nat → Nat} {c C : Nat} (h : (elm m M c).t = m) (hc : c ≤ C) : elm m M C = elm m M c := by
  have := elm_stop h (C - c)
  rwa [show c + (C - c) = C by omega] at this
/-- two rows change places. -/
theorem swp_inj {m t r : Nat} {B : Nat → Nat} (inj : ∀ i j, i < m → j < m → B i = B j → i = j) (ht : t < m) (hr : r < m) (i j : Nat) (hi : i < m) (hj : j < m) (e : swp B t r i = swp B t r j) : i = j := by
  unfold swp at e
  by_cases h1 : i = t
  · rw [if_pos h1] at e
    by_cases h2 : j = t
    · omega
    · rw [if_neg h2] at e
      by_cases h3 : j = r
      · rw [if_pos h3] at e; have := inj _ _ hr ht e; omega
      · rw [if_neg h3] at e; have := inj _ _ hr hj e; omega
  · rw [if_neg h1] at e
    by_cases h4 : i = r
    · rw [if_pos h4] at e
      by_cases h2 : j = t
      · rw [if_pos h2] at e; have := inj _ _ ht hr e; omega
      · rw [if_neg h2] at e
        by_cases h3 : j = r
        · omega
        · rw [if_neg h3] at e; have := inj _ _ ht hj e; omega
    · rw [if_neg h4] at e
      by_cases h2 : j = t
      · rw [if_pos h2] at e; have := inj _ _ hi hr e; omega
      · rw [if_neg h2] at e
        by_cases h3 : j = r
        · rw [if_pos h3] at e; have := inj _ _ hi ht e; omega
        · rw [if_neg h3] at e; exact inj _ _ hi hj e
theorem swp_prop {α : Type} {M : Nat → α} {p : α → Prop} {m t r : Nat} (h : ∀ i, i < m → p (M i)) (ht : t < m) (hr : r < m) (i : Nat) (hi : i < m) : p (swp M t r i) := by
  unfold swp
  split
  · exact h r hr
  · split
    · exact h t ht
    · exact h i hi
/-- what a swap leaves. -/
def swapped (w : World) (g t r k : Nat) (B : Nat → Nat) : World := (w.setCell ⟨g, t, none⟩ (.slice (some ⟨B r, 0, none⟩) k k)).setCell ⟨g, r, none⟩ (.slice (some ⟨B t, 0, none⟩) k k)
theorem Cs.swap {lo hi m k g t r : Nat} {w : World} {B : Nat → Nat} {S : Nat → Nat → Nat} (hC : Cs lo hi w (.slice (some ⟨g, 0, none⟩) m m) m (fun _ => k) (fun _ => k) B S) (hL : w.rowIs g 28 m (fun i => .slice (some ⟨B i, 0, none⟩) k k)) (ht : t < m) (hr : r < m) :
    Cs lo hi (swapped w g t r k B) (.slice (some ⟨g, 0, none⟩) m m) m (fun _ => k) (fun _ => k) (swp B t r) (swp S t r) ∧ (swapped w g t r k B).rowIs g 28 m (fun i => .slice (some ⟨swp B t r i, 0, none⟩) k k) ∧ Only g w (swapped w g t r k B) := by
  have ho : Only g w (swapped w g t r k B) := ((Only.refl g w).setCell t _).setCell r _
  have hL2 : (swapped w g t r k B).rowIs g 28 m (fun i => .slice (some ⟨swp B t r i, 0, none⟩) k k) := ((hL.set t _).set r _).congr (fun i hi' => by
    unfold swp
    by_cases h1 : i = t
    · by_cases h2 : i = r
      · rw [if_pos h2, if_pos h1, ← h1, ← h2]
      · rw [if_neg h2, if_pos h1, if_pos h1]
    · by_cases h2 : i = r
      · rw [if_pos h2, if_neg h1, if_pos h2]
      · rw [if_neg h2, if_neg h1, if_neg h1, if_neg h2])
  refine ⟨?_, hL2, ho⟩
  obtain ⟨mb, hw, ⟨a, c, e, hc1, hc2, hf⟩, row, inj⟩ := hC
  obtain ⟨g', e1, g1, g2, g3, g4⟩ := hf (by omega)
  have eg : a = some ⟨g, 0, none⟩ := by cases e; rfl
  have eg' : g' = g := by rw [eg] at e1; cases e1; rfl
  subst eg'
  refine ⟨mb, by rw [ho.2.1]; exact hw, ⟨a, c, e, hc1, hc2, fun _ => ⟨g', e1, g1, g2, fun i hi' => ?_, fun i hi' => ?_⟩⟩, fun i hi' => ?_, swp_inj inj ht hr⟩
  · exact swp_prop (M := B) (p := fun x => x ≠ g') g3 ht hr i hi'
  · rw [hL2.cell hi']
  · have rw2 : ∀ i, i < m → lo ≤ B i ∧ B i < hi ∧ k ≤ k ∧ Rw (swapped w g' t r k B) (B i) k (S i) := fun i hi' => ⟨(row i hi').1, (row i hi').2.1, Nat.le_refl _, ho.rw_ (row i hi').2.2.2 (g3 i hi')⟩
    show lo ≤ swp B t r i ∧ swp B t r i < hi ∧ k ≤ k ∧ Rw (swapped w g' t r k B) (swp B t r i) k (swp S t r i)
    unfold swp
    split
    · exact rw2 r hr
    · split
      · exact rw2 t ht
      · exact rw2 i hi'

/-- the state of an elimination. -/
structure El (lo hi m k gm : Nat) (w wr : World) (pv : Value) (s : St) : Prop where
  cs : ∃ B, Cs lo hi wr (.slice (some ⟨gm, 0, none⟩) m m) m (fun _ => k) (fun _ => k) B s.M ∧ wr.rowIs gm 28 m (fun i => .slice (some ⟨B i, 0, none⟩) k k)
  tab : Tab8 wr w.heap.size
  pv : Gj (w.heap.size + 1) wr pv s.t (fun i => (s.P i : Int))
  bel : Below lo w wr
  sz : w.heap.size + 1 ≤ wr.heap.size
theorem ke_of_below {L : Nat} {a b : World} (h : Below L a b) : Ke (fun x => L ≤ x) a b := ⟨h.mono (Nat.zero_le _), fun x _ hn => h.block x (by omega)⟩
theorem Tab8.ke {E : Nat → Prop} {w w' : World} {t : Nat} (h : Tab8 w t) (hk : Ke E w w') (hn : ¬ E t) : Tab8 w' t := h.of_heap (hk.2 t h.lt hn)
theorem rowIs_ke {E : Nat → Prop} {w w' : World} {g N : Nat} {T : TypeId} {F : Nat → Value} (h : w.rowIs g T N F) (hk : Ke E w w') (hn : ¬ E g) : w'.rowIs g T N F := h.of_block (hk.2 g h.lt hn)
theorem El.pivot {lo hi m k gm r c : Nat} {w wr : World} {pv : Value} {s : St} (h : El lo hi m k gm w wr pv s) (hhi : hi ≤ w.heap.size) (htm : s.t < m) (hr1 : s.t ≤ r) (hr : r < m) (hck : c < k) (hk : k ≤ 768) (hm2 : m ≤ 256) (hd : s.d < 256) :
    ∃ B, wr.drew.cell? ⟨gm, r, none⟩ = some (.slice (some ⟨B r, 0, none⟩) k k) ∧ wr.drew.cell? ⟨gm, s.t, none⟩ = some (.slice (some ⟨B s.t, 0, none⟩) k k) ∧ wr.drew.frozen? ⟨gm, s.t, none⟩ = false ∧
      (∃ x, (wr.drew.setCell ⟨gm, s.t, none⟩ (.slice (some ⟨B r, 0, none⟩) k k)).cell? ⟨gm, r, none⟩ = some x ∧ ∃ y, x = .slice y k k) ∧ (wr.drew.setCell ⟨gm, s.t, none⟩ (.slice (some ⟨B r, 0, none⟩) k k)).frozen? ⟨gm, r, none⟩ = false ∧
      Calls Try.prog 115 #[.pointer (some ⟨w.heap.size, 0, none⟩), .slice (some ⟨gm, 0, none⟩) m m, .int .i64 (s.t : Int), .int .i64 (c : Int)] (swapped wr.drew gm s.t r k B) fun e w2 => e = .returned (.tuple #[]) ∧
        ∃ w3 pv', (Builtin.append_ #[35, 35] 35 #[pv, .slice (some ⟨w2.heap.size, 0, none⟩) 1 1]).run Try.prog (w2.alloc (.cells #[.int .i64 (c : Int)] 3)) = .ok pv' w3 ∧
          Calls Try.prog 33 #[.pointer (some ⟨w.heap.size, 0, none⟩), .int .u8 (s.d : Nat), .int .u8 (s.M r c : Nat)] w3 fun e w4 => e = .returned (.int .u8 (fm 285 s.d (s.M r c) : Nat)) ∧
            El lo hi m k gm w w4 pv' ⟨clr (scl (swp s.M s.t r) s.t c) s.t c, s.t + 1, fun i => if i = s.t then c else s.P i, fm 285 s.d (s.M r c)⟩ := by
  obtain ⟨⟨B, hC, hL⟩, hT, hP, hb, hz⟩ := h
  have hC1 : Cs lo hi wr.drew (.slice (some ⟨gm, 0, none⟩) m m) m (fun _ => k) (fun _ => k) B s.M := hC.drewN 1
  have hL1 : wr.drew.rowIs gm 28 m (fun i => .slice (some ⟨B i, 0, none⟩) k k) := hL
  have hgm : lo ≤ gm ∧ gm < hi := by
    obtain ⟨a, c', e, hc1, hc2, hf⟩ := hC.form
    cases e
    obtain ⟨g', e1, g1, g2, g3, g4⟩ := hf (by omega)
    cases e1
    exact ⟨g1, g2⟩
  have lrc := hC.lt_ hr (j := c) hck
  obtain ⟨hC2, hL2, ho2⟩ := hC1.swap hL1 htm hr
  have hs1 := hL1.set s.t (.slice (some ⟨B r, 0, none⟩) k k)
  have eM : ∀ i, i < m → swp B s.t r i ≠ gm := fun i hi' => hC2.ne hi'
  have hBlt : ∀ i, i < m → lo ≤ swp B s.t r i ∧ swp B s.t r i < hi := fun i hi' => ⟨(hC2.row i hi').1, (hC2.row i hi').2.1⟩
  have k1 : Ke (fun x => x = gm) wr.drew (swapped wr.drew gm s.t r k B) := ho2.kp.ke
  have hT : Tab8 wr.drew w.heap.size := hT.of_heap rfl
  have hP : Gj (w.heap.size + 1) wr.drew pv s.t (fun i => (s.P i : Int)) := hP.keep ((Ke.refl (fun _ => False) wr).drewN 1) (fun _ _ e => e)
  have hT2 : Tab8 (swapped wr.drew gm s.t r k B) w.heap.size := hT.ke k1 (by omega)
  have hP2 : Gj (w.heap.size + 1) (swapped wr.drew gm s.t r k B) pv s.t (fun i => (s.P i : Int)) := hP.keep k1 (fun x hx => by omega)
  have hz2 : (swapped wr.drew gm s.t r k B).heap.size = wr.heap.size := ho2.2.1
  have hb2 : Below lo w (swapped wr.drew gm s.t r k B) := (below_drewN hb 1).trans (ho2.below hgm.1)
  refine ⟨B, hL1.cell hr, hL1.cell htm, hL1.frozen _, ⟨_, hs1.cell hr, by split; exact ⟨_, rfl⟩; exact ⟨_, rfl⟩⟩, hs1.frozen _, ?_⟩
  refine (clearcol10 w.heap.size lo hi m k s.t c gm m (swp B s.t r) (swp s.M s.t r) (swapped wr.drew gm s.t r k B) hT2 (fun i hi' => by have := hBlt i hi'; omega) hC2 htm hck hk hm2).mono ?_
  rintro e w2 ⟨rfl, hC3, k3⟩
  refine ⟨rfl, ?_⟩
  have nE : ∀ x, hi ≤ x → ¬ EB m (swp B s.t r) x := fun x hx ⟨i, hi', e⟩ => by have := hBlt i hi'; omega
  have hT3 : Tab8 w2 w.heap.size := hT2.ke k3 (nE _ hhi)
  have hP3 : Gj (w.heap.size + 1) w2 pv s.t (fun i => (s.P i : Int)) := hP2.keep k3 (fun x hx => nE x (by omega))
  have hL3 : w2.rowIs gm 28 m (fun i => .slice (some ⟨swp B s.t r i, 0, none⟩) k k) := rowIs_ke hL2 k3 (fun ⟨i, hi', e⟩ => eM i hi' e.symm)
  have hz3 : w.heap.size + 1 ≤ w2.heap.size := by have := k3.size; omega
  have hb3 : Below lo w w2 := hb2.trans (k3.below (fun x ⟨i, hi', e⟩ => by rw [e]; exact (hBlt i hi').1) (by have := hb.size; have := hC.hw; omega))
  obtain ⟨w3, pv', hrun, hP4, hb4⟩ := app_gj hP3 hz3 (c : Int) (by omega)
  refine ⟨w3, pv', hrun, ?_⟩
  have k4 := ke_of_below hb4
  have hC4 := hC3.keep k4 (fun x _ hx => by omega)
  have hT4 : Tab8 w3 w.heap.size := hT3.ke k4 (by omega)
  have hL4 := rowIs_ke hL3 k4 (by omega)
  have hb5 : Below lo w w3 := hb3.trans (hb4.mono (by omega))
  refine (tmul_nat w.heap.size s.d (s.M r c) w3 hT4 hd lrc).mono ?_
  rintro e w4 ⟨rfl, q, rfl⟩
  refine ⟨rfl, ⟨swp B s.t r, hC4.drewN q, hL4⟩, hT4.drewN q, (hP4.keep ((Ke.refl (fun _ => False) w3).drewN q) (fun _ _ e => e)).congr (fun i hi' => ?_), below_drewN hb5 q, by have := hb4.size; show w.heap.size + 1 ≤ w3.heap.size; omega⟩
  show (if i < s.t then (s.P i : Int) else (c : Int)) = (((if i = s.t then c else s.P i) : Nat) : Int)
  have hi' : i < s.t + 1 := hi'
  by_cases e : i < s.t
  · rw [if_pos e, if_neg (by omega)]
  · rw [if_neg e, if_pos (by omega)]
set_option maxHeartbeats 4000000 in
set_option maxRecDepth 100000 in
theorem elim10 (lo hi m k gm C : Nat) (B : Nat → Nat) (S : Nat → Nat → Nat) (w : World) (hC : Cs lo hi w (.slice (some ⟨gm, 0, none⟩) m m) m (fun _ => k) (fun _ => k) B S) (hL : w.rowIs gm 28 m (fun i => .slice (some ⟨B i, 0, none⟩) k k)) (hm : 1 ≤ m) (hm2 : m ≤ 256) (hk : k ≤ 768) (hCk : C ≤ k) (hS : ∀ i j, S i j < 256) :
    Calls Try.prog 83 #[.slice (some ⟨gm, 0, none⟩) m m, .int .i64 (C : Int)] w fun e w' => ∃ pv, e = .returned (.tuple #[pv, .int .u8 ((elm m S C).d : Nat)]) ∧ El lo hi m k gm w w' pv (elm m S C) := by
  have c3 := new_tab w
  go_enter Try.func83, Try.ntmps83
  go_wp2
  go_step3
  go_wp2_with (go_at_call 31; (with_reducible refine c3.mono ?_); rintro e w9 ⟨rfl, w0, hw9, hs0, ht, hb0⟩; subst hw9)
  go_step3
  go_wp2
  have hhi : hi ≤ w.heap.size := hC.hw
  have hCs : Cs lo hi w0 (.slice (some ⟨gm, 0, none⟩) m m) m (fun _ => k) (fun _ => k) B S := hC.below hb0
  have hlo : lo ≤ w.heap.size := by have := hC.row 0 hm; omega
  have E0 : El lo hi m k gm w w0 (.slice none 0 0) (elm m S 0) := ⟨⟨B, hCs, hL.of_block (hb0.block _ hL.lt)⟩, ht, Gj.start _ _ _, hb0.mono hlo, by omega⟩
  have HM : Hid (hi ≤ w.heap.size ∧ m ≤ 256 ∧ k ≤ 768 ∧ C ≤ k ∧ ∀ c, Red m c S (elm m S c)) := ⟨hhi, hm2, hk, hCk, red_elm hS⟩
  clear c3 hC hL hm hm2 hk hCk hS hs0 ht hb0 hhi hCs hlo
  go_loopg [15, 7, 8] C (fun g s15 s7 s8 wr => ∃ c : Nat, c + g = C ∧ s15 = .int .i64 (c : Int) ∧ s8 = .int .u8 ((elm m S c).d : Nat) ∧ El lo hi m k gm w wr s7 (elm m S c))
  case atStart => exact ⟨0, by omega, rfl, rfl, E0⟩
  case round =>
    obtain ⟨c, hcg, rfl, rfl, hE⟩ := hrel
    clear E0
    cases gk with
    | zero =>
      have hcC : c = C := by omega
      subst hcC
      obtain ⟨a, cap, rfl⟩ := hE.pv.form
      have HE : Hid _ := hE
      clear hE
      obtain ⟨s, hs⟩ : ∃ s, Hid (elm m S c = s) := ⟨_, rfl⟩
      rw [hs.out] at HE ⊢
      go_wp2
      rw [Exit.noGoto_ret]
      go_ret2
      rw [hs.out]
      exact ⟨_, rfl, HE.out⟩
    | succ g =>
      have icC : ((c : Nat) : Int) < (C : Int) := by omega
      have W0 : wrap64 ((c : Int) + 1) = (c : Int) + 1 := wrap_succ8 (by have := HM.out; unfold big; omega)
      have HW : Hid (c + 1 + g = C ∧ c < k) := ⟨by omega, by have := HM.out; omega⟩
      clear hcg
      obtain ⟨a, cap, rfl⟩ := hE.pv.form
      have HR : Hid _ := HM.out.2.2.2.2 c
      by_cases htm : (elm m S c).t = m
      · obtain ⟨s, hs⟩ : ∃ s, Hid (elm m S c = s) := ⟨_, rfl⟩
        have hs2 : Hid (elm m S C = s) := (elm_stop' htm (by have := HW.out; omega)).trans hs.out
        have HE : Hid _ := hE
        clear hE HR
        rw [hs.out] at HE htm ⊢
        go_wp2
        go_step3
        go_wp2
        rw [Exit.noGoto_exit]
        go_wp2
        rw [Exit.noGoto_ret]
        go_ret2
        rw [hs2.out]
        exact ⟨_, rfl, HE.out⟩
      · have htm2 : (elm m S c).t < m := by have := HR.out.tm; omega
        have HE : Hid _ := hE
        have HF : Hid (∀ s', elm m S (c + 1) = s' ↔ stp m c (elm m S c) = s') := fun s' => Iff.rfl
        have HQ : Hid (∀ g' (x : Value) (y : World), c + 1 + g' = C → El lo hi m k gm w y x (stp m c (elm m S c)) → ∃ c', c' + g' = C ∧ Value.int .i64 ((c : Int) + 1) = Value.int .i64 (c' : Nat) ∧ Value.int .u8 ((stp m c (elm m S c)).d : Nat) = Value.int .u8 ((elm m S c').d : Nat) ∧ El lo hi m k gm w y x (elm m S c')) := fun g' x y h1 h2 => ⟨c + 1, h1, rfl, rfl, h2⟩
        have nI : ¬ (((elm m S c).t : Nat) : Int) = (m : Int) := by omega
        clear hE HF htm
        generalize hs : elm m S c = s at HE HR HQ htm2 nI ⊢
        clear hs
        go_wp2
        go_step3
        go_wp2
        go_step3
        go_wp2
        go_loopg [7, 8, 11] (m - s.t) (fun g2 s7 s8 s11 wr2 => ∃ r : Nat, r + g2 = m ∧ s.t ≤ r ∧ s11 = .int .i64 (r : Int) ∧ Hid (∀ i, s.t ≤ i → i < r → s.M i c = 0) ∧ s7 = .slice a s.t cap ∧ s8 = .int .u8 (s.d : Nat) ∧ wr2 = wr)
        case atStart => exact ⟨s.t, by omega, Nat.le_refl _, rfl, fun i h1 h2 => absurd h1 (by omega), rfl, rfl, rfl⟩
        case round =>
          obtain ⟨r, hrg, htr, rfl, hz, rfl, rfl, hw⟩ := hrel
          subst hw
          cases gk with
          | zero =>
            have hrm : r = m := by omega
            subst hrm
            have e1 : stp r c s = s := by
              unfold stp
              rw [if_neg (by omega), if_pos (fr_eq htr (by omega) hz.out (fun h => absurd h (by omega)))]
            rw [e1] at HQ
            clear e1
            go_wp2
            rw [Exit.noGoto_normal]
            go_wp2
            go_roundg g
            case measure => exact Nat.lt_succ_self g
            case rel => rw [W0]; exact HQ.out g _ _ HW.out.1 HE.out
          | succ g2 =>
            have hrm : r < m := by omega
            have irm : ((r : Nat) : Int) < (m : Int) := by omega
            have W1 : wrap64 ((r : Int) + 1) = (r : Int) + 1 := wrap_succ8 (by have := HM.out; unfold big; omega)
            obtain ⟨⟨B0, hC0, hL0⟩, -, -, -, -⟩ := id HE.out
            have q1 := hL0.cell hrm
            have q2 := hC0.cell_ hrm (j := c) HW.out.2
            have ick : ((c : Nat) : Int) < (k : Int) := by have := HW.out; omega
            clear hC0 hL0
            by_cases h0 : s.M r c = 0
            · have hz2 : Hid (∀ i, s.t ≤ i → i < r + 1 → s.M i c = 0) := fun i h1 h2 => by
                by_cases e : i = r
                · rw [e]; exact h0
                · exact hz.out i h1 (by omega)
              have HG : Hid (r + 1 + g2 = m ∧ s.t ≤ r + 1) := ⟨by omega, by omega⟩
              rw [h0] at q2
              clear h0 hrg htr
              go_wp2
              go_roundg g2
              case measure => exact Nat.lt_succ_self g2
              case rel => exact ⟨r + 1, HG.out.1, HG.out.2, by rw [W1]; rfl, hz2, rfl, rfl, rfl⟩
            · have e1 : stp m c s = ⟨clr (scl (swp s.M s.t r) s.t c) s.t c, s.t + 1, fun i => if i = s.t then c else s.P i, fm 285 s.d (s.M r c)⟩ := by
                unfold stp
                rw [if_neg (by omega), fr_eq htr (by omega) hz.out (fun _ => h0), if_neg (by omega)]
              obtain ⟨B, y1, y2, y3, ⟨x4, y4, z4, e4⟩, y5, c5⟩ := HE.out.pivot HM.out.1 htm2 htr hrm HW.out.2 HM.out.2.2.1 HM.out.2.1 HR.out.d1
              subst e4
              unfold swapped at c5
              have c5 := show Calls Try.prog _ _ ((wr.setCell ⟨gm, s.t, none⟩ (.slice (some ⟨B r, 0, none⟩) k k)).setCell ⟨gm, r, none⟩ (.slice (some ⟨B s.t, 0, none⟩) k k)).drew _ from c5
              have y4 : ((wr.setCell ⟨gm, s.t, none⟩ (.slice (some ⟨B r, 0, none⟩) k k)).drew).cell? ⟨gm, r, none⟩ = some (.slice z4 k k) := y4
              have y5 : ((wr.setCell ⟨gm, s.t, none⟩ (.slice (some ⟨B r, 0, none⟩) k k)).drew).frozen? ⟨gm, r, none⟩ = false := y5
              have hI : ¬ ((s.M r c : Nat) : Int) = 0 := by omega
              have it : ((s.t : Nat) : Int) < (m : Int) := by omega
              rw [e1] at HQ
              generalize hX : (⟨clr (scl (swp s.M s.t r) s.t c) s.t c, s.t + 1, fun i => if i = s.t then c else s.P i, fm 285 s.d (s.M r c)⟩ : St) = X at c5 HQ
              have hXd : X.d = fm 285 s.d (s.M r c) := by rw [← hX]
              rw [hXd] at HQ
              generalize fm 285 s.d (s.M r c) = D at c5 HQ
              generalize s.M r c = A0 at q2 c5 hI
              clear e1 h0 hX hXd hz HE HR hrg htr htm2
              go_wp2
              refine region_planX (fun w' => w'.cell? ⟨gm, r, none⟩ = some (.slice (some ⟨B r, 0, none⟩) k k) ∧ w'.cell? ⟨gm, s.t, none⟩ = some (.slice (some ⟨B s.t, 0, none⟩) k k)) 12 [2, 3] [12] 70 ⟨y1, y2⟩ (by kernel_rfl) (by kernel_rfl) (fun _ a d v _ h => by cases d <;> exact h) ?_
              refine planT_last ?A2x0 rfl (fun w' hS => ?s2x0) rfl ?n2x0
              case s2x0 =>
                obtain ⟨g1, g2⟩ := hS
                simp only [List.take_succ_cons, List.take_zero]
                repeat still_step
                exact rfl
              case n2x0 =>
              simp only [List.drop_succ_cons, List.drop_zero]
              go_wp2_with (first | (go_at_call 115; (with_reducible refine c5.mono ?_); rintro e w2 ⟨rfl, w3, pv', hrun, c6⟩; clear c5 y1 y2 y3 y4 y5 q1 q2) | (at_builtin; refine Lib.wpList_append_run _ rfl _ _ _ _ rfl _ _ rfl rfl _ _ hrun ?_; clear hrun) | (go_at_call 33; (with_reducible refine c6.mono ?_); rintro e w4 ⟨rfl, hE4⟩; have HE4 : Hid _ := hE4; clear c6 hE4))
              rw [Exit.noGoto_exit]
              go_wp2
              go_roundg g
              case measure => exact Nat.lt_succ_self g
              case rel => rw [W0]; exact HQ.out g _ _ HW.out.1 HE4.out
end Go.Proofs.Ytljfpgebekpjgaa
namespace Go.Proofs.Ytljfpgebekpjgaa
open Go.RowKit Gf2
set_option linter.unusedVariables false

theorem Ans.after {w w1 w2 : World} {v : Value} {m c : Nat} {S : Nat → Nat → Nat} (hb : Below w.heap.size w w1) (h : Ans w1 w2 v m c S) : Ans w w2 v m c S := by
  obtain ⟨⟨B, h1⟩, h2⟩ := h
  exact ⟨⟨B, h1.wide hb.size (Nat.le_refl _) (Nat.le_refl _)⟩, hb.trans (h2.mono hb.size)⟩
/-- a list of rows that can be read, its block. -/
theorem Lb.head {w : World} {u : Value} {m : Nat} {n : Nat → Nat} {S : Nat → Nat → Nat} (h : Lb w u m n S) (h0 : 0 < m) : ∃ b o cap, u = .slice (some ⟨b, o, none⟩) m cap := by
  obtain ⟨V, ⟨hnb, a, cap, rfl, -, -, h4⟩, hV⟩ := h
  obtain ⟨b, o, rfl, -⟩ := h4 h0
  exact ⟨b, o, cap, rfl⟩
theorem Lb.first {w : World} {b o m cap : Nat} {n : Nat → Nat} {S : Nat → Nat → Nat} (h : Lb w (.slice (some ⟨b, o, none⟩) m cap) m n S) (h0 : 0 < m) : ∃ x y, w.cell? ⟨b, o, none⟩ = some (.slice x (n 0) y) := by
  obtain ⟨V, ⟨hnb, a, cap', e, -, -, h4⟩, hV⟩ := h
  cases e
  obtain ⟨b', o', e, -, hc⟩ := h4 h0
  cases e
  obtain ⟨_, _, x, y, e, _⟩ := hV 0 h0
  have := hc 0 h0
  rw [Nat.add_zero] at this
  exact ⟨x, y, by rw [this, e]⟩
theorem fm_n {m n : Nat} (h1 : 1 ≤ m) (h2 : m ≤ 256) (h3 : 1 ≤ n) (h4 : n ≤ 512) : Fm m (fun _ => n) := ⟨h1, h2, h3, h4, fun _ _ => rfl⟩
theorem bes_lt {l : Nat} {S T : Nat → Nat → Nat} (hS : ∀ i j, S i j < 256) (hT : ∀ i j, T i j < 256) (i j : Nat) : bes l S T i j < 256 := by
  unfold bes
  split
  · exact hS _ _
  · exact hT _ _
theorem bes_t {n : Nat} {S T : Nat → Nat → Nat} : (elm n (bes n S T) n).t = (elm n S n).t := (elm_local (m := n) (C := n) (fun i j _ hj => by unfold bes; rw [if_pos hj]) n (Nat.le_refl _)).1
/-- what a solution is. -/
def sol (n : Nat) (S T : Nat → Nat → Nat) : Nat → Nat → Nat := fun i j => (elm n (bes n S T) n).M i (n + j)
set_option maxHeartbeats 2000000 in
set_option maxRecDepth 100000 in
theorem solution10 (u v : Value) (n k : Nat) (S T : Nat → Nat → Nat) (w : World) (h : Lb w u n (fun _ => n) S) (h' : Lb w v n (fun _ => k) T) (h1 : 1 ≤ n) (h2 : n ≤ 256) (h3 : 1 ≤ k) (h4 : k ≤ 512) (hS : ∀ i j, S i j < 256) (hT : ∀ i j, T i j < 256) :
    Calls Try.prog 59 #[u, v] w fun e w' => ((elm n S n).t < n ∧ e = .returned (.tuple #[.slice none 0 0, .int .i64 102]) ∧ Below w.heap.size w w') ∨ ((elm n S n).t = n ∧ ∃ x, e = .returned (.tuple #[x, .int .i64 0]) ∧ Ans w w' x n k (sol n S T)) := by
  have c2 := beside10s u v n n k S T w h h' h1 h2 h1 (by omega) h3 h4
  have c3 : ∀ w1, AnsL w w1 w.heap.size n (n + k) (bes n S T) → Calls Try.prog 83 #[.slice (some ⟨w.heap.size, 0, none⟩) n n, .int .i64 (n : Int)] w1 fun e w2 => ∃ pv d, e = .returned (.tuple #[pv, .int .u8 (d : Nat)]) ∧ (∃ a cap, pv = .slice a (elm n S n).t cap) ∧ Below w.heap.size w w2 ∧ (∃ x y, w2.cell? ⟨w.heap.size, 0, none⟩ = some (.slice x (n + k) y)) ∧
      Calls Try.prog 84 #[.slice (some ⟨w.heap.size, 0, none⟩) n n, .int .i64 (n : Int), .int .i64 ((n + k : Nat) : Int)] w2 fun e w3 => ∃ x, e = .returned x ∧ Ans w w3 x n k (sol n S T) := fun w1 ⟨⟨B, a1, a2⟩, a3⟩ => by
    refine (elim10 w.heap.size w1.heap.size n (n + k) w.heap.size n B (bes n S T) w1 a1 a2 h1 h2 (by omega) (by omega) (bes_lt hS hT)).mono ?_
    rintro e w2 ⟨pv, rfl, ⟨B', b1, b2⟩, b3, b4, b5, b6⟩
    rw [bes_t] at b4
    refine ⟨pv, _, rfl, b4.form, a3.trans b5, ⟨_, _, b2.cell h1⟩, ?_⟩
    refine (strip10 _ n n (n + k) k (fun _ => n + k) _ w2 b1.lb h1 h2 rfl h3 (by omega) (fun _ _ => Nat.le_refl _)).mono ?_
    rintro e w3 ⟨x, rfl, hx⟩
    exact ⟨x, rfl, hx.after (a3.trans b5)⟩
  obtain ⟨b, o, cap, rfl⟩ := h.head h1
  have hR := (red_elm (m := n) hS n).tm
  have i0 : (0 : Int) < (n : Int) := Int.ofNat_lt.2 h1
  have H3 : Hid _ := c3
  clear h h' h1 h2 h3 h4 hS hT c3
  generalize (elm n S n).t = T0 at H3 hR ⊢
  generalize sol n S T = X at H3 ⊢
  generalize n + k = L at c2 H3
  by_cases hT : T0 < n
  · have iT : ((T0 : Nat) : Int) < (n : Int) := Int.ofNat_lt.2 hT
    have HT : Hid (T0 < n) := hT
    clear hR hT
    go_enter Try.func59, Try.ntmps59
    go_wp2_with (first
      | (go_at_call 82; (with_reducible refine c2.mono ?_); rintro e w1 ⟨rfl, hA⟩; clear c2; have c3 := H3.out w1 hA; clear hA)
      | (go_at_call 83; (with_reducible refine c3.mono ?_); rintro e w2 ⟨pv, d, rfl, ⟨a, cap', hpv⟩, hA2, z2, c4⟩; subst hpv; clear c3 z2 c4; have HA : Hid _ := hA2; clear hA2))
    go_ret2
    exact .inl ⟨HT.out, rfl, HA.out⟩
  · have eT : T0 = n := Nat.le_antisymm hR (Nat.le_of_not_lt hT)
    subst eT
    clear hR hT
    go_enter Try.func59, Try.ntmps59
    go_wp2_with (first
      | (go_at_call 82; (with_reducible refine c2.mono ?_); rintro e w1 ⟨rfl, hA⟩; clear c2; have c3 := H3.out w1 hA; clear hA)
      | (go_at_call 83; (with_reducible refine c3.mono ?_); rintro e w2 ⟨pv, d, rfl, ⟨a, cap', hpv⟩, hA2, ⟨x2, y2, z2⟩, c4⟩; subst hpv; clear c3 hA2)
      | (go_at_call 84; (with_reducible refine c4.mono ?_); rintro e w3 ⟨x, rfl, hx⟩; clear c4; have HA : Hid _ := hx; clear hx))
    go_ret2
    exact .inr ⟨by trivial, _, rfl, HA.out⟩
end Go.Proofs.Ytljfpgebekpjgaa
namespace Go.Proofs.Ytljfpgebekpjgaa
open Go.RowKit Gf2
set_option linter.unusedVariables false

theorem idm_lt (i j : Nat) : idm i j < 256 := by unfold idm; split <;> decide
theorem solution10_yes (u v : Value) (n k : Nat) (S T : Nat → Nat → Nat) (w : World) (h : Lb w u n (fun _ => n) S) (h' : Lb w v n (fun _ => k) T) (h1 : 1 ≤ n) (h2 : n ≤ 256) (h3 : 1 ≤ k) (h4 : k ≤ 512) (hS : ∀ i j, S i j < 256) (hT : ∀ i j, T i j < 256) (ht : (elm n S n).t = n) :
    Calls Try.prog 59 #[u, v] w fun e w' => ∃ x, e = .returned (.tuple #[x, .int .i64 0]) ∧ Ans w w' x n k (sol n S T) :=
  (solution10 u v n k S T w h h' h1 h2 h3 h4 hS hT).mono fun e w' hh => by
    rcases hh with ⟨a1, a2, a3⟩ | ⟨a1, a2⟩
    · omega
    · exact a2
set_option maxHeartbeats 2000000 in
set_option maxRecDepth 100000 in
theorem invert10_yes (u : Value) (n : Nat) (S : Nat → Nat → Nat) (w : World) (h : Lb w u n (fun _ => n) S) (h1 : 1 ≤ n) (h2 : n ≤ 256) (hS : ∀ i j, S i j < 256) (ht : (elm n S n).t = n) :
    Calls Try.prog 35 #[u] w fun e w' => ∃ x, e = .returned (.tuple #[x, .int .i64 0]) ∧ Ans w w' x n n (sol n S idm) := by
  have c1 := checkSquare10_yes u n (fun _ => n) S w h (fm_n h1 h2 h1 (by omega)) rfl
  have c2 := ident10_yes n w h1 h2
  have c3 : ∀ w1 v, Ans w w1 v n n idm → Calls Try.prog 59 #[u, v] w1 fun e w' => ∃ x, e = .returned (.tuple #[x, .int .i64 0]) ∧ Ans w w' x n n (sol n S idm) := fun w1 v hv => by
    refine (solution10_yes u v n n S idm w1 (h.below hv.2) hv.lb h1 h2 h1 (by omega) hS idm_lt ht).mono ?_
    rintro e w' ⟨x, a2, a3⟩
    exact ⟨x, a2, a3.after hv.2⟩
  obtain ⟨b, o, cap, rfl⟩ := h.head h1
  have H3 : Hid _ := c3
  clear h h1 h2 hS c3 ht
  generalize sol n S idm = X at H3 ⊢
  go_enter Try.func35, Try.ntmps35
  go_wp2_with (first
    | (go_at_call 58; (with_reducible refine c1.mono ?_); rintro e w9 ⟨rfl, hw9⟩; have hw9 := hw9.symm; subst hw9; clear c1)
    | (go_at_call 28; (with_reducible refine c2.mono ?_); rintro e w1 ⟨v, rfl, hA⟩; clear c2; have c3 := H3.out w1 v hA; clear hA H3)
    | (go_at_call 59; (with_reducible refine c3.mono ?_); rintro e w2 ⟨x, rfl, hx⟩; have HX : Hid _ := hx; clear hx c3))
  go_ret2
  exact ⟨_, rfl, HX.out⟩
end Go.Proofs.Ytljfpgebekpjgaa
namespace Go.Proofs.Ytljfpgebekpjgaa
open Go.RowKit Gf2
set_option linter.unusedVariables false

/-- rows that are copied one by one. -/
structure Twn (w wr : World) (m : Nat) (n : Nat → Nat) (S : Nat → Nat → Nat) (k : Nat) : Prop where
  sz : wr.heap.size = w.heap.size + 1 + k
  list : wr.rowIs w.heap.size 28 m (fun i => if i < k then .slice (some ⟨w.heap.size + 1 + i, 0, none⟩) (n i) (n i) else .slice none 0 0)
  rows : ∀ i, i < k → Rw wr (w.heap.size + 1 + i) (n i) (S i)
  bel : Below w.heap.size w wr
theorem Twn.start (w : World) (m : Nat) (n : Nat → Nat) (S : Nat → Nat → Nat) : Twn w (w.alloc (.cells (madeCells #[.slice none 0 0] m) 28)) m n S 0 :=
  ⟨by simp, (World.rowIs_made w (.slice none 0 0) m 28).congr (fun i _ => (if_neg (Nat.not_lt_zero _)).symm), fun i hi => absurd hi (Nat.not_lt_zero _), (Below.refl _ _).alloc (Nat.le_refl _) _⟩
/-- the round's world ahead of the copy. -/
def twi (w wr : World) (k c : Nat) : World := (wr.alloc (.cells (madeCells #[.int .u8 0] c) 5)).setCell ⟨w.heap.size, k, none⟩ (.slice (some ⟨wr.heap.size, 0, none⟩) c c)
theorem Twn.mid {w wr : World} {m k : Nat} {n : Nat → Nat} {S : Nat → Nat → Nat} (h : Twn w wr m n S k) (hc : n k ≤ 140737488355328) (hk : k < m) :
    (twi w wr k (n k)).heap.size = w.heap.size + 1 + (k + 1) ∧ (twi w wr k (n k)).rowIs w.heap.size 28 m (fun i => if i < k + 1 then .slice (some ⟨w.heap.size + 1 + i, 0, none⟩) (n i) (n i) else .slice none 0 0) ∧ (∀ i, i < k → Rw (twi w wr k (n k)) (w.heap.size + 1 + i) (n i) (S i)) ∧ Rw (twi w wr k (n k)) wr.heap.size (n k) (fun _ => 0) ∧ Below w.heap.size w (twi w wr k (n k)) := by
  obtain ⟨h1, h2, h3, h4⟩ := h
  have hr := made_rw (n k) hc wr
  have ha : (wr.alloc (.cells (madeCells #[.int .u8 0] (n k)) 5)).rowIs w.heap.size 28 m (fun i => if i < k then .slice (some ⟨w.heap.size + 1 + i, 0, none⟩) (n i) (n i) else .slice none 0 0) := h2.of_block (Below.heap_alloc wr _ _ (by omega))
  have ho : Only w.heap.size (wr.alloc (.cells (madeCells #[.int .u8 0] (n k)) 5)) (twi w wr k (n k)) := (Only.refl _ _).setCell _ _
  refine ⟨by unfold twi; simp [h1]; omega, (ha.set k _).congr (fun i hi => ?_), fun i hi => ?_, ho.kp.rw_ hr (by omega), (h4.alloc (by omega) _).setCell (Nat.le_refl _) _⟩
  · by_cases e : i = k
    · rw [if_pos e, if_pos (by omega), e, h1]
    · rw [if_neg e]
      by_cases e2 : i < k
      · rw [if_pos e2, if_pos (by omega)]
      · rw [if_neg e2, if_neg (by omega)]
  · exact ho.kp.rw_ (rw_alloc (h3 i (by omega)) _) (by omega)
theorem Twn.done {w wr : World} {m k : Nat} {n : Nat → Nat} {S : Nat → Nat → Nat} {x w' : World} {sz : Nat} (hx1 : x.heap.size = w.heap.size + 1 + (k + 1)) (hx2 : x.rowIs w.heap.size 28 m (fun i => if i < k + 1 then .slice (some ⟨w.heap.size + 1 + i, 0, none⟩) (n i) (n i) else .slice none 0 0)) (hx3 : ∀ i, i < k → Rw x (w.heap.size + 1 + i) (n i) (S i)) (hx5 : Below w.heap.size w x)
    (hs : sz = w.heap.size + 1 + k) (ho : Only sz x w') (hr : Rw w' sz (n k) (S k)) : Twn w w' m n S (k + 1) := by
  refine ⟨by rw [ho.2.1]; exact hx1, hx2.of_block (ho.2.2 _ (by omega)), fun i hi => ?_, hx5.trans (ho.below (by omega))⟩
  by_cases e : i = k
  · rw [e, ← hs]; exact hr
  · exact ho.rw_ (hx3 i (by omega)) (by omega)
theorem Twn.cs {w wr : World} {m : Nat} {n : Nat → Nat} {S : Nat → Nat → Nat} (h : Twn w wr m n S m) (hm : m ≤ big) : Cs w.heap.size wr.heap.size wr (.slice (some ⟨w.heap.size, 0, none⟩) m m) m n n (fun i => w.heap.size + 1 + i) S := by
  obtain ⟨h1, h2, h3, h4⟩ := h
  refine ⟨hm, Nat.le_refl _, ⟨_, _, rfl, Nat.le_refl _, hm, fun h0 => ⟨_, rfl, Nat.le_refl _, by omega, fun i hi => by omega, fun i hi => ?_⟩⟩, fun i hi => ⟨by omega, by omega, Nat.le_refl _, h3 i hi⟩, fun i j _ _ e => by omega⟩
  rw [h2.cell hi, if_pos hi]
end Go.Proofs.Ytljfpgebekpjgaa
namespace Go.Proofs.Ytljfpgebekpjgaa
open Go.RowKit Gf2
set_option linter.unusedVariables false

theorem Lb.lt_ {w : World} {u : Value} {m : Nat} {n : Nat → Nat} {S : Nat → Nat → Nat} (h : Lb w u m n S) {i j : Nat} (hi : i < m) (hj : j < n i) : S i j < 256 := by
  obtain ⟨V, -, hV⟩ := h
  exact (hV i hi).2.1 j hj
end Go.Proofs.Ytljfpgebekpjgaa
namespace Go.Proofs.Ytljfpgebekpjgaa
open Go.RowKit Gf2
set_option linter.unusedVariables false

/-- what Invert answers is the inverse. -/
theorem sol_inverse {n : Nat} {S : Nat → Nat → Nat} (hS : ∀ i j, S i j < 256) (ht : (elm n S n).t = n) : (∀ r i, r < n → i < n → mm n (sol n S idm) S r i = idm r i) ∧ ∀ r i, r < n → i < n → mm n S (sol n S idm) r i = idm r i := by
  have R := red_elm (m := n) (M := bes n S idm) (bes_lt hS idm_lt) n
  have full := R.full (by rw [bes_t]; exact ht)
  exact R.like.inverse (fun i j _ hj => if_pos hj) (fun i j _ _ => by show bes n S idm i (n + j) = idm i j; unfold bes; rw [if_neg (by omega), Nat.add_sub_cancel_left]) full (fun i j _ _ => rfl) hS (fun i j => R.lt i (n + j))
end Go.Proofs.Ytljfpgebekpjgaa
