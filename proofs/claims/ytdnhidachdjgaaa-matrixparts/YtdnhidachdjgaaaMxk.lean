import Derived.Test.YtdnhidachdjgaaaMxj
import Derived.Test.YtdnhidachdjgaaaMj6
import Derived.Test.YtdnhidachdjgaaaMj5
import Derived.WalkMore
import Derived.Deep.LoopGhost
namespace Go.Proofs.Ytdnhidachdjgaaa
open Go.RowKit Gf2
set_option linter.unusedVariables false

theorem stp_full {m c : Nat} {s : St} (h : s.t = m) : stp m c s = s := by unfold stp; rw [if_pos h]
theorem elm_stop {m : Nat} {M : Nat → Nat → Nat} {c : Nat} (h : (elm m M c).t = m) : ∀ q, elm m M (c + q) = elm m M c
  | 0 => rfl
  | q + 1 => by
    show stp m (c + q) (elm m M (c + q)) = elm m M c
    rw [elm_stop h q, stp_full h]
theorem elm_stop' {m : Nat} {M : Nat → Nat → Nat} {c C : Nat} (h : (elm m M c).t = m) (hc : c ≤ C) : elm m M C = elm m M c := by
  have := elm_stop h (C - c)
  rwa [show c + (C - c) = C by omega] at this
/-- two rows change places. -/
theorem swp_inj {m t r : Nat} {B : Nat → Nat} (inj : ∀ i j, i < m → j < m → B i = B j → i = j) (ht : t < m) (hr : r < m) (i j : Nat) (hi : i < m) (hj : j < m) (e : swp B t r i = swp B t r j) : i = j := by
  unfold swp at e
  by_cases h1 : i = t
  · rw [if_pos h1] at e
    by_cases h2 : j = t
    · omega
    · rw [if_neg h2] at e
      by_cases h3 : j = r
      · rw [if_pos h3] at e; have := inj _ _ hr ht e; omega
      · rw [if_neg h3] at e; have := inj _ _ hr hj e; omega
  · rw [if_neg h1] at e
    by_cases h4 : i = r
    · rw [if_pos h4] at e
      by_cases h2 : j = t
      · rw [if_pos h2] at e; have := inj _ _ ht hr e; omega
      · rw [if_neg h2] at e
        by_cases h3 : j = r
        · omega
        · rw [if_neg h3] at e; have := inj _ _ ht hj e; omega
    · rw [if_neg h4] at e
      by_cases h2 : j = t
      · rw [if_pos h2] at e; have := inj _ _ hi hr e; omega
      · rw [if_neg h2] at e
        by_cases h3 : j = r
        · rw [if_pos h3] at e; have := inj _ _ hi ht e; omega
        · rw [if_neg h3] at e; exact inj _ _ hi hj e
theorem swp_prop {α : Type} {M : Nat → α} {p : α → Prop} {m t r : Nat} (h : ∀ i, i < m → p (M i)) (ht : t < m) (hr : r < m) (i : Nat) (hi : i < m) : p (swp M t r i) := by
  unfold swp
  split
  · exact h r hr
  · split
    · exact h t ht
    · exact h i hi
/-- what a swap leaves. -/
def swapped (w : World) (g t r k : Nat) (B : Nat → Nat) : World := (w.setCell ⟨g, t, none⟩ (.slice (some ⟨B r, 0, none⟩) k k)).setCell ⟨g, r, none⟩ (.slice (some ⟨B t, 0, none⟩) k k)
theorem Cs.swap {lo hi m k g t r : Nat} {w : World} {B : Nat → Nat} {S : Nat → Nat → Nat} (hC : Cs lo hi w (.slice (some ⟨g, 0, none⟩) m m) m (fun _ => k) (fun _ => k) B S) (hL : w.rowIs g 38 m (fun i => .slice (some ⟨B i, 0, none⟩) k k)) (ht : t < m) (hr : r < m) :
    Cs lo hi (swapped w g t r k B) (.slice (some ⟨g, 0, none⟩) m m) m (fun _ => k) (fun _ => k) (swp B t r) (swp S t r) ∧ (swapped w g t r k B).rowIs g 38 m (fun i => .slice (some ⟨swp B t r i, 0, none⟩) k k) ∧ Only g w (swapped w g t r k B) := by
  have ho : Only g w (swapped w g t r k B) := ((Only.refl g w).setCell t _).setCell r _
  have hL2 : (swapped w g t r k B).rowIs g 38 m (fun i => .slice (some ⟨swp B t r i, 0, none⟩) k k) := ((hL.set t _).set r _).congr (fun i hi' => by
    unfold swp
    by_cases h1 : i = t
    · by_cases h2 : i = r
      · rw [if_pos h2, if_pos h1, ← h1, ← h2]
      · rw [if_neg h2, if_pos h1, if_pos h1]
    · by_cases h2 : i = r
      · rw [if_pos h2, if_neg h1, if_pos h2]
      · rw [if_neg h2, if_neg h1, if_neg h1, if_neg h2])
  refine ⟨?_, hL2, ho⟩
  obtain ⟨mb, hw, ⟨a, c, e, hc1, hc2, hf⟩, row, inj⟩ := hC
  obtain ⟨g', e1, g1, g2, g3, g4⟩ := hf (by omega)
  have eg : a = some ⟨g, 0, none⟩ := by cases e; rfl
  have eg' : g' = g := by rw [eg] at e1; cases e1; rfl
  subst eg'
  refine ⟨mb, by rw [ho.2.1]; exact hw, ⟨a, c, e, hc1, hc2, fun _ => ⟨g', e1, g1, g2, fun i hi' => ?_, fun i hi' => ?_⟩⟩, fun i hi' => ?_, swp_inj inj ht hr⟩
  · exact swp_prop (M := B) (p := fun x => x ≠ g') g3 ht hr i hi'
  · rw [hL2.cell hi']
  · have rw2 : ∀ i, i < m → lo ≤ B i ∧ B i < hi ∧ k ≤ k ∧ Rw (swapped w g' t r k B) (B i) k (S i) := fun i hi' => ⟨(row i hi').1, (row i hi').2.1, Nat.le_refl _, ho.rw_ (row i hi').2.2.2 (g3 i hi')⟩
    show lo ≤ swp B t r i ∧ swp B t r i < hi ∧ k ≤ k ∧ Rw (swapped w g' t r k B) (swp B t r i) k (swp S t r i)
    unfold swp
    split
    · exact rw2 r hr
    · split
      · exact rw2 t ht
      · exact rw2 i hi'

/-- the state of an elimination. -/
structure El (lo hi m k gm : Nat) (w wr : World) (pv : Value) (s : St) : Prop where
  cs : ∃ B, Cs lo hi wr (.slice (some ⟨gm, 0, none⟩) m m) m (fun _ => k) (fun _ => k) B s.M ∧ wr.rowIs gm 38 m (fun i => .slice (some ⟨B i, 0, none⟩) k k)
  tab : Tab8 wr w.heap.size
  pv : Gj (w.heap.size + 1) wr pv s.t (fun i => (s.P i : Int))
  bel : Below lo w wr
  sz : w.heap.size + 1 ≤ wr.heap.size
theorem ke_of_below {L : Nat} {a b : World} (h : Below L a b) : Ke (fun x => L ≤ x) a b := ⟨h.mono (Nat.zero_le _), fun x _ hn => h.block x (by omega)⟩
theorem Tab8.ke {E : Nat → Prop} {w w' : World} {t : Nat} (h : Tab8 w t) (hk : Ke E w w') (hn : ¬ E t) : Tab8 w' t := h.of_heap (hk.2 t h.lt hn)
theorem rowIs_ke {E : Nat → Prop} {w w' : World} {g N : Nat} {T : TypeId} {F : Nat → Value} (h : w.rowIs g T N F) (hk : Ke E w w') (hn : ¬ E g) : w'.rowIs g T N F := h.of_block (hk.2 g h.lt hn)
theorem El.pivot {lo hi m k gm r c : Nat} {w wr : World} {pv : Value} {s : St} (h : El lo hi m k gm w wr pv s) (hhi : hi ≤ w.heap.size) (htm : s.t < m) (hr1 : s.t ≤ r) (hr : r < m) (hck : c < k) (hk : k ≤ 768) (hm2 : m ≤ 256) (hd : s.d < 256) :
    ∃ B, wr.drew.cell? ⟨gm, r, none⟩ = some (.slice (some ⟨B r, 0, none⟩) k k) ∧ wr.drew.cell? ⟨gm, s.t, none⟩ = some (.slice (some ⟨B s.t, 0, none⟩) k k) ∧ wr.drew.frozen? ⟨gm, s.t, none⟩ = false ∧
      (∃ x, (wr.drew.setCell ⟨gm, s.t, none⟩ (.slice (some ⟨B r, 0, none⟩) k k)).cell? ⟨gm, r, none⟩ = some x ∧ ∃ y, x = .slice y k k) ∧ (wr.drew.setCell ⟨gm, s.t, none⟩ (.slice (some ⟨B r, 0, none⟩) k k)).frozen? ⟨gm, r, none⟩ = false ∧
      Calls Try.prog 76 #[.pointer (some ⟨w.heap.size, 0, none⟩), .slice (some ⟨gm, 0, none⟩) m m, .int .i64 (s.t : Int), .int .i64 (c : Int)] (swapped wr.drew gm s.t r k B) fun e w2 => e = .returned (.tuple #[]) ∧
        ∃ w3 pv', (Builtin.append_ #[27, 27] 27 #[pv, .slice (some ⟨w2.heap.size, 0, none⟩) 1 1]).run Try.prog (w2.alloc (.cells #[.int .i64 (c : Int)] 3)) = .ok pv' w3 ∧
          Calls Try.prog 41 #[.pointer (some ⟨w.heap.size, 0, none⟩), .int .u8 (s.d : Nat), .int .u8 (s.M r c : Nat)] w3 fun e w4 => e = .returned (.int .u8 (fm 285 s.d (s.M r c) : Nat)) ∧
            El lo hi m k gm w w4 pv' ⟨clr (scl (swp s.M s.t r) s.t c) s.t c, s.t + 1, fun i => if i = s.t then c else s.P i, fm 285 s.d (s.M r c)⟩ := by
  obtain ⟨⟨B, hC, hL⟩, hT, hP, hb, hz⟩ := h
  have hC1 : Cs lo hi wr.drew (.slice (some ⟨gm, 0, none⟩) m m) m (fun _ => k) (fun _ => k) B s.M := hC.drewN 1
  have hL1 : wr.drew.rowIs gm 38 m (fun i => .slice (some ⟨B i, 0, none⟩) k k) := hL
  have hgm : lo ≤ gm ∧ gm < hi := by
    obtain ⟨a, c', e, hc1, hc2, hf⟩ := hC.form
    cases e
    obtain ⟨g', e1, g1, g2, g3, g4⟩ := hf (by omega)
    cases e1
    exact ⟨g1, g2⟩
  have lrc := hC.lt_ hr (j := c) hck
  obtain ⟨hC2, hL2, ho2⟩ := hC1.swap hL1 htm hr
  have hs1 := hL1.set s.t (.slice (some ⟨B r, 0, none⟩) k k)
  have eM : ∀ i, i < m → swp B s.t r i ≠ gm := fun i hi' => hC2.ne hi'
  have hBlt : ∀ i, i < m → lo ≤ swp B s.t r i ∧ swp B s.t r i < hi := fun i hi' => ⟨(hC2.row i hi').1, (hC2.row i hi').2.1⟩
  have k1 : Ke (fun x => x = gm) wr.drew (swapped wr.drew gm s.t r k B) := ho2.kp.ke
  have hT : Tab8 wr.drew w.heap.size := hT.of_heap rfl
  have hP : Gj (w.heap.size + 1) wr.drew pv s.t (fun i => (s.P i : Int)) := hP.keep ((Ke.refl (fun _ => False) wr).drewN 1) (fun _ _ e => e)
  have hT2 : Tab8 (swapped wr.drew gm s.t r k B) w.heap.size := hT.ke k1 (by omega)
  have hP2 : Gj (w.heap.size + 1) (swapped wr.drew gm s.t r k B) pv s.t (fun i => (s.P i : Int)) := hP.keep k1 (fun x hx => by omega)
  have hz2 : (swapped wr.drew gm s.t r k B).heap.size = wr.heap.size := ho2.2.1
  have hb2 : Below lo w (swapped wr.drew gm s.t r k B) := (below_drewN hb 1).trans (ho2.below hgm.1)
  refine ⟨B, hL1.cell hr, hL1.cell htm, hL1.frozen _, ⟨_, hs1.cell hr, by split; exact ⟨_, rfl⟩; exact ⟨_, rfl⟩⟩, hs1.frozen _, ?_⟩
  refine (clearcol10 w.heap.size lo hi m k s.t c gm m (swp B s.t r) (swp s.M s.t r) (swapped wr.drew gm s.t r k B) hT2 (fun i hi' => by have := hBlt i hi'; omega) hC2 htm hck hk hm2).mono ?_
  rintro e w2 ⟨rfl, hC3, k3⟩
  refine ⟨rfl, ?_⟩
  have nE : ∀ x, hi ≤ x → ¬ EB m (swp B s.t r) x := fun x hx ⟨i, hi', e⟩ => by have := hBlt i hi'; omega
  have hT3 : Tab8 w2 w.heap.size := hT2.ke k3 (nE _ hhi)
  have hP3 : Gj (w.heap.size + 1) w2 pv s.t (fun i => (s.P i : Int)) := hP2.keep k3 (fun x hx => nE x (by omega))
  have hL3 : w2.rowIs gm 38 m (fun i => .slice (some ⟨swp B s.t r i, 0, none⟩) k k) := rowIs_ke hL2 k3 (fun ⟨i, hi', e⟩ => eM i hi' e.symm)
  have hz3 : w.heap.size + 1 ≤ w2.heap.size := by have := k3.size; omega
  have hb3 : Below lo w w2 := hb2.trans (k3.below (fun x ⟨i, hi', e⟩ => by rw [e]; exact (hBlt i hi').1) (by have := hb.size; have := hC.hw; omega))
  obtain ⟨w3, pv', hrun, hP4, hb4⟩ := app_gj hP3 hz3 (c : Int) (by omega)
  refine ⟨w3, pv', hrun, ?_⟩
  have k4 := ke_of_below hb4
  have hC4 := hC3.keep k4 (fun x _ hx => by omega)
  have hT4 : Tab8 w3 w.heap.size := hT3.ke k4 (by omega)
  have hL4 := rowIs_ke hL3 k4 (by omega)
  have hb5 : Below lo w w3 := hb3.trans (hb4.mono (by omega))
  refine (tmul_nat w.heap.size s.d (s.M r c) w3 hT4 hd lrc).mono ?_
  rintro e w4 ⟨rfl, q, rfl⟩
  refine ⟨rfl, ⟨swp B s.t r, hC4.drewN q, hL4⟩, hT4.drewN q, (hP4.keep ((Ke.refl (fun _ => False) w3).drewN q) (fun _ _ e => e)).congr (fun i hi' => ?_), below_drewN hb5 q, by have := hb4.size; show w.heap.size + 1 ≤ w3.heap.size; omega⟩
  show (if i < s.t then (s.P i : Int) else (c : Int)) = (((if i = s.t then c else s.P i) : Nat) : Int)
  have hi' : i < s.t + 1 := hi'
  by_cases e : i < s.t
  · rw [if_pos e, if_neg (by omega)]
  · rw [if_neg e, if_pos (by omega)]
set_option maxHeartbeats 4000000 in
set_option maxRecDepth 100000 in
theorem elim10 (lo hi m k gm C : Nat) (B : Nat → Nat) (S : Nat → Nat → Nat) (w : World) (hC : Cs lo hi w (.slice (some ⟨gm, 0, none⟩) m m) m (fun _ => k) (fun _ => k) B S) (hL : w.rowIs gm 38 m (fun i => .slice (some ⟨B i, 0, none⟩) k k)) (hm : 1 ≤ m) (hm2 : m ≤ 256) (hk : k ≤ 768) (hCk : C ≤ k) (hS : ∀ i j, S i j < 256) :
    Calls Try.prog 61 #[.slice (some ⟨gm, 0, none⟩) m m, .int .i64 (C : Int)] w fun e w' => ∃ pv, e = .returned (.tuple #[pv, .int .u8 ((elm m S C).d : Nat)]) ∧ El lo hi m k gm w w' pv (elm m S C) := by
  have c3 := new_tab w
  go_enter Try.func61, Try.ntmps61
  go_wp2
  go_step3
  go_wp2_with (go_at_call 38; (with_reducible refine c3.mono ?_); rintro e w9 ⟨rfl, w0, hw9, hs0, ht, hb0⟩; subst hw9)
  go_step3
  go_wp2
  have hhi : hi ≤ w.heap.size := hC.hw
  have hCs : Cs lo hi w0 (.slice (some ⟨gm, 0, none⟩) m m) m (fun _ => k) (fun _ => k) B S := hC.below hb0
  have hlo : lo ≤ w.heap.size := by have := hC.row 0 hm; omega
  have E0 : El lo hi m k gm w w0 (.slice none 0 0) (elm m S 0) := ⟨⟨B, hCs, hL.of_block (hb0.block _ hL.lt)⟩, ht, Gj.start _ _ _, hb0.mono hlo, by omega⟩
  have HM : Hid (hi ≤ w.heap.size ∧ m ≤ 256 ∧ k ≤ 768 ∧ C ≤ k ∧ ∀ c, Red m c S (elm m S c)) := ⟨hhi, hm2, hk, hCk, red_elm hS⟩
  clear c3 hC hL hm hm2 hk hCk hS hs0 ht hb0 hhi hCs hlo
  go_loopg [15, 7, 8] C (fun g s15 s7 s8 wr => ∃ c : Nat, c + g = C ∧ s15 = .int .i64 (c : Int) ∧ s8 = .int .u8 ((elm m S c).d : Nat) ∧ El lo hi m k gm w wr s7 (elm m S c))
  case atStart => exact ⟨0, by omega, rfl, rfl, E0⟩
  case round =>
    obtain ⟨c, hcg, rfl, rfl, hE⟩ := hrel
    clear E0
    cases gk with
    | zero =>
      have hcC : c = C := by omega
      subst hcC
      obtain ⟨a, cap, rfl⟩ := hE.pv.form
      have HE : Hid _ := hE
      clear hE
      obtain ⟨s, hs⟩ : ∃ s, Hid (elm m S c = s) := ⟨_, rfl⟩
      rw [hs.out] at HE ⊢
      go_wp2
      rw [Exit.noGoto_ret]
      go_ret2
      rw [hs.out]
      exact ⟨_, rfl, HE.out⟩
    | succ g =>
      have icC : ((c : Nat) : Int) < (C : Int) := by omega
      have W0 : wrap64 ((c : Int) + 1) = (c : Int) + 1 := wrap_succ8 (by have := HM.out; unfold big; omega)
      have HW : Hid (c + 1 + g = C ∧ c < k) := ⟨by omega, by have := HM.out; omega⟩
      clear hcg
      obtain ⟨a, cap, rfl⟩ := hE.pv.form
      have HR : Hid _ := HM.out.2.2.2.2 c
      by_cases htm : (elm m S c).t = m
      · obtain ⟨s, hs⟩ : ∃ s, Hid (elm m S c = s) := ⟨_, rfl⟩
        have hs2 : Hid (elm m S C = s) := (elm_stop' htm (by have := HW.out; omega)).trans hs.out
        have HE : Hid _ := hE
        clear hE HR
        rw [hs.out] at HE htm ⊢
        go_wp2
        go_step3
        go_wp2
        rw [Exit.noGoto_exit]
        go_wp2
        rw [Exit.noGoto_ret]
        go_ret2
        rw [hs2.out]
        exact ⟨_, rfl, HE.out⟩
      · have htm2 : (elm m S c).t < m := by have := HR.out.tm; omega
        have HE : Hid _ := hE
        have HF : Hid (∀ s', elm m S (c + 1) = s' ↔ stp m c (elm m S c) = s') := fun s' => Iff.rfl
        have HQ : Hid (∀ g' (x : Value) (y : World), c + 1 + g' = C → El lo hi m k gm w y x (stp m c (elm m S c)) → ∃ c', c' + g' = C ∧ Value.int .i64 ((c : Int) + 1) = Value.int .i64 (c' : Nat) ∧ Value.int .u8 ((stp m c (elm m S c)).d : Nat) = Value.int .u8 ((elm m S c').d : Nat) ∧ El lo hi m k gm w y x (elm m S c')) := fun g' x y h1 h2 => ⟨c + 1, h1, rfl, rfl, h2⟩
        have nI : ¬ (((elm m S c).t : Nat) : Int) = (m : Int) := by omega
        clear hE HF htm
        generalize hs : elm m S c = s at HE HR HQ htm2 nI ⊢
        clear hs
        go_wp2
        go_step3
        go_wp2
        go_step3
        go_wp2
        go_loopg [7, 8, 11] (m - s.t) (fun g2 s7 s8 s11 wr2 => ∃ r : Nat, r + g2 = m ∧ s.t ≤ r ∧ s11 = .int .i64 (r : Int) ∧ Hid (∀ i, s.t ≤ i → i < r → s.M i c = 0) ∧ s7 = .slice a s.t cap ∧ s8 = .int .u8 (s.d : Nat) ∧ wr2 = wr)
        case atStart => exact ⟨s.t, by omega, Nat.le_refl _, rfl, fun i h1 h2 => absurd h1 (by omega), rfl, rfl, rfl⟩
        case round =>
          obtain ⟨r, hrg, htr, rfl, hz, rfl, rfl, hw⟩ := hrel
          subst hw
          cases gk with
          | zero =>
            have hrm : r = m := by omega
            subst hrm
            have e1 : stp r c s = s := by
              unfold stp
              rw [if_neg (by omega), if_pos (fr_eq htr (by omega) hz.out (fun h => absurd h (by omega)))]
            rw [e1] at HQ
            clear e1
            go_wp2
            rw [Exit.noGoto_normal]
            go_wp2
            go_roundg g
            case measure => exact Nat.lt_succ_self g
            case rel => rw [W0]; exact HQ.out g _ _ HW.out.1 HE.out
          | succ g2 =>
            have hrm : r < m := by omega
            have irm : ((r : Nat) : Int) < (m : Int) := by omega
            have W1 : wrap64 ((r : Int) + 1) = (r : Int) + 1 := wrap_succ8 (by have := HM.out; unfold big; omega)
            obtain ⟨⟨B0, hC0, hL0⟩, -, -, -, -⟩ := id HE.out
            have q1 := hL0.cell hrm
            have q2 := hC0.cell_ hrm (j := c) HW.out.2
            have ick : ((c : Nat) : Int) < (k : Int) := by have := HW.out; omega
            clear hC0 hL0
            by_cases h0 : s.M r c = 0
            · have hz2 : Hid (∀ i, s.t ≤ i → i < r + 1 → s.M i c = 0) := fun i h1 h2 => by
                by_cases e : i = r
                · rw [e]; exact h0
                · exact hz.out i h1 (by omega)
              have HG : Hid (r + 1 + g2 = m ∧ s.t ≤ r + 1) := ⟨by omega, by omega⟩
              rw [h0] at q2
              clear h0 hrg htr
              go_wp2
              go_roundg g2
              case measure => exact Nat.lt_succ_self g2
              case rel => exact ⟨r + 1, HG.out.1, HG.out.2, by rw [W1]; rfl, hz2, rfl, rfl, rfl⟩
            · have e1 : stp m c s = ⟨clr (scl (swp s.M s.t r) s.t c) s.t c, s.t + 1, fun i => if i = s.t then c else s.P i, fm 285 s.d (s.M r c)⟩ := by
                unfold stp
                rw [if_neg (by omega), fr_eq htr (by omega) hz.out (fun _ => h0), if_neg (by omega)]
              obtain ⟨B, y1, y2, y3, ⟨x4, y4, z4, e4⟩, y5, c5⟩ := HE.out.pivot HM.out.1 htm2 htr hrm HW.out.2 HM.out.2.2.1 HM.out.2.1 HR.out.d1
              subst e4
              unfold swapped at c5
              have c5 := show Calls Try.prog _ _ ((wr.setCell ⟨gm, s.t, none⟩ (.slice (some ⟨B r, 0, none⟩) k k)).setCell ⟨gm, r, none⟩ (.slice (some ⟨B s.t, 0, none⟩) k k)).drew _ from c5
              have y4 : ((wr.setCell ⟨gm, s.t, none⟩ (.slice (some ⟨B r, 0, none⟩) k k)).drew).cell? ⟨gm, r, none⟩ = some (.slice z4 k k) := y4
              have y5 : ((wr.setCell ⟨gm, s.t, none⟩ (.slice (some ⟨B r, 0, none⟩) k k)).drew).frozen? ⟨gm, r, none⟩ = false := y5
              have hI : ¬ ((s.M r c : Nat) : Int) = 0 := by omega
              have it : ((s.t : Nat) : Int) < (m : Int) := by omega
              rw [e1] at HQ
              generalize hX : (⟨clr (scl (swp s.M s.t r) s.t c) s.t c, s.t + 1, fun i => if i = s.t then c else s.P i, fm 285 s.d (s.M r c)⟩ : St) = X at c5 HQ
              have hXd : X.d = fm 285 s.d (s.M r c) := by rw [← hX]
              rw [hXd] at HQ
              generalize fm 285 s.d (s.M r c) = D at c5 HQ
              generalize s.M r c = A0 at q2 c5 hI
              clear e1 h0 hX hXd hz HE HR hrg htr htm2
              go_wp2
              refine region_planX (fun w' => w'.cell? ⟨gm, r, none⟩ = some (.slice (some ⟨B r, 0, none⟩) k k) ∧ w'.cell? ⟨gm, s.t, none⟩ = some (.slice (some ⟨B s.t, 0, none⟩) k k)) 12 [2, 3] [12] 70 ⟨y1, y2⟩ (by kernel_rfl) (by kernel_rfl) (fun _ a d v _ h => by cases d <;> exact h) ?_
              refine planT_last ?A2x0 rfl (fun w' hS => ?s2x0) rfl ?n2x0
              case s2x0 =>
                obtain ⟨g1, g2⟩ := hS
                simp only [List.take_succ_cons, List.take_zero]
                repeat still_step
                exact rfl
              case n2x0 =>
              simp only [List.drop_succ_cons, List.drop_zero]
              go_wp2_with (first | (go_at_call 76; (with_reducible refine c5.mono ?_); rintro e w2 ⟨rfl, w3, pv', hrun, c6⟩; clear c5 y1 y2 y3 y4 y5 q1 q2) | (at_builtin; refine Lib.wpList_append_run _ rfl _ _ _ _ rfl _ _ rfl rfl _ _ hrun ?_; clear hrun) | (go_at_call 41; (with_reducible refine c6.mono ?_); rintro e w4 ⟨rfl, hE4⟩; have HE4 : Hid _ := hE4; clear c6 hE4))
              rw [Exit.noGoto_exit]
              go_wp2
              go_roundg g
              case measure => exact Nat.lt_succ_self g
              case rel => rw [W0]; exact HQ.out g _ _ HW.out.1 HE4.out
end Go.Proofs.Ytdnhidachdjgaaa
