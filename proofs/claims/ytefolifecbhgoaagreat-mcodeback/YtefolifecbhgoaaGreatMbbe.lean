import Derived.Test.YtefolifecbhgoaaGreatMbbd
import Derived.Test.YtefolifecbhgoaaGreatMbaj
import Derived.Test.YtefolifecbhgoaaGreatMban
import Derived.WalkMore
import Derived.Deep.LoopGhost
import Derived.Test.YtefolifecbhgoaaGreatMbbc
import Derived.Test.YtefolifecbhgoaaGreatMbbb
import Derived.BigQuiet
namespace Go.Proofs.YtefolifecbhgoaaGreat
open Go.RowKit Gf2
set_option linter.unusedVariables false

theorem stp_full {m c : Nat} {s : St} (h : s.t = m) : stp m c s = s := by unfold stp; rw [if_pos h]
theorem elm_stop {m : Nat} {M : Nat → Nat → Nat} {c : Nat} (h : (elm m M c).t = m) : ∀ q, elm m M (c + q) = elm m M c
  | 0 => rfl
  | q + 1 => by
    show stp m (c + q) (elm m M (c + q)) = elm m M c
    rw [elm_stop h q, stp_full h]
theorem elm_stop' {m : Nat} {M : Nat → Nat → Nat} {c C : Nat} (h : (elm m M c).t = m) (hc : c ≤ C) : elm m M C = elm m M c := by
  have := elm_stop h (C - c)
  rwa [show c + (C - c) = C by omega] at this
theorem swp_inj {m t r : Nat} {B : Nat → Nat} (inj : ∀ i j, i < m → j < m → B i = B j → i = j) (ht : t < m) (hr : r < m) (i j : Nat) (hi : i < m) (hj : j < m) (e : swp B t r i = swp B t r j) : i = j := by
  unfold swp at e
  by_cases h1 : i = t
  · rw [if_pos h1] at e
    by_cases h2 : j = t
    · omega
    · rw [if_neg h2] at e
      by_cases h3 : j = r
      · rw [if_pos h3] at e; have := inj _ _ hr ht e; omega
      · rw [if_neg h3] at e; have := inj _ _ hr hj e; omega
  · rw [if_neg h1] at e
    by_cases h4 : i = r
    · rw [if_pos h4] at e
      by_cases h2 : j = t
      · rw [if_pos h2] at e; have := inj _ _ ht hr e; omega
      · rw [if_neg h2] at e
        by_cases h3 : j = r
        · omega
        · rw [if_neg h3] at e; have := inj _ _ ht hj e; omega
    · rw [if_neg h4] at e
      by_cases h2 : j = t
      · rw [if_pos h2] at e; have := inj _ _ hi hr e; omega
      · rw [if_neg h2] at e
        by_cases h3 : j = r
        · rw [if_pos h3] at e; have := inj _ _ hi ht e; omega
        · rw [if_neg h3] at e; exact inj _ _ hi hj e
theorem swp_prop {α : Type} {M : Nat → α} {p : α → Prop} {m t r : Nat} (h : ∀ i, i < m → p (M i)) (ht : t < m) (hr : r < m) (i : Nat) (hi : i < m) : p (swp M t r i) := by
  unfold swp
  split
  · exact h r hr
  · split
    · exact h t ht
    · exact h i hi
def swapped (w : World) (g t r k : Nat) (B : Nat → Nat) : World := (w.setCell ⟨g, t, none⟩ (.slice (some ⟨B r, 0, none⟩) k k)).setCell ⟨g, r, none⟩ (.slice (some ⟨B t, 0, none⟩) k k)
theorem Cs.swap {lo hi m k g t r : Nat} {w : World} {B : Nat → Nat} {S : Nat → Nat → Nat} (hC : Cs lo hi w (.slice (some ⟨g, 0, none⟩) m m) m (fun _ => k) (fun _ => k) B S) (hL : w.rowIs g 27 m (fun i => .slice (some ⟨B i, 0, none⟩) k k)) (ht : t < m) (hr : r < m) :
    Cs lo hi (swapped w g t r k B) (.slice (some ⟨g, 0, none⟩) m m) m (fun _ => k) (fun _ => k) (swp B t r) (swp S t r) ∧ (swapped w g t r k B).rowIs g 27 m (fun i => .slice (some ⟨swp B t r i, 0, none⟩) k k) ∧ Only g w (swapped w g t r k B) := by
  have ho : Only g w (swapped w g t r k B) := ((Only.refl g w).setCell t _).setCell r _
  have hL2 : (swapped w g t r k B).rowIs g 27 m (fun i => .slice (some ⟨swp B t r i, 0, none⟩) k k) := ((hL.set t _).set r _).congr (fun i hi' => by
    unfold swp
    by_cases h1 : i = t
    · by_cases h2 : i = r
      · rw [if_pos h2, if_pos h1, ← h1, ← h2]
      · rw [if_neg h2, if_pos h1, if_pos h1]
    · by_cases h2 : i = r
      · rw [if_pos h2, if_neg h1, if_pos h2]
      · rw [if_neg h2, if_neg h1, if_neg h1, if_neg h2])
  refine ⟨?_, hL2, ho⟩
  obtain ⟨mb, hw, ⟨a, c, e, hc1, hc2, hf⟩, row, inj⟩ := hC
  obtain ⟨g', e1, g1, g2, g3, g4⟩ := hf (by omega)
  have eg : a = some ⟨g, 0, none⟩ := by cases e; rfl
  have eg' : g' = g := by rw [eg] at e1; cases e1; rfl
  subst eg'
  refine ⟨mb, by rw [ho.2.1]; exact hw, ⟨a, c, e, hc1, hc2, fun _ => ⟨g', e1, g1, g2, fun i hi' => ?_, fun i hi' => ?_⟩⟩, fun i hi' => ?_, swp_inj inj ht hr⟩
  · exact swp_prop (M := B) (p := fun x => x ≠ g') g3 ht hr i hi'
  · rw [hL2.cell hi']
  · have rw2 : ∀ i, i < m → lo ≤ B i ∧ B i < hi ∧ k ≤ k ∧ Rw (swapped w g' t r k B) (B i) k (S i) := fun i hi' => ⟨(row i hi').1, (row i hi').2.1, Nat.le_refl _, ho.rw_ (row i hi').2.2.2 (g3 i hi')⟩
    show lo ≤ swp B t r i ∧ swp B t r i < hi ∧ k ≤ k ∧ Rw (swapped w g' t r k B) (swp B t r i) k (swp S t r i)
    unfold swp
    split
    · exact rw2 r hr
    · split
      · exact rw2 t ht
      · exact rw2 i hi'

structure El (lo hi m k gm : Nat) (w wr : World) (pv : Value) (s : St) : Prop where
  cs : ∃ B, Cs lo hi wr (.slice (some ⟨gm, 0, none⟩) m m) m (fun _ => k) (fun _ => k) B s.M ∧ wr.rowIs gm 27 m (fun i => .slice (some ⟨B i, 0, none⟩) k k)
  tab : Tab8 wr w.heap.size
  pv : Gj (w.heap.size + 1) wr pv s.t (fun i => (s.P i : Int))
  bel : Below lo w wr
  sz : w.heap.size + 1 ≤ wr.heap.size
theorem ke_of_below {L : Nat} {a b : World} (h : Below L a b) : Ke (fun x => L ≤ x) a b := ⟨h.mono (Nat.zero_le _), fun x _ hn => h.block x (by omega)⟩
theorem Tab8.ke {E : Nat → Prop} {w w' : World} {t : Nat} (h : Tab8 w t) (hk : Ke E w w') (hn : ¬ E t) : Tab8 w' t := h.of_heap (hk.2 t h.lt hn)
theorem rowIs_ke {E : Nat → Prop} {w w' : World} {g N : Nat} {T : TypeId} {F : Nat → Value} (h : w.rowIs g T N F) (hk : Ke E w w') (hn : ¬ E g) : w'.rowIs g T N F := h.of_block (hk.2 g h.lt hn)
theorem El.pivot {lo hi m k gm r c : Nat} {w wr : World} {pv : Value} {s : St} (h : El lo hi m k gm w wr pv s) (hhi : hi ≤ w.heap.size) (htm : s.t < m) (hr1 : s.t ≤ r) (hr : r < m) (hck : c < k) (hk : k ≤ 768) (hm2 : m ≤ 256) (hd : s.d < 256) :
    ∃ B, wr.drew.cell? ⟨gm, r, none⟩ = some (.slice (some ⟨B r, 0, none⟩) k k) ∧ wr.drew.cell? ⟨gm, s.t, none⟩ = some (.slice (some ⟨B s.t, 0, none⟩) k k) ∧ wr.drew.frozen? ⟨gm, s.t, none⟩ = false ∧
      (∃ x, (wr.drew.setCell ⟨gm, s.t, none⟩ (.slice (some ⟨B r, 0, none⟩) k k)).cell? ⟨gm, r, none⟩ = some x ∧ ∃ y, x = .slice y k k) ∧ (wr.drew.setCell ⟨gm, s.t, none⟩ (.slice (some ⟨B r, 0, none⟩) k k)).frozen? ⟨gm, r, none⟩ = false ∧
      Calls Tryz.prog 165 #[.pointer (some ⟨w.heap.size, 0, none⟩), .slice (some ⟨gm, 0, none⟩) m m, .int .i64 (s.t : Int), .int .i64 (c : Int)] (swapped wr.drew gm s.t r k B) fun e w2 => e = .returned (.tuple #[]) ∧
        ∃ w3 pv', (Builtin.append_ #[40, 40] 40 #[pv, .slice (some ⟨w2.heap.size, 0, none⟩) 1 1]).run Tryz.prog (w2.alloc (.cells #[.int .i64 (c : Int)] 3)) = .ok pv' w3 ∧
          Calls Tryz.prog 96 #[.pointer (some ⟨w.heap.size, 0, none⟩), .int .u8 (s.d : Nat), .int .u8 (s.M r c : Nat)] w3 fun e w4 => e = .returned (.int .u8 (fm 285 s.d (s.M r c) : Nat)) ∧
            El lo hi m k gm w w4 pv' ⟨clr (scl (swp s.M s.t r) s.t c) s.t c, s.t + 1, fun i => if i = s.t then c else s.P i, fm 285 s.d (s.M r c)⟩ := by
  obtain ⟨⟨B, hC, hL⟩, hT, hP, hb, hz⟩ := h
  have hC1 : Cs lo hi wr.drew (.slice (some ⟨gm, 0, none⟩) m m) m (fun _ => k) (fun _ => k) B s.M := hC.drewN 1
  have hL1 : wr.drew.rowIs gm 27 m (fun i => .slice (some ⟨B i, 0, none⟩) k k) := hL
  have hgm : lo ≤ gm ∧ gm < hi := by
    obtain ⟨a, c', e, hc1, hc2, hf⟩ := hC.form
    cases e
    obtain ⟨g', e1, g1, g2, g3, g4⟩ := hf (by omega)
    cases e1
    exact ⟨g1, g2⟩
  have lrc := hC.lt_ hr (j := c) hck
  obtain ⟨hC2, hL2, ho2⟩ := hC1.swap hL1 htm hr
  have hs1 := hL1.set s.t (.slice (some ⟨B r, 0, none⟩) k k)
  have eM : ∀ i, i < m → swp B s.t r i ≠ gm := fun i hi' => hC2.ne hi'
  have hBlt : ∀ i, i < m → lo ≤ swp B s.t r i ∧ swp B s.t r i < hi := fun i hi' => ⟨(hC2.row i hi').1, (hC2.row i hi').2.1⟩
  have k1 : Ke (fun x => x = gm) wr.drew (swapped wr.drew gm s.t r k B) := ho2.kp.ke
  have hT : Tab8 wr.drew w.heap.size := hT.of_heap rfl
  have hP : Gj (w.heap.size + 1) wr.drew pv s.t (fun i => (s.P i : Int)) := hP.keep ((Ke.refl (fun _ => False) wr).drewN 1) (fun _ _ e => e)
  have hT2 : Tab8 (swapped wr.drew gm s.t r k B) w.heap.size := hT.ke k1 (by omega)
  have hP2 : Gj (w.heap.size + 1) (swapped wr.drew gm s.t r k B) pv s.t (fun i => (s.P i : Int)) := hP.keep k1 (fun x hx => by omega)
  have hz2 : (swapped wr.drew gm s.t r k B).heap.size = wr.heap.size := ho2.2.1
  have hb2 : Below lo w (swapped wr.drew gm s.t r k B) := (below_drewN hb 1).trans (ho2.below hgm.1)
  refine ⟨B, hL1.cell hr, hL1.cell htm, hL1.frozen _, ⟨_, hs1.cell hr, by split; exact ⟨_, rfl⟩; exact ⟨_, rfl⟩⟩, hs1.frozen _, ?_⟩
  refine (clearcol10 w.heap.size lo hi m k s.t c gm m (swp B s.t r) (swp s.M s.t r) (swapped wr.drew gm s.t r k B) hT2 (fun i hi' => by have := hBlt i hi'; omega) hC2 htm hck hk hm2).mono ?_
  rintro e w2 ⟨rfl, hC3, k3⟩
  refine ⟨rfl, ?_⟩
  have nE : ∀ x, hi ≤ x → ¬ EB m (swp B s.t r) x := fun x hx ⟨i, hi', e⟩ => by have := hBlt i hi'; omega
  have hT3 : Tab8 w2 w.heap.size := hT2.ke k3 (nE _ hhi)
  have hP3 : Gj (w.heap.size + 1) w2 pv s.t (fun i => (s.P i : Int)) := hP2.keep k3 (fun x hx => nE x (by omega))
  have hL3 : w2.rowIs gm 27 m (fun i => .slice (some ⟨swp B s.t r i, 0, none⟩) k k) := rowIs_ke hL2 k3 (fun ⟨i, hi', e⟩ => eM i hi' e.symm)
  have hz3 : w.heap.size + 1 ≤ w2.heap.size := by have := k3.size; omega
  have hb3 : Below lo w w2 := hb2.trans (k3.below (fun x ⟨i, hi', e⟩ => by rw [e]; exact (hBlt i hi').1) (by have := hb.size; have := hC.hw; omega))
  obtain ⟨w3, pv', hrun, hP4, hb4⟩ := app_gj hP3 hz3 (c : Int) (by omega)
  refine ⟨w3, pv', hrun, ?_⟩
  have k4 := ke_of_below hb4
  have hC4 := hC3.keep k4 (fun x _ hx => by omega)
  have hT4 : Tab8 w3 w.heap.size := hT3.ke k4 (by omega)
  have hL4 := rowIs_ke hL3 k4 (by omega)
  have hb5 : Below lo w w3 := hb3.trans (hb4.mono (by omega))
  refine (tmul_nat w.heap.size s.d (s.M r c) w3 hT4 hd lrc).mono ?_
  rintro e w4 ⟨rfl, q, rfl⟩
  refine ⟨rfl, ⟨swp B s.t r, hC4.drewN q, hL4⟩, hT4.drewN q, (hP4.keep ((Ke.refl (fun _ => False) w3).drewN q) (fun _ _ e => e)).congr (fun i hi' => ?_), below_drewN hb5 q, by have := hb4.size; show w.heap.size + 1 ≤ w3.heap.size; omega⟩
  show (if i < s.t then (s.P i : Int) else (c : Int)) = (((if i = s.t then c else s.P i) : Nat) : Int)
  have hi' : i < s.t + 1 := hi'
  by_cases e : i < s.t
  · rw [if_pos e, if_neg (by omega)]
  · rw [if_neg e, if_pos (by omega)]
set_option maxHeartbeats 4000000 in
set_option maxRecDepth 100000 in
theorem elim10 (lo hi m k gm C : Nat) (B : Nat → Nat) (S : Nat → Nat → Nat) (w : World) (hC : Cs lo hi w (.slice (some ⟨gm, 0, none⟩) m m) m (fun _ => k) (fun _ => k) B S) (hL : w.rowIs gm 27 m (fun i => .slice (some ⟨B i, 0, none⟩) k k)) (hm : 1 ≤ m) (hm2 : m ≤ 256) (hk : k ≤ 768) (hCk : C ≤ k) (hS : ∀ i j, S i j < 256) :
    Calls Tryz.prog 159 #[.slice (some ⟨gm, 0, none⟩) m m, .int .i64 (C : Int)] w fun e w' => ∃ pv, e = .returned (.tuple #[pv, .int .u8 ((elm m S C).d : Nat)]) ∧ El lo hi m k gm w w' pv (elm m S C) := by
  have c3 := new_tab w
  go_enter Tryz.func159, Tryz.ntmps159
  go_wp2
  go_step3
  go_wp2_with (go_at_call 89; (with_reducible refine c3.mono ?_); rintro e w9 ⟨rfl, w0, hw9, hs0, ht, hb0⟩; subst hw9)
  go_step3
  go_wp2
  have hhi : hi ≤ w.heap.size := hC.hw
  have hCs : Cs lo hi w0 (.slice (some ⟨gm, 0, none⟩) m m) m (fun _ => k) (fun _ => k) B S := hC.below hb0
  have hlo : lo ≤ w.heap.size := by have := hC.row 0 hm; omega
  have E0 : El lo hi m k gm w w0 (.slice none 0 0) (elm m S 0) := ⟨⟨B, hCs, hL.of_block (hb0.block _ hL.lt)⟩, ht, Gj.start _ _ _, hb0.mono hlo, by omega⟩
  have HM : Hid (hi ≤ w.heap.size ∧ m ≤ 256 ∧ k ≤ 768 ∧ C ≤ k ∧ ∀ c, Red m c S (elm m S c)) := ⟨hhi, hm2, hk, hCk, red_elm hS⟩
  clear c3 hC hL hm hm2 hk hCk hS hs0 ht hb0 hhi hCs hlo
  go_loopg [15, 7, 8] C (fun g s15 s7 s8 wr => ∃ c : Nat, c + g = C ∧ s15 = .int .i64 (c : Int) ∧ s8 = .int .u8 ((elm m S c).d : Nat) ∧ El lo hi m k gm w wr s7 (elm m S c))
  case atStart => exact ⟨0, by omega, rfl, rfl, E0⟩
  case round =>
    obtain ⟨c, hcg, rfl, rfl, hE⟩ := hrel
    clear E0
    cases gk with
    | zero =>
      have hcC : c = C := by omega
      subst hcC
      obtain ⟨a, cap, rfl⟩ := hE.pv.form
      have HE : Hid _ := hE
      clear hE
      obtain ⟨s, hs⟩ : ∃ s, Hid (elm m S c = s) := ⟨_, rfl⟩
      rw [hs.out] at HE ⊢
      go_wp2
      rw [Exit.noGoto_ret]
      go_ret2
      rw [hs.out]
      exact ⟨_, rfl, HE.out⟩
    | succ g =>
      have icC : ((c : Nat) : Int) < (C : Int) := by omega
      have W0 : wrap64 ((c : Int) + 1) = (c : Int) + 1 := wrap_succ8 (by have := HM.out; unfold big; omega)
      have HW : Hid (c + 1 + g = C ∧ c < k) := ⟨by omega, by have := HM.out; omega⟩
      clear hcg
      obtain ⟨a, cap, rfl⟩ := hE.pv.form
      have HR : Hid _ := HM.out.2.2.2.2 c
      by_cases htm : (elm m S c).t = m
      · obtain ⟨s, hs⟩ : ∃ s, Hid (elm m S c = s) := ⟨_, rfl⟩
        have hs2 : Hid (elm m S C = s) := (elm_stop' htm (by have := HW.out; omega)).trans hs.out
        have HE : Hid _ := hE
        clear hE HR
        rw [hs.out] at HE htm ⊢
        go_wp2
        go_step3
        go_wp2
        rw [Exit.noGoto_exit]
        go_wp2
        rw [Exit.noGoto_ret]
        go_ret2
        rw [hs2.out]
        exact ⟨_, rfl, HE.out⟩
      · have htm2 : (elm m S c).t < m := by have := HR.out.tm; omega
        have HE : Hid _ := hE
        have HF : Hid (∀ s', elm m S (c + 1) = s' ↔ stp m c (elm m S c) = s') := fun s' => Iff.rfl
        have HQ : Hid (∀ g' (x : Value) (y : World), c + 1 + g' = C → El lo hi m k gm w y x (stp m c (elm m S c)) → ∃ c', c' + g' = C ∧ Value.int .i64 ((c : Int) + 1) = Value.int .i64 (c' : Nat) ∧ Value.int .u8 ((stp m c (elm m S c)).d : Nat) = Value.int .u8 ((elm m S c').d : Nat) ∧ El lo hi m k gm w y x (elm m S c')) := fun g' x y h1 h2 => ⟨c + 1, h1, rfl, rfl, h2⟩
        have nI : ¬ (((elm m S c).t : Nat) : Int) = (m : Int) := by omega
        clear hE HF htm
        generalize hs : elm m S c = s at HE HR HQ htm2 nI ⊢
        clear hs
        go_wp2
        go_step3
        go_wp2
        go_step3
        go_wp2
        go_loopg [7, 8, 11] (m - s.t) (fun g2 s7 s8 s11 wr2 => ∃ r : Nat, r + g2 = m ∧ s.t ≤ r ∧ s11 = .int .i64 (r : Int) ∧ Hid (∀ i, s.t ≤ i → i < r → s.M i c = 0) ∧ s7 = .slice a s.t cap ∧ s8 = .int .u8 (s.d : Nat) ∧ wr2 = wr)
        case atStart => exact ⟨s.t, by omega, Nat.le_refl _, rfl, fun i h1 h2 => absurd h1 (by omega), rfl, rfl, rfl⟩
        case round =>
          obtain ⟨r, hrg, htr, rfl, hz, rfl, rfl, hw⟩ := hrel
          subst hw
          cases gk with
          | zero =>
            have hrm : r = m := by omega
            subst hrm
            have e1 : stp r c s = s := by
              unfold stp
              rw [if_neg (by omega), if_pos (fr_eq htr (by omega) hz.out (fun h => absurd h (by omega)))]
            rw [e1] at HQ
            clear e1
            go_wp2
            rw [Exit.noGoto_normal]
            go_wp2
            go_roundg g
            case measure => exact Nat.lt_succ_self g
            case rel => rw [W0]; exact HQ.out g _ _ HW.out.1 HE.out
          | succ g2 =>
            have hrm : r < m := by omega
            have irm : ((r : Nat) : Int) < (m : Int) := by omega
            have W1 : wrap64 ((r : Int) + 1) = (r : Int) + 1 := wrap_succ8 (by have := HM.out; unfold big; omega)
            obtain ⟨⟨B0, hC0, hL0⟩, -, -, -, -⟩ := id HE.out
            have q1 := hL0.cell hrm
            have q2 := hC0.cell_ hrm (j := c) HW.out.2
            have ick : ((c : Nat) : Int) < (k : Int) := by have := HW.out; omega
            clear hC0 hL0
            by_cases h0 : s.M r c = 0
            · have hz2 : Hid (∀ i, s.t ≤ i → i < r + 1 → s.M i c = 0) := fun i h1 h2 => by
                by_cases e : i = r
                · rw [e]; exact h0
                · exact hz.out i h1 (by omega)
              have HG : Hid (r + 1 + g2 = m ∧ s.t ≤ r + 1) := ⟨by omega, by omega⟩
              rw [h0] at q2
              clear h0 hrg htr
              go_wp2
              go_roundg g2
              case measure => exact Nat.lt_succ_self g2
              case rel => exact ⟨r + 1, HG.out.1, HG.out.2, by rw [W1]; rfl, hz2, rfl, rfl, rfl⟩
            · have e1 : stp m c s = ⟨clr (scl (swp s.M s.t r) s.t c) s.t c, s.t + 1, fun i => if i = s.t then c else s.P i, fm 285 s.d (s.M r c)⟩ := by
                unfold stp
                rw [if_neg (by omega), fr_eq htr (by omega) hz.out (fun _ => h0), if_neg (by omega)]
              obtain ⟨B, y1, y2, y3, ⟨x4, y4, z4, e4⟩, y5, c5⟩ := HE.out.pivot HM.out.1 htm2 htr hrm HW.out.2 HM.out.2.2.1 HM.out.2.1 HR.out.d1
              subst e4
              unfold swapped at c5
              have c5 := show Calls Tryz.prog _ _ ((wr.setCell ⟨gm, s.t, none⟩ (.slice (some ⟨B r, 0, none⟩) k k)).setCell ⟨gm, r, none⟩ (.slice (some ⟨B s.t, 0, none⟩) k k)).drew _ from c5
              have y4 : ((wr.setCell ⟨gm, s.t, none⟩ (.slice (some ⟨B r, 0, none⟩) k k)).drew).cell? ⟨gm, r, none⟩ = some (.slice z4 k k) := y4
              have y5 : ((wr.setCell ⟨gm, s.t, none⟩ (.slice (some ⟨B r, 0, none⟩) k k)).drew).frozen? ⟨gm, r, none⟩ = false := y5
              have hI : ¬ ((s.M r c : Nat) : Int) = 0 := by omega
              have it : ((s.t : Nat) : Int) < (m : Int) := by omega
              rw [e1] at HQ
              generalize hX : (⟨clr (scl (swp s.M s.t r) s.t c) s.t c, s.t + 1, fun i => if i = s.t then c else s.P i, fm 285 s.d (s.M r c)⟩ : St) = X at c5 HQ
              have hXd : X.d = fm 285 s.d (s.M r c) := by rw [← hX]
              rw [hXd] at HQ
              generalize fm 285 s.d (s.M r c) = D at c5 HQ
              generalize s.M r c = A0 at q2 c5 hI
              clear e1 h0 hX hXd hz HE HR hrg htr htm2
              go_wp2
              refine region_planX (fun w' => w'.cell? ⟨gm, r, none⟩ = some (.slice (some ⟨B r, 0, none⟩) k k) ∧ w'.cell? ⟨gm, s.t, none⟩ = some (.slice (some ⟨B s.t, 0, none⟩) k k)) 12 [2, 3] [12] 70 ⟨y1, y2⟩ (by kernel_rfl) (by kernel_rfl) (fun _ a d v _ h => by cases d <;> exact h) ?_
              refine planT_last ?A2x0 rfl (fun w' hS => ?s2x0) rfl ?n2x0
              case s2x0 =>
                obtain ⟨g1, g2⟩ := hS
                simp only [List.take_succ_cons, List.take_zero]
                repeat still_step
                exact rfl
              case n2x0 =>
              simp only [List.drop_succ_cons, List.drop_zero]
              go_wp2_with (first | (go_at_call 165; (with_reducible refine c5.mono ?_); rintro e w2 ⟨rfl, w3, pv', hrun, c6⟩; clear c5 y1 y2 y3 y4 y5 q1 q2) | (at_builtin; refine Lib.wpList_append_run _ rfl _ _ _ _ rfl _ _ rfl rfl _ _ hrun ?_; clear hrun) | (go_at_call 96; (with_reducible refine c6.mono ?_); rintro e w4 ⟨rfl, hE4⟩; have HE4 : Hid _ := hE4; clear c6 hE4))
              rw [Exit.noGoto_exit]
              go_wp2
              go_roundg g
              case measure => exact Nat.lt_succ_self g
              case rel => rw [W0]; exact HQ.out g _ _ HW.out.1 HE4.out
end Go.Proofs.YtefolifecbhgoaaGreat
namespace Go.Proofs.YtefolifecbhgoaaGreat
open Go.RowKit Gf2
set_option linter.unusedVariables false

theorem Ans.after {w w1 w2 : World} {v : Value} {m c : Nat} {S : Nat → Nat → Nat} (hb : Below w.heap.size w w1) (h : Ans w1 w2 v m c S) : Ans w w2 v m c S := by
  obtain ⟨⟨B, h1⟩, h2⟩ := h
  exact ⟨⟨B, h1.wide hb.size (Nat.le_refl _) (Nat.le_refl _)⟩, hb.trans (h2.mono hb.size)⟩
theorem Lb.head {w : World} {u : Value} {m : Nat} {n : Nat → Nat} {S : Nat → Nat → Nat} (h : Lb w u m n S) (h0 : 0 < m) : ∃ b o cap, u = .slice (some ⟨b, o, none⟩) m cap := by
  obtain ⟨V, ⟨hnb, a, cap, rfl, -, -, h4⟩, hV⟩ := h
  obtain ⟨b, o, rfl, -⟩ := h4 h0
  exact ⟨b, o, cap, rfl⟩
theorem Lb.first {w : World} {b o m cap : Nat} {n : Nat → Nat} {S : Nat → Nat → Nat} (h : Lb w (.slice (some ⟨b, o, none⟩) m cap) m n S) (h0 : 0 < m) : ∃ x y, w.cell? ⟨b, o, none⟩ = some (.slice x (n 0) y) := by
  obtain ⟨V, ⟨hnb, a, cap', e, -, -, h4⟩, hV⟩ := h
  cases e
  obtain ⟨b', o', e, -, hc⟩ := h4 h0
  cases e
  obtain ⟨_, _, x, y, e, _⟩ := hV 0 h0
  have := hc 0 h0
  rw [Nat.add_zero] at this
  exact ⟨x, y, by rw [this, e]⟩
theorem fm_n {m n : Nat} (h1 : 1 ≤ m) (h2 : m ≤ 256) (h3 : 1 ≤ n) (h4 : n ≤ 512) : Fm m (fun _ => n) := ⟨h1, h2, h3, h4, fun _ _ => rfl⟩
theorem bes_lt {l : Nat} {S T : Nat → Nat → Nat} (hS : ∀ i j, S i j < 256) (hT : ∀ i j, T i j < 256) (i j : Nat) : bes l S T i j < 256 := by
  unfold bes
  split
  · exact hS _ _
  · exact hT _ _
theorem bes_t {n : Nat} {S T : Nat → Nat → Nat} : (elm n (bes n S T) n).t = (elm n S n).t := (elm_local (m := n) (C := n) (fun i j _ hj => by unfold bes; rw [if_pos hj]) n (Nat.le_refl _)).1
def sol (n : Nat) (S T : Nat → Nat → Nat) : Nat → Nat → Nat := fun i j => (elm n (bes n S T) n).M i (n + j)
set_option maxHeartbeats 2000000 in
set_option maxRecDepth 100000 in
theorem solution10 (u v : Value) (n k : Nat) (S T : Nat → Nat → Nat) (w : World) (h : Lb w u n (fun _ => n) S) (h' : Lb w v n (fun _ => k) T) (h1 : 1 ≤ n) (h2 : n ≤ 256) (h3 : 1 ≤ k) (h4 : k ≤ 512) (hS : ∀ i j, S i j < 256) (hT : ∀ i j, T i j < 256) :
    Calls Tryz.prog 149 #[u, v] w fun e w' => ((elm n S n).t < n ∧ e = .returned (.tuple #[.slice none 0 0, .int .i64 102]) ∧ Below w.heap.size w w') ∨ ((elm n S n).t = n ∧ ∃ x, e = .returned (.tuple #[x, .int .i64 0]) ∧ Ans w w' x n k (sol n S T)) := by
  have c2 := beside10s u v n n k S T w h h' h1 h2 h1 (by omega) h3 h4
  have c3 : ∀ w1, AnsL w w1 w.heap.size n (n + k) (bes n S T) → Calls Tryz.prog 159 #[.slice (some ⟨w.heap.size, 0, none⟩) n n, .int .i64 (n : Int)] w1 fun e w2 => ∃ pv d, e = .returned (.tuple #[pv, .int .u8 (d : Nat)]) ∧ (∃ a cap, pv = .slice a (elm n S n).t cap) ∧ Below w.heap.size w w2 ∧ (∃ x y, w2.cell? ⟨w.heap.size, 0, none⟩ = some (.slice x (n + k) y)) ∧
      Calls Tryz.prog 160 #[.slice (some ⟨w.heap.size, 0, none⟩) n n, .int .i64 (n : Int), .int .i64 ((n + k : Nat) : Int)] w2 fun e w3 => ∃ x, e = .returned x ∧ Ans w w3 x n k (sol n S T) := fun w1 ⟨⟨B, a1, a2⟩, a3⟩ => by
    refine (elim10 w.heap.size w1.heap.size n (n + k) w.heap.size n B (bes n S T) w1 a1 a2 h1 h2 (by omega) (by omega) (bes_lt hS hT)).mono ?_
    rintro e w2 ⟨pv, rfl, ⟨B', b1, b2⟩, b3, b4, b5, b6⟩
    rw [bes_t] at b4
    refine ⟨pv, _, rfl, b4.form, a3.trans b5, ⟨_, _, b2.cell h1⟩, ?_⟩
    refine (strip10 _ n n (n + k) k (fun _ => n + k) _ w2 b1.lb h1 h2 rfl h3 (by omega) (fun _ _ => Nat.le_refl _)).mono ?_
    rintro e w3 ⟨x, rfl, hx⟩
    exact ⟨x, rfl, hx.after (a3.trans b5)⟩
  obtain ⟨b, o, cap, rfl⟩ := h.head h1
  have hR := (red_elm (m := n) hS n).tm
  have i0 : (0 : Int) < (n : Int) := Int.ofNat_lt.2 h1
  have H3 : Hid _ := c3
  clear h h' h1 h2 h3 h4 hS hT c3
  generalize (elm n S n).t = T0 at H3 hR ⊢
  generalize sol n S T = X at H3 ⊢
  generalize n + k = L at c2 H3
  by_cases hT : T0 < n
  · have iT : ((T0 : Nat) : Int) < (n : Int) := Int.ofNat_lt.2 hT
    have HT : Hid (T0 < n) := hT
    clear hR hT
    go_enter Tryz.func149, Tryz.ntmps149
    go_wp2_with (first
      | (go_at_call 158; (with_reducible refine c2.mono ?_); rintro e w1 ⟨rfl, hA⟩; clear c2; have c3 := H3.out w1 hA; clear hA)
      | (go_at_call 159; (with_reducible refine c3.mono ?_); rintro e w2 ⟨pv, d, rfl, ⟨a, cap', hpv⟩, hA2, z2, c4⟩; subst hpv; clear c3 z2 c4; have HA : Hid _ := hA2; clear hA2))
    go_ret2
    exact .inl ⟨HT.out, rfl, HA.out⟩
  · have eT : T0 = n := Nat.le_antisymm hR (Nat.le_of_not_lt hT)
    subst eT
    clear hR hT
    go_enter Tryz.func149, Tryz.ntmps149
    go_wp2_with (first
      | (go_at_call 158; (with_reducible refine c2.mono ?_); rintro e w1 ⟨rfl, hA⟩; clear c2; have c3 := H3.out w1 hA; clear hA)
      | (go_at_call 159; (with_reducible refine c3.mono ?_); rintro e w2 ⟨pv, d, rfl, ⟨a, cap', hpv⟩, hA2, ⟨x2, y2, z2⟩, c4⟩; subst hpv; clear c3 hA2)
      | (go_at_call 160; (with_reducible refine c4.mono ?_); rintro e w3 ⟨x, rfl, hx⟩; clear c4; have HA : Hid _ := hx; clear hx))
    go_ret2
    exact .inr ⟨by trivial, _, rfl, HA.out⟩
end Go.Proofs.YtefolifecbhgoaaGreat
namespace Go.Proofs.YtefolifecbhgoaaGreat
open Go.RowKit Gf2
set_option linter.unusedVariables false

theorem idm_lt (i j : Nat) : idm i j < 256 := by unfold idm; split <;> decide
theorem solution10_yes (u v : Value) (n k : Nat) (S T : Nat → Nat → Nat) (w : World) (h : Lb w u n (fun _ => n) S) (h' : Lb w v n (fun _ => k) T) (h1 : 1 ≤ n) (h2 : n ≤ 256) (h3 : 1 ≤ k) (h4 : k ≤ 512) (hS : ∀ i j, S i j < 256) (hT : ∀ i j, T i j < 256) (ht : (elm n S n).t = n) :
    Calls Tryz.prog 149 #[u, v] w fun e w' => ∃ x, e = .returned (.tuple #[x, .int .i64 0]) ∧ Ans w w' x n k (sol n S T) :=
  (solution10 u v n k S T w h h' h1 h2 h3 h4 hS hT).mono fun e w' hh => by
    rcases hh with ⟨a1, a2, a3⟩ | ⟨a1, a2⟩
    · omega
    · exact a2
set_option maxHeartbeats 2000000 in
set_option maxRecDepth 100000 in
theorem invert10_yes (u : Value) (n : Nat) (S : Nat → Nat → Nat) (w : World) (h : Lb w u n (fun _ => n) S) (h1 : 1 ≤ n) (h2 : n ≤ 256) (hS : ∀ i j, S i j < 256) (ht : (elm n S n).t = n) :
    Calls Tryz.prog 138 #[u] w fun e w' => ∃ x, e = .returned (.tuple #[x, .int .i64 0]) ∧ Ans w w' x n n (sol n S idm) := by
  have c1 := checkSquare10_yes u n (fun _ => n) S w h (fm_n h1 h2 h1 (by omega)) rfl
  have c2 := ident10_yes n w h1 h2
  have c3 : ∀ w1 v, Ans w w1 v n n idm → Calls Tryz.prog 149 #[u, v] w1 fun e w' => ∃ x, e = .returned (.tuple #[x, .int .i64 0]) ∧ Ans w w' x n n (sol n S idm) := fun w1 v hv => by
    refine (solution10_yes u v n n S idm w1 (h.below hv.2) hv.lb h1 h2 h1 (by omega) hS idm_lt ht).mono ?_
    rintro e w' ⟨x, a2, a3⟩
    exact ⟨x, a2, a3.after hv.2⟩
  obtain ⟨b, o, cap, rfl⟩ := h.head h1
  have H3 : Hid _ := c3
  clear h h1 h2 hS c3 ht
  generalize sol n S idm = X at H3 ⊢
  go_enter Tryz.func138, Tryz.ntmps138
  go_wp2_with (first
    | (go_at_call 148; (with_reducible refine c1.mono ?_); rintro e w9 ⟨rfl, hw9⟩; have hw9 := hw9.symm; subst hw9; clear c1)
    | (go_at_call 146; (with_reducible refine c2.mono ?_); rintro e w1 ⟨v, rfl, hA⟩; clear c2; have c3 := H3.out w1 v hA; clear hA H3)
    | (go_at_call 149; (with_reducible refine c3.mono ?_); rintro e w2 ⟨x, rfl, hx⟩; have HX : Hid _ := hx; clear hx c3))
  go_ret2
  exact ⟨_, rfl, HX.out⟩
end Go.Proofs.YtefolifecbhgoaaGreat
namespace Go.Proofs.YtefolifecbhgoaaGreat
open Go.RowKit Gf2
set_option linter.unusedVariables false

def wg (n s : Nat) : Nat := pr n (fun t => if t = s then 1 else s ^^^ t)
theorem wg_lt (n s : Nat) : wg n s < 256 := pr_lt _ _
theorem wg_skip (n : Nat) : wg (n + 1) n = wg n n := by
  unfold wg
  show fm 285 (pr n _) (if n = n then 1 else n ^^^ n) = _
  rw [if_pos rfl, fld8.fm_one (pr_lt _ _)]
theorem wg_step {n s : Nat} (h : n ≠ s) : wg (n + 1) s = fm 285 (wg n s) (s ^^^ n) := by
  unfold wg
  show fm 285 (pr n _) (if n = s then 1 else s ^^^ n) = _
  rw [if_neg h]
set_option maxHeartbeats 2000000 in
set_option maxRecDepth 100000 in
theorem gapsOf11 (t k s : Nat) (w : World) (ht : Tab8 w t) (hk : k ≤ 256) (hs : s < 256) :
    Calls Tryz.prog 94 #[.pointer (some ⟨t, 0, none⟩), .int .i64 (k : Int), .int .i64 (s : Int)] w fun e w' => e = .returned (.int .u8 (wg k s : Nat)) ∧ ∃ q, w' = w.drewN q := by
  go_enter Tryz.func94, Tryz.ntmps94
  go_wp2
  have HT : Hid (Tab8 w t ∧ k ≤ 256 ∧ s < 256) := ⟨ht, hk, hs⟩
  clear ht hk hs
  go_loopw [7, 10] (fun p i wr => ∃ x q : Nat, x ≤ k ∧ i = .int .i64 x ∧ p = .int .u8 (wg x s : Nat) ∧ Hid (wr = w.drewN q)) (fun _ i _ => k - (intOf i).toNat)
  case atStart => exact ⟨0, 0, Nat.zero_le _, rfl, rfl, rfl⟩
  case round =>
    obtain ⟨x, q, hx, rfl, rfl, hw⟩ := hrel
    by_cases hlt : x < k
    · have ib : ((x : Nat) : Int) < (k : Int) := Int.ofNat_lt.2 hlt
      have W1 := wrap_lt8 (j := x) (b := k) hlt (by have := HT.out; omega)
      have HX : Hid (x < k) := hlt
      by_cases hxs : x = s
      · subst hxs
        have HE : Hid (wg x x = wg (x + 1) x) := (wg_skip x).symm
        generalize hP : wg x x = P0 at HE ⊢
        clear hlt hx hP
        go_wp2
        go_roundw
        case rel => exact ⟨x + 1, q, HX.out, by first | rfl | (rw [W1]; rfl), by rw [HE.out], hw⟩
        case measure => first | exact meas_lt8 HX.out | (rw [W1]; exact meas_lt8 HX.out)
      · have hI : ¬ ((x : Nat) : Int) = ((s : Nat) : Int) := fun e => hxs (Int.ofNat.inj e)
        have hT := HT.out
        have v1 := u8_small (r := s) hT.2.2
        have v2 := u8_small (r := x) (by omega)
        have v3 := u8_xor_nat s x hT.2.2 (by omega)
        have c5 := tmul_nat t (wg x s) (s ^^^ x) wr (by rw [hw.out]; exact hT.1.drewN q) (wg_lt _ _) (xor_lt8 hT.2.2 (by omega))
        have HE : Hid (fm 285 (wg x s) (s ^^^ x) = wg (x + 1) s) := (wg_step hxs).symm
        generalize fm 285 (wg x s) (s ^^^ x) = P1 at c5 HE
        generalize s ^^^ x = z at v3 c5
        generalize hP : wg x s = P0 at c5 ⊢
        clear hlt hx hP hT hxs
        go_wp2_with (go_at_call 96; (with_reducible refine c5.mono ?_); rintro e w8 ⟨rfl, q8, hw8⟩; have H8 : Hid (w8 = wr.drewN q8) := hw8; clear hw8 c5)
        go_roundw
        case rel => exact ⟨x + 1, q + q8, HX.out, by first | rfl | (rw [W1]; rfl), by rw [HE.out], by show _ = _; rw [H8.out, hw.out, World.drewN_drewN]⟩
        case measure => first | exact meas_lt8 HX.out | (rw [W1]; exact meas_lt8 HX.out)
    · have hxk : x = k := Nat.le_antisymm hx (Nat.le_of_not_lt hlt)
      subst hxk
      go_wp2
      go_ret
      exact ⟨rfl, q, hw.out⟩
set_option maxHeartbeats 2000000 in
set_option maxRecDepth 100000 in
theorem check11_yes (f : Int) (k m : Nat) (w : World) (hf : f = 0 ∨ f = 1) (h1 : 1 ≤ k) (h2 : 1 ≤ m) (h3 : k + m ≤ 256) :
    Calls Tryz.prog 50 #[.int .i64 f, .int .i64 (k : Int), .int .i64 (m : Int)] w fun e w' => e = .returned (.int .i64 0) ∧ w' = w := by
  have k1 : decide ((k : Int) < 1) = false := by simp; omega
  have k2 : decide ((m : Int) < 1) = false := by simp; omega
  have W0 := wrap_256 (m := m) (k := k) h1 (by omega)
  have k3 : decide (256 - (k : Int) < (m : Int)) = false := by simp; omega
  clear h1 h2 h3
  rcases hf with rfl | rfl
  · go_enter Tryz.func50, Tryz.ntmps50
    go_wp2
    go_ret
    exact ⟨rfl, rfl⟩
  · go_enter Tryz.func50, Tryz.ntmps50
    go_wp2
    go_ret
    exact ⟨rfl, rfl⟩
end Go.Proofs.YtefolifecbhgoaaGreat
namespace Go.Proofs.YtefolifecbhgoaaGreat
open Go.RowKit Gf2
set_option linter.unusedVariables false

structure Twn (w wr : World) (m : Nat) (n : Nat → Nat) (S : Nat → Nat → Nat) (k : Nat) : Prop where
  sz : wr.heap.size = w.heap.size + 1 + k
  list : wr.rowIs w.heap.size 27 m (fun i => if i < k then .slice (some ⟨w.heap.size + 1 + i, 0, none⟩) (n i) (n i) else .slice none 0 0)
  rows : ∀ i, i < k → Rw wr (w.heap.size + 1 + i) (n i) (S i)
  bel : Below w.heap.size w wr
theorem Twn.start (w : World) (m : Nat) (n : Nat → Nat) (S : Nat → Nat → Nat) : Twn w (w.alloc (.cells (madeCells #[.slice none 0 0] m) 27)) m n S 0 :=
  ⟨by simp, (World.rowIs_made w (.slice none 0 0) m 27).congr (fun i _ => (if_neg (Nat.not_lt_zero _)).symm), fun i hi => absurd hi (Nat.not_lt_zero _), (Below.refl _ _).alloc (Nat.le_refl _) _⟩
def twi (w wr : World) (k c : Nat) : World := (wr.alloc (.cells (madeCells #[.int .u8 0] c) 5)).setCell ⟨w.heap.size, k, none⟩ (.slice (some ⟨wr.heap.size, 0, none⟩) c c)
theorem Twn.mid {w wr : World} {m k : Nat} {n : Nat → Nat} {S : Nat → Nat → Nat} (h : Twn w wr m n S k) (hc : n k ≤ 140737488355328) (hk : k < m) :
    (twi w wr k (n k)).heap.size = w.heap.size + 1 + (k + 1) ∧ (twi w wr k (n k)).rowIs w.heap.size 27 m (fun i => if i < k + 1 then .slice (some ⟨w.heap.size + 1 + i, 0, none⟩) (n i) (n i) else .slice none 0 0) ∧ (∀ i, i < k → Rw (twi w wr k (n k)) (w.heap.size + 1 + i) (n i) (S i)) ∧ Rw (twi w wr k (n k)) wr.heap.size (n k) (fun _ => 0) ∧ Below w.heap.size w (twi w wr k (n k)) := by
  obtain ⟨h1, h2, h3, h4⟩ := h
  have hr := made_rw (n k) hc wr
  have ha : (wr.alloc (.cells (madeCells #[.int .u8 0] (n k)) 5)).rowIs w.heap.size 27 m (fun i => if i < k then .slice (some ⟨w.heap.size + 1 + i, 0, none⟩) (n i) (n i) else .slice none 0 0) := h2.of_block (Below.heap_alloc wr _ _ (by omega))
  have ho : Only w.heap.size (wr.alloc (.cells (madeCells #[.int .u8 0] (n k)) 5)) (twi w wr k (n k)) := (Only.refl _ _).setCell _ _
  refine ⟨by unfold twi; simp [h1]; omega, (ha.set k _).congr (fun i hi => ?_), fun i hi => ?_, ho.kp.rw_ hr (by omega), (h4.alloc (by omega) _).setCell (Nat.le_refl _) _⟩
  · by_cases e : i = k
    · rw [if_pos e, if_pos (by omega), e, h1]
    · rw [if_neg e]
      by_cases e2 : i < k
      · rw [if_pos e2, if_pos (by omega)]
      · rw [if_neg e2, if_neg (by omega)]
  · exact ho.kp.rw_ (rw_alloc (h3 i (by omega)) _) (by omega)
theorem Twn.done {w wr : World} {m k : Nat} {n : Nat → Nat} {S : Nat → Nat → Nat} {x w' : World} {sz : Nat} (hx1 : x.heap.size = w.heap.size + 1 + (k + 1)) (hx2 : x.rowIs w.heap.size 27 m (fun i => if i < k + 1 then .slice (some ⟨w.heap.size + 1 + i, 0, none⟩) (n i) (n i) else .slice none 0 0)) (hx3 : ∀ i, i < k → Rw x (w.heap.size + 1 + i) (n i) (S i)) (hx5 : Below w.heap.size w x)
    (hs : sz = w.heap.size + 1 + k) (ho : Only sz x w') (hr : Rw w' sz (n k) (S k)) : Twn w w' m n S (k + 1) := by
  refine ⟨by rw [ho.2.1]; exact hx1, hx2.of_block (ho.2.2 _ (by omega)), fun i hi => ?_, hx5.trans (ho.below (by omega))⟩
  by_cases e : i = k
  · rw [e, ← hs]; exact hr
  · exact ho.rw_ (hx3 i (by omega)) (by omega)
theorem Twn.cs {w wr : World} {m : Nat} {n : Nat → Nat} {S : Nat → Nat → Nat} (h : Twn w wr m n S m) (hm : m ≤ big) : Cs w.heap.size wr.heap.size wr (.slice (some ⟨w.heap.size, 0, none⟩) m m) m n n (fun i => w.heap.size + 1 + i) S := by
  obtain ⟨h1, h2, h3, h4⟩ := h
  refine ⟨hm, Nat.le_refl _, ⟨_, _, rfl, Nat.le_refl _, hm, fun h0 => ⟨_, rfl, Nat.le_refl _, by omega, fun i hi => by omega, fun i hi => ?_⟩⟩, fun i hi => ⟨by omega, by omega, Nat.le_refl _, h3 i hi⟩, fun i j _ _ e => by omega⟩
  rw [h2.cell hi, if_pos hi]
end Go.Proofs.YtefolifecbhgoaaGreat
namespace Go.Proofs.YtefolifecbhgoaaGreat
open Go.RowKit Gf2
set_option linter.unusedVariables false

def lgr (k : Nat) : Nat → Nat → Nat := fun j i => td (wg k (k + j)) (fm 285 (wg k i) ((k + j) ^^^ i))
theorem lgr_lt (k j i : Nat) : lgr k j i < 256 := td_lt _ _
theorem fill_step {F : Nat → Nat} {c i : Nat} : (if i = c then F c else if i < c then F i else 0) = if i < c + 1 then F i else 0 := by
  by_cases e : i = c
  · rw [if_pos e, if_pos (by omega), e]
  · rw [if_neg e]
    by_cases e2 : i < c
    · rw [if_pos e2, if_pos (by omega)]
    · rw [if_neg e2, if_neg (by omega)]
set_option maxHeartbeats 4000000 in
set_option maxRecDepth 100000 in
theorem lagrange11 (k m : Nat) (w : World) (h1 : 1 ≤ k) (h2 : 1 ≤ m) (h3 : k + m ≤ 256) :
    Calls Tryz.prog 52 #[.int .i64 (k : Int), .int .i64 (m : Int)] w fun e w' => ∃ v, e = .returned v ∧ Ans w w' v m k (lgr k) := by
  have c3 := new_tab w
  have W0 : wrap64 ((k : Int) + (m : Int)) = ((k + m : Nat) : Int) := add_small (by omega) (by omega)
  obtain ⟨L, hL⟩ : ∃ L, Hid (L = k + m) := ⟨_, rfl⟩
  rw [← hL.out] at W0
  have hm8 := make_u8 L (by have := hL.out; omega)
  have hmk := make_rows m (by omega)
  have hmr := make_u8 k (by omega)
  have HN : Hid (1 ≤ k ∧ 1 ≤ m ∧ k + m ≤ 256 ∧ L = k + m) := ⟨h1, h2, h3, hL.out⟩
  clear h1 h2 h3
  go_enter Tryz.func52, Tryz.ntmps52
  go_wp2_with (go_at_call 89; (with_reducible refine c3.mono ?_); rintro e w9 ⟨rfl, w0, hw9, hs0, ht, hb0⟩; subst hw9; clear c3; have HT : Hid (w0.heap.size = w.heap.size + 1 ∧ Tab8 w0 w.heap.size ∧ Below w.heap.size w w0) := ⟨hs0, ht, hb0⟩; clear hs0 ht hb0)
  have HR0 : Hid (Rw (w0.alloc (.cells (madeCells #[.int .u8 0] L) 5)) w0.heap.size L (fun _ => 0)) := made_rw L (by have := HN.out; omega) w0
  clear hm8 W0
  go_loopw [18] (fun i wr => ∃ x : Nat, x ≤ L ∧ i = .int .i64 x ∧ Rw wr w0.heap.size L (fun s => if s < x then wg k s else 0) ∧ Below w0.heap.size w0 wr) (fun i _ => L - (intOf i).toNat)
  case atStart => exact ⟨0, Nat.zero_le _, rfl, HR0.out.congr (fun i _ => (if_neg (Nat.not_lt_zero _)).symm), (Below.refl _ _).alloc (Nat.le_refl _) _⟩
  case round =>
    obtain ⟨x, hx, rfl, hrw, hb⟩ := hrel
    clear HR0
    by_cases hlt : x < L
    · have ib : ((x : Nat) : Int) < (L : Int) := Int.ofNat_lt.2 hlt
      have W1 := wrap_lt8 (j := x) (b := L) hlt (by have := HN.out; omega)
      have c5 := gapsOf11 w.heap.size k x wr (HT.out.2.1.of_heap (hb.block _ (by have := HT.out.1; omega))) (by have := HN.out; omega) (by have := HN.out; omega)
      have HE : Hid (∀ q y, y = wr.drewN q → (∃ z : Nat, y.cell? ⟨w0.heap.size, x, none⟩ = some (.int .u8 (z : Nat))) ∧ y.frozen? ⟨w0.heap.size, x, none⟩ = false ∧ Rw (y.setCell ⟨w0.heap.size, x, none⟩ (.int .u8 (wg k x : Nat))) w0.heap.size L (fun s => if s < x + 1 then wg k s else 0) ∧ Below w0.heap.size w0 (y.setCell ⟨w0.heap.size, x, none⟩ (.int .u8 (wg k x : Nat)))) := fun q y hy => by
        have r1 := hrw.drewN q
        have b1 := below_drewN hb q
        rw [← hy] at r1 b1
        refine ⟨⟨_, r1.2.2.cell hlt⟩, r1.2.2.frozen x, (r1.set x (wg k x) (wg_lt _ _)).congr (fun i _ => ?_), b1.setCell (Nat.le_refl _) _⟩
        by_cases e : i = x
        · rw [if_pos e, if_pos (by omega), e]
        · rw [if_neg e]
          by_cases e2 : i < x
          · rw [if_pos e2, if_pos (by omega)]
          · rw [if_neg e2, if_neg (by omega)]
      have HX : Hid (x < L) := hlt
      generalize wg k x = P0 at c5 HE
      clear hrw hb hlt hx hmk hmr
      go_wp2_with (go_at_call 94; (with_reducible refine c5.mono ?_); rintro e w8 ⟨rfl, q8, hw8⟩; obtain ⟨⟨z5, q5⟩, q6, q7, q7b⟩ := HE.out q8 w8 hw8; have HE2 : Hid (_ ∧ _) := ⟨q7, q7b⟩; clear hw8 q7 q7b HE c5)
      go_roundw
      case rel => exact ⟨x + 1, HX.out, by first | rfl | (rw [W1]; rfl), HE2.out.1, HE2.out.2⟩
      case measure => first | exact meas_lt8 HX.out | (rw [W1]; exact meas_lt8 HX.out)
    · have hxL : x = L := Nat.le_antisymm hx (Nat.le_of_not_lt hlt)
      subst hxL
      have HG : Hid (Rw wr w0.heap.size x (fun s => wg k s) ∧ Below w0.heap.size w0 wr) := ⟨hrw.congr (fun i hi => if_pos hi), hb⟩
      clear hrw hb hlt hx
      go_wp2
      obtain ⟨w3, hw3⟩ : ∃ w3, Hid (wr = w3) := ⟨_, rfl⟩
      have HZ : Hid (Twn w3 (wr.alloc (.cells (madeCells #[.slice none 0 0] m) 27)) m (fun _ => k) (lgr k) 0) := by rw [hw3.out]; exact Twn.start w3 m _ _
      rw [hw3.out] at HZ HG
      rw [hw3.out]
      clear hw3 hmk
      go_loopw [33] (fun j wr => ∃ y : Nat, y ≤ m ∧ j = .int .i64 y ∧ Twn w3 wr m (fun _ => k) (lgr k) y) (fun j _ => m - (intOf j).toNat)
      case atStart => exact ⟨0, Nat.zero_le _, rfl, HZ.out⟩
      case round =>
        obtain ⟨y, hy, rfl, hT⟩ := hrel
        clear HZ
        by_cases hlt : y < m
        · have ib : ((y : Nat) : Int) < (m : Int) := Int.ofNat_lt.2 hlt
          have W1 := wrap_lt8 (j := y) (b := m) hlt (by have := HN.out; omega)
          have ha : (wr.alloc (.cells (madeCells #[.int .u8 0] k) 5)).rowIs w3.heap.size 27 m (fun i => if i < y then .slice (some ⟨w3.heap.size + 1 + i, 0, none⟩) k k else .slice none 0 0) := hT.list.of_block (Below.heap_alloc wr _ _ (by have := hT.sz; omega))
          have q2 := ha.cell hlt
          rw [if_neg (Nat.lt_irrefl _)] at q2
          have q3 := ha.frozen y
          have HM : Hid _ := hT.mid (by have := HN.out; omega) hlt
          have HS : Hid (wr.heap.size = w3.heap.size + 1 + y) := hT.sz
          have HL : Hid (y < m) := hlt
          obtain ⟨wv, hwv⟩ : ∃ wv, Hid (twi w3 wr y k = wv) := ⟨_, rfl⟩
          rw [hwv.out] at HM
          obtain ⟨sz, hsz⟩ : ∃ sz, Hid (wr.heap.size = sz) := ⟨_, rfl⟩
          rw [hsz.out] at HM HS
          have q4 : ((wr.alloc (.cells (madeCells #[.int .u8 0] k) 5)).setCell ⟨w3.heap.size, y, none⟩ (.slice (some ⟨sz, 0, none⟩) k k)).cell? ⟨w3.heap.size, y, none⟩ = some (.slice (some ⟨sz, 0, none⟩) k k) := by
            have e := hwv.out
            unfold twi at e
            rw [hsz.out] at e
            rw [e]
            have := HM.out.2.1.cell hlt
            rw [if_pos (Nat.lt_succ_self y), ← HS.out] at this
            exact this
          rw [← hsz.out] at q4
          clear hT ha hlt hy
          go_wp2
          rw [hsz.out]
          clear q2 q3 q4
          go_loopw [46] (fun j w4 => ∃ c : Nat, c ≤ k ∧ j = .int .i64 c ∧ Only sz wv w4 ∧ Rw w4 sz k (fun t => if t < c then lgr k y t else 0)) (fun j _ => k - (intOf j).toNat)
          case atStart =>
            have e := hwv.out
            unfold twi at e
            rw [hsz.out] at e
            rw [e]
            exact ⟨0, Nat.zero_le _, rfl, Only.refl _ _, HM.out.2.2.2.1.congr (fun i _ => (if_neg (Nat.not_lt_zero _)).symm)⟩
          case round =>
            obtain ⟨c, hc, rfl, ho, hrw⟩ := hrel
            by_cases hct : c < k
            · have hN := HN.out
              have hbz : Below w3.heap.size w3 wr := HM.out.2.2.2.2.trans (ho.below (by have := HS.out; omega))
              have hg3 : w0.heap.size < w3.heap.size := HG.out.1.lt
              have hgr : Rw wr w0.heap.size x (fun s => wg k s) := HG.out.1.of_block (hbz.block _ hg3)
              have q1 : wr.cell? ⟨w3.heap.size, y, none⟩ = some (.slice (some ⟨sz, 0, none⟩) k k) := by
                have := (HM.out.2.1.of_block (ho.2.2 _ (by have := HS.out; omega))).cell HL.out
                rw [if_pos (Nat.lt_succ_self y), ← HS.out] at this
                exact this
              have q2 : wr.cell? ⟨w0.heap.size, k + y, none⟩ = some (.int .u8 (wg k (k + y) : Nat)) := hgr.2.2.cell (i := k + y) (by have := HL.out; omega)
              have q3 : wr.cell? ⟨w0.heap.size, c, none⟩ = some (.int .u8 (wg k c : Nat)) := hgr.2.2.cell (i := c) (by omega)
              have q7 := hrw.2.2.cell hct
              have q8 := hrw.2.2.frozen c
              obtain ⟨F0, hF0⟩ : ∃ F0 : Nat → Nat, Hid (lgr k y = F0) := ⟨_, rfl⟩
              have e6 : Hid (td (wg k (k + y)) (fm 285 (wg k c) ((k + y) ^^^ c)) = F0 c ∧ F0 c < 256) := by
                constructor
                · rw [← hF0.out]; unfold lgr; exact Eq.refl _
                · rw [← hF0.out]; exact lgr_lt _ _ _
              rw [hF0.out] at hrw
              have hset := hrw.set c (F0 c) e6.out.2
              have HE : Hid (∀ q, Only sz wv ((wr.setCell ⟨sz, c, none⟩ (.int .u8 (F0 c : Nat))).drewN q) ∧ Rw ((wr.setCell ⟨sz, c, none⟩ (.int .u8 (F0 c : Nat))).drewN q) sz k (fun t => if t < c + 1 then F0 t else 0)) := fun q => ⟨(ho.trans ((Only.refl sz wr).setCell c _)).drewN q, (hset.congr (fun i _ => fill_step)).drewN q⟩
              have ht0 : Tab8 wr w.heap.size := HT.out.2.1.of_heap ((hbz.block _ (by have := HT.out.1; omega)).trans (HG.out.2.block _ (by have := HT.out.1; omega)))
              have htb : ∀ q, Tab8 (wr.drewN q) w.heap.size := fun q => ht0.of_heap rfl
              have c5 := tmul_nat w.heap.size (wg k c) ((k + y) ^^^ c) wr.drew (ht0.of_heap rfl) (wg_lt _ _) (xor_lt8 (by have := HL.out; omega) (by omega))
              have c6 := fun q => tdiv_all w.heap.size (wg k (k + y)) (fm 285 (wg k c) ((k + y) ^^^ c)) (wr.drewN q) (htb q) (wg_lt _ _) (fm8_lt _ _)
              obtain ⟨x1, hx1⟩ : ∃ x1, Hid (x1 = k + y) := ⟨_, rfl⟩
              have v1 : IntKind.i64.wrap ((k : Int) + (y : Int)) = (x1 : Int) := by have := HL.out; have := hx1.out; unfold IntKind.wrap; simp [IntKind.bits, IntKind.signed]; omega
              have v2 : IntKind.u8.wrap (x1 : Int) = (x1 : Int) := u8_small (r := x1) (by rw [hx1.out]; have := HL.out; omega)
              have v3 := u8_small (r := c) (by omega)
              have v4 := u8_xor_nat x1 c (by rw [hx1.out]; have := HL.out; omega) (by omega)
              rw [show x1 ^^^ c = (k + y) ^^^ c by rw [hx1.out]] at v4
              have ikx : (x1 : Int) < (x : Int) := by have := HL.out; have := hx1.out; omega
              rw [← hx1.out] at q2
              have icx : ((c : Nat) : Int) < (x : Int) := by omega
              have jb : ((c : Nat) : Int) < (k : Int) := Int.ofNat_lt.2 hct
              have W2 := wrap_lt8 (j := c) (b := k) hct (by omega)
              have HX : Hid (c < k) := hct
              rw [e6.out.1] at c6
              generalize F0 c = R0 at c6 HE
              generalize te (fm 285 (wg k c) ((k + y) ^^^ c)) = E0 at c6
              generalize fm 285 (wg k c) ((k + y) ^^^ c) = P1 at c5 c6
              generalize (k + y) ^^^ c = z1 at v4 c5
              rw [← hx1.out] at c6
              generalize wg k x1 = A1 at q2 c6
              generalize wg k c = A2 at q3 c5
              clear hN hbz hg3 hgr htb ht0 hct hc ho hrw hset e6
              have hq7 : ∃ z, wr.cell? ⟨sz, c, none⟩ = some (.int .u8 z) := ⟨_, q7⟩
              clear q7
              obtain ⟨z7, q7⟩ := hq7
              go_wp2
              refine region_planX (fun w' => w'.cell? ⟨w3.heap.size, y, none⟩ = some (.slice (some ⟨sz, 0, none⟩) k k) ∧ w'.cell? ⟨w0.heap.size, x1, none⟩ = some (.int .u8 (A1 : Nat)) ∧ w'.cell? ⟨w0.heap.size, c, none⟩ = some (.int .u8 (A2 : Nat))) 29 [28] [24, 0, 3] 82 ⟨q1, q2, q3⟩ (by kernel_rfl) (by kernel_rfl) (fun _ a d v _ h => by cases d <;> exact h) ?_
              refine planT_step ?A1x0 rfl (fun w' hS => ?s1x0) rfl (fun K hK => ?n1x0)
              case s1x0 =>
                obtain ⟨g1, g2, g3⟩ := hS
                simp only [List.take_succ_cons, List.take_zero]
                repeat still_step
                exact rfl
              case n1x0 =>
              go_simp
              go_wp2_with (go_at_call 96; ((with_reducible refine c5.mono ?_); rintro e w9 ⟨rfl, q, rfl⟩))
              refine hK _ _ ⟨q1, q2, q3⟩ ?_
              clear hK K c5
              refine planT_step ?A2x0 rfl (fun w' hS => ?s2x0) rfl (fun K hK => ?n2x0)
              case s2x0 =>
                simp only [List.take_zero]
                exact rfl
              case n2x0 =>
              go_simp
              go_wp2_with (go_at_call 95; ((with_reducible refine (c6 _).mono ?_); rintro e w9 ⟨rfl, q', rfl⟩))
              refine hK _ _ ⟨q1, q2, q3⟩ ?_
              clear hK K c6
              refine planT_last ?A3x0 rfl (fun w' hS => ?s3x0) rfl ?n3x0
              case s3x0 =>
                simp only [List.take_succ_cons, List.take_zero]
                repeat still_step
                exact rfl
              case n3x0 =>
              simp only [List.drop_succ_cons, List.drop_zero]
              go_wp2
              go_roundw
              case rel => first | exact ⟨c + 1, HX.out, by first | rfl | (rw [W2]; rfl), (HE.out _).1, by rw [hF0.out]; exact (HE.out _).2⟩ | (rw [W2]; (repeat apply Exists.intro); exact ⟨⟨c + 1, HX.out, rfl, (HE.out _).1, by rw [hF0.out]; exact (HE.out _).2⟩, rfl⟩)
              case measure => first | exact meas_lt8 HX.out | (rw [W2]; exact meas_lt8 HX.out)
            · have hck : c = k := Nat.le_antisymm hc (Nat.le_of_not_lt hct)
              subst hck
              have HT2 : Hid (Twn w3 wr m (fun _ => c) (lgr c) (y + 1)) := by
                obtain ⟨m1, m2, m3, m4, m5⟩ := HM.out
                exact Twn.done (wr := wr) m1 m2 m3 m5 HS.out ho (hrw.congr (fun i hi => if_pos hi))
              clear hc hct ho hrw
              go_wp2
              go_roundw
              case rel => exact ⟨y + 1, HL.out, by first | rfl | (rw [W1]; rfl), HT2.out⟩
              case measure => first | exact meas_lt8 HL.out | (rw [W1]; exact meas_lt8 HL.out)
        · have hym : y = m := Nat.le_antisymm hy (Nat.le_of_not_lt hlt)
          subst hym
          have HA : Hid (Ans w wr (.slice (some ⟨w3.heap.size, 0, none⟩) y y) y k (lgr k)) := by
            have h1 := HT.out
            have h2 := HG.out.2
            have h3 : Below w.heap.size w w3 := h1.2.2.trans (h2.mono h1.2.2.size)
            exact (hT.cs (by have := HN.out; unfold big; omega)).ans h3.size (h3.trans (hT.bel.mono h3.size))
          clear hT hy hlt
          go_wp2
          go_ret
          exact ⟨_, rfl, HA.out⟩
end Go.Proofs.YtefolifecbhgoaaGreat
namespace Go.Proofs.YtefolifecbhgoaaGreat
open Go.RowKit Gf2
set_option linter.unusedVariables false

set_option maxHeartbeats 2000000 in
set_option maxRecDepth 100000 in
theorem pick10_yes (u v : Value) (m n k : Nat) (S : Nat → Nat → Nat) (R : Nat → Nat) (w : World) (h : Lb w u m (fun _ => n) S) (hv : Qi w v k (fun i => (R i : Int))) (h1 : 1 ≤ m) (h2 : m ≤ 256) (h3 : 1 ≤ n) (h4 : n ≤ 512) (h5 : 1 ≤ k) (h6 : k ≤ 256) (hR : ∀ i, i < k → R i < m) :
    Calls Tryz.prog 137 #[u, v] w fun e w' => ∃ x, e = .returned (.tuple #[x, .int .i64 0]) ∧ Ans w w' x k n (fun i j => S (R i) j) := by
  have c1 := check10_yes u m (fun _ => n) S w h (fm_n h1 h2 h3 h4)
  have c2 := fun x => within10_yes (k : Int) 256 x (by omega) (by omega)
  have c4 := fun x => zeros10_any k n x (by omega) (by omega)
  obtain ⟨b, o, cap, rfl, hU⟩ := rows10 h h1
  obtain ⟨x0, y0, z0, -⟩ := hU w (Below.refl _ _) 0 h1
  rw [Nat.add_zero] at z0
  obtain ⟨g1, -, a', cap', rfl, -, -, g4⟩ := hv
  obtain ⟨b', o', rfl, hl', hc'⟩ := g4 (by omega)
  have i0 : (0 : Int) < (m : Int) := Int.ofNat_lt.2 h1
  have HK : Hid (k ≤ 1000 ∧ k ≤ big ∧ n ≤ big) := ⟨by omega, by unfold big; omega, by unfold big; omega⟩
  have HU : Hid _ := hU
  have HC : Hid (∀ y, Below w.heap.size w y → ∀ i, i < k → y.cell? ⟨b', o' + i, none⟩ = some (.int .i64 (R i : Int))) := fun y hy i hi => (hy.cell (p := ⟨b', o' + i, none⟩) hl').trans (hc' i hi)
  have HR : Hid _ := hR
  clear h h1 h2 h3 h4 h5 h6 hU hc' g4 hR g1
  go_enter Tryz.func137, Tryz.ntmps137
  go_wp2_with (first | (go_at_call 147; (with_reducible refine c1.mono ?_); rintro e w9 ⟨rfl, hw9⟩; have hw9 := hw9.symm; subst hw9; clear c1) | (go_at_call 91; (with_reducible refine (c2 _).mono ?_); rintro e w9 ⟨rfl, hw9⟩; have hw9 := hw9.symm; subst hw9; clear c2) | (go_at_call 92; (with_reducible refine (c4 _).mono ?_); rintro e w1 ⟨rfl, hz⟩))
  clear c4 z0 i0
  have hC := hz.cs HK.out.2.1 HK.out.2.2
  have hb1 := hz.bel
  clear hz
  generalize hB : (fun i => w.heap.size + 1 + i) = B at hC
  clear hB
  go_loopw [28] (fun i wr => ∃ r : Nat, r ≤ k ∧ i = .int .i64 r ∧ Cs w.heap.size w1.heap.size wr (.slice (some ⟨w.heap.size, 0, none⟩) k k) k (fun _ => n) (fun _ => n) B (fil (fun i j => S (R i) j) (fun _ _ => 0) r 0) ∧ Below w.heap.size w wr) (fun i _ => k - (intOf i).toNat)
  case atStart => exact ⟨0, Nat.zero_le _, rfl, hC.fil_start _, hb1⟩
  case round =>
    obtain ⟨r, hr, rfl, hC', hb'⟩ := hrel
    clear hC hb1
    by_cases hlt : r < k
    · have hRm := HR.out r hlt
      have q0 := HC.out wr hb' r hlt
      obtain ⟨x, cx, q1, hrb⟩ := HU.out wr.drew hb'.drew (R r) hRm
      have q2 : wr.drew.cell? ⟨w.heap.size, r, none⟩ = some (.slice (some ⟨B r, 0, none⟩) n n) := hC'.at_ hlt
      have ib : ((r : Nat) : Int) < (k : Int) := Int.ofNat_lt.2 hlt
      have W1 := wrap_lt8 hlt HK.out.1
      have iR0 : ¬ ((R r : Nat) : Int) < 0 := by omega
      have iR : ((R r : Nat) : Int) < (m : Int) := Int.ofNat_lt.2 hRm
      have iR2 : ¬ (m : Int) ≤ ((R r : Nat) : Int) := by omega
      have HX : Hid (r < k) := hlt
      have hC2 : Cs w.heap.size w1.heap.size wr.drew (.slice (some ⟨w.heap.size, 0, none⟩) k k) k (fun _ => n) (fun _ => n) B (fil (fun i j => S (R i) j) (fun _ _ => 0) r 0) := hC'.drewN 1
      obtain ⟨w5, hrun, hr5, ho5⟩ := copy10 (o := 0) (dl := n) (cap := n) (hC2.row r hlt).2.2.2 hrb (Nat.le_of_eq (Nat.zero_add n)) (Nat.le_refl n)
      have HE : Hid (Cs w.heap.size w1.heap.size w5 (.slice (some ⟨w.heap.size, 0, none⟩) k k) k (fun _ => n) (fun _ => n) B (fil (fun i j => S (R i) j) (fun _ _ => 0) (r + 1) 0) ∧ Below w.heap.size w w5) := ⟨(hC2.turn1 hlt ho5.kp hr5).congr (fun i _ j hj => by
        have hj : j < n := hj
        unfold fil
        by_cases e : i = r
        · subst e
          rw [upn_same, if_pos (by omega)]
          unfold pl
          rw [if_pos (by omega), Nat.sub_zero]
        · rw [upn_other _ _ e]
          by_cases e2 : i < r
          · rw [if_pos (by omega), if_pos (by omega)]
          · rw [if_neg (by omega), if_neg (by omega)]), (below_drewN hb' 1).trans (ho5.kp.below (hC2.row r hlt).1 (below_drewN hb' 1).size)⟩
      generalize R r = rr at q0 q1 iR0 iR iR2
      clear hC' hb' hrb hlt hr hC2 hr5 ho5 HU HC HR hRm
      go_wp2
      refine region_planT (fun w' => w'.cell? ⟨w.heap.size, r, none⟩ = some (.slice (some ⟨B r, 0, none⟩) n n) ∧ w'.cell? ⟨b, o + rr, none⟩ = some (.slice x n cx)) 8 [8] 52 ⟨q2, q1⟩ (by kernel_rfl) (by kernel_rfl) (fun _ a d v _ h => by cases d <;> exact h) ?_
      refine planT_last ?A2x0 rfl (fun w' hS => ?s2x0) rfl ?n2x0
      case s2x0 =>
        obtain ⟨g1, g2⟩ := hS
        simp only [List.take_succ_cons, List.take_zero]
        repeat still_step
        exact rfl
      case n2x0 =>
      simp only [List.drop_succ_cons, List.drop_zero]
      go_wp2
      go_roundw
      case rel => first | exact ⟨r + 1, HX.out, by first | rfl | (rw [W1]; rfl), HE.out.1, HE.out.2⟩ | (rw [W1]; (repeat apply Exists.intro); exact ⟨⟨r + 1, HX.out, rfl, HE.out.1, HE.out.2⟩, rfl⟩)
      case measure => first | exact meas_lt8 HX.out | (rw [W1]; exact meas_lt8 HX.out)
    · have hrm : r = k := Nat.le_antisymm hr (Nat.le_of_not_lt hlt)
      subst hrm
      go_wp2
      go_ret2
      exact ⟨_, rfl, hC'.fil_end.ans (Nat.le_refl _) hb'⟩
end Go.Proofs.YtefolifecbhgoaaGreat
namespace Go.Proofs.YtefolifecbhgoaaGreat
open Go.RowKit Gf2
set_option linter.unusedVariables false

def bdd (m n : Nat) (S : Nat → Nat → Nat) : Nat → Nat → Nat := fun i j => if i < m ∧ j < n then S i j else 0
theorem bdd_in {m n i j : Nat} {S : Nat → Nat → Nat} (h : i < m) (k : j < n) : bdd m n S i j = S i j := if_pos ⟨h, k⟩
theorem Lb.lt_ {w : World} {u : Value} {m : Nat} {n : Nat → Nat} {S : Nat → Nat → Nat} (h : Lb w u m n S) {i j : Nat} (hi : i < m) (hj : j < n i) : S i j < 256 := by
  obtain ⟨V, -, hV⟩ := h
  exact (hV i hi).2.1 j hj
theorem Lb.bdd {w : World} {u : Value} {m n : Nat} {S : Nat → Nat → Nat} (h : Lb w u m (fun _ => n) S) : Lb w u m (fun _ => n) (bdd m n S) ∧ ∀ i j, bdd m n S i j < 256 :=
  ⟨h.congr (fun i hi j hj => (bdd_in hi hj).symm), fun i j => by
    show (if i < m ∧ j < n then S i j else 0) < 256
    split
    · exact h.lt_ (by omega) (by show j < n; omega)
    · decide⟩
end Go.Proofs.YtefolifecbhgoaaGreat
namespace Go.Proofs.YtefolifecbhgoaaGreat
open Go.RowKit Gf2
set_option linter.unusedVariables false

theorem sol_inverse {n : Nat} {S : Nat → Nat → Nat} (hS : ∀ i j, S i j < 256) (ht : (elm n S n).t = n) : (∀ r i, r < n → i < n → mm n (sol n S idm) S r i = idm r i) ∧ ∀ r i, r < n → i < n → mm n S (sol n S idm) r i = idm r i := by
  have R := red_elm (m := n) (M := bes n S idm) (bes_lt hS idm_lt) n
  have full := R.full (by rw [bes_t]; exact ht)
  exact R.like.inverse (fun i j _ hj => if_pos hj) (fun i j _ _ => by show bes n S idm i (n + j) = idm i j; unfold bes; rw [if_neg (by omega), Nat.add_sub_cancel_left]) full (fun i j _ _ => rfl) hS (fun i j => R.lt i (n + j))
end Go.Proofs.YtefolifecbhgoaaGreat
