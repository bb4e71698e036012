import Derived.Test.YtgdnjbaohfiijaaDoorRj7
import Derived.Test.YtgdnjbaohfiijaaDoorRj5
import Derived.Test.YtgdnjbaohfiijaaDoorRop
import Derived.Test.YtgdnjbaohfiijaaDoorAj6
namespace Go.Proofs.YtgdnjbaohfiijaaDoor
open Go.RowKit Gf2
set_option linter.unusedVariables false

-- layer 14: what inPlace holds behind its calls (laid by wip/genrha.py)
structure Ip (w0 wr : World) (gr gw gt nr i : Nat) (L : Nat → Nat) (P : Nat → Nat → Nat) (B C : Nat → Nat) (G : Nat → Nat → Nat) (Bt Ct : Nat → Nat) (Gt : Nat → Nat → Nat) (gl : Nat) : Prop where
  bel : Below w0.heap.size w0 wr
  cel : ∀ j, j < nr → wr.cell? ⟨gr, j, none⟩ = some (.slice (some ⟨B j, 0, none⟩) (L j) (C j)) ∧ wr.cell? ⟨gw, j, none⟩ = some (.slice (some ⟨B j, 0, none⟩) (L j) (C j)) ∧ wr.cell? ⟨gt, j, none⟩ = some (.slice (some ⟨Bt j, 0, none⟩) (L j) (Ct j))
  row : ∀ j, j < nr → R6 wr (B j) (C j) (G j) ∧ L j + 3 ≤ C j ∧ G j (L j) = 71 ∧ G j (L j + 1) = 72 ∧ G j (L j + 2) = 73
  cur : ∀ j, j < nr → i ≤ j → ∀ x, x < L j → G j x = P j x
  wnt : ∀ j, j < nr → R6 wr (Bt j) (Ct j) (Gt j) ∧ L j ≤ Ct j ∧ ∀ x, x < L j → Gt j x = P j x
  lstc : wr.cell? ⟨gr, nr, none⟩ = some (.slice (some ⟨gl, 0, none⟩) 1 1)
  last : R6 wr gl 1 (fun _ => 74)
  inj : ∀ j j', j < nr → j' < nr → B j = B j' → j = j'
  ord : ∀ j, j < nr → w0.heap.size ≤ B j ∧ gr < B j ∧ B j < gl ∧ B j < gw ∧ B j < gt ∧ ∀ y, y < nr → B j < Bt y
  lts : gr < wr.heap.size ∧ gw < wr.heap.size ∧ gt < wr.heap.size
theorem Ip.drewN {w0 wr : World} {gr gw gt nr i : Nat} {L : Nat → Nat} {P : Nat → Nat → Nat} {B C : Nat → Nat} {G : Nat → Nat → Nat} {Bt Ct : Nat → Nat} {Gt : Nat → Nat → Nat} {gl : Nat} (h : Ip w0 wr gr gw gt nr i L P B C G Bt Ct Gt gl) (m : Nat) : Ip w0 (wr.drewN m) gr gw gt nr i L P B C G Bt Ct Gt gl :=
  ⟨below_drewN h.bel m, h.cel, fun j hj => ⟨(h.row j hj).1.drewN m, (h.row j hj).2⟩, h.cur, fun j hj => ⟨(h.wnt j hj).1.drewN m, (h.wnt j hj).2⟩, h.lstc, h.last.drewN m, h.inj, h.ord, h.lts⟩
/-- row i has turned, its marks stand. -/
theorem Ip.next {w0 wr w' : World} {gr gw gt nr i : Nat} {L : Nat → Nat} {P : Nat → Nat → Nat} {B C : Nat → Nat} {G : Nat → Nat → Nat} {Bt Ct : Nat → Nat} {Gt : Nat → Nat → Nat} {gl : Nat} (h : Ip w0 wr gr gw gt nr i L P B C G Bt Ct Gt gl) (hi : i < nr) (k : Kp (B i) wr w') {G' : Nat → Nat} (hr : R6 w' (B i) (C i) G') (hm : ∀ x, L i ≤ x → x < C i → G' x = G i x) :
    Ip w0 w' gr gw gt nr (i + 1) L P B C (fun j => if j = i then G' else G j) Bt Ct Gt gl := by
  obtain ⟨o1, o2, o3, o4, o5, o6⟩ := h.ord i hi
  obtain ⟨l1, l2, l3⟩ := h.lts
  refine ⟨h.bel.trans (k.below o1 h.bel.size), fun j hj => ?_, fun j hj => ?_, fun j hj hij x hx => ?_, fun j hj => ⟨(h.wnt j hj).1.kp k (Ne.symm (Nat.ne_of_lt (o6 j hj))), (h.wnt j hj).2⟩, (k.cell l1 (Nat.ne_of_lt o2)).trans h.lstc, h.last.kp k (Ne.symm (Nat.ne_of_lt o3)), h.inj, h.ord, Nat.lt_of_lt_of_le l1 k.size, Nat.lt_of_lt_of_le l2 k.size, Nat.lt_of_lt_of_le l3 k.size⟩
  · obtain ⟨c1, c2, c3⟩ := h.cel j hj
    exact ⟨(k.cell l1 (Nat.ne_of_lt o2)).trans c1, (k.cell l2 (Ne.symm (Nat.ne_of_lt o4))).trans c2, (k.cell l3 (Ne.symm (Nat.ne_of_lt o5))).trans c3⟩
  · by_cases e : j = i
    · subst e
      simp only [if_true]
      obtain ⟨a1, a2, a3, a4, a5⟩ := h.row j hj
      exact ⟨hr, a2, (hm _ (by omega) (by omega)).trans a3, (hm _ (by omega) (by omega)).trans a4, (hm _ (by omega) (by omega)).trans a5⟩
    · simp only [if_neg e]
      obtain ⟨a1, a2⟩ := h.row j hj
      exact ⟨a1.kp k (fun e2 => e (h.inj j i hj hi e2)), a2⟩
  · have e : j ≠ i := by omega
    simp only [if_neg e]
    exact h.cur j hj (by omega) x hx
theorem ip_make {w0 w1 w2 w3 w4 : World} {gr gw gt nr gl : Nat} {L : Nat → Nat} {F P : Nat → Nat → Nat} {B C : Nat → Nat} {G G' : Nat → Nat → Nat} {Bt Ct : Nat → Nat} {Gt : Nat → Nat → Nat}
    (hla : La14 w0 w1 gr nr L F B C G gl) (h0 : w0.heap.size ≤ gr) (hgw : w1.heap.size ≤ gw) (b2 : Below w1.heap.size w1 w2) (hgwl : gw < w2.heap.size) (hcw : ∀ j, j < nr → w2.cell? ⟨gw, j, none⟩ = some (.slice (some ⟨B j, 0, none⟩) (L j) (C j))) (hgt : w2.heap.size ≤ gt) (hlr : Lr w2 w3 gt nr nr L P false Bt Ct Gt) (hk : Kx (Eb B nr) w3 w4)
    (hr : ∀ j, j < nr → R6 w4 (B j) (C j) (G' j)) (hm : ∀ j, j < nr → ∀ x, L j ≤ x → x < C j → G' j x = G j x) (hP : ∀ j, j < nr → ∀ x, x < L j → G' j x = P j x) : Ip w0 w4 gr gw gt nr 0 L P B C G' Bt Ct Gt gl := by
  have b3 := hlr.bel
  have lg := hla.lst.lt
  have ll := hla.last.lt
  have bB : ∀ j, j < nr → B j < w1.heap.size := fun j hj => (hla.row j hj).1.lt
  have s2 := b2.size
  have s3 := b3.size
  have gtl := hlr.lst.lt
  have hE : ∀ x, Eb B nr x → gr < x ∧ x < gl := fun x ⟨u, hu, e⟩ => e ▸ ⟨(hla.row u hu).2.2.1, hla.dif u hu⟩
  have nE : ∀ x, x ≤ gr ∨ gl ≤ x → ¬ Eb B nr x := fun x hx e => by have := hE x e; omega
  have up : ∀ x, x < w1.heap.size → ¬ Eb B nr x → ∀ q, w4.cell? ⟨x, q, none⟩ = w1.cell? ⟨x, q, none⟩ := fun x hx hn q => by
    rw [hk.cell (by omega) hn, b3.cell (p := ⟨x, q, none⟩) (by show x < w2.heap.size; omega), b2.cell (p := ⟨x, q, none⟩) hx]
  have b03 : Below w0.heap.size w0 w3 := bthen13 (bthen13 hla.bel b2) b3
  refine ⟨b03.trans (hk.below (fun x e => by have := hE x e; omega) b03.size), fun j hj => ?_, fun j hj => ?_, fun j hj _ x hx => hP j hj x hx, fun j hj => ?_, ?_, ?_, hla.inj, fun j hj => ?_, by have := hk.size; omega, by have := hk.size; omega, by have := hk.size; omega⟩
  · refine ⟨?_, ?_, ?_⟩
    · rw [up gr lg (nE gr (.inl (Nat.le_refl _)))]
      have h9 := hla.lst.cell (i := j) (by omega)
      rw [if_pos hj] at h9
      exact h9
    · rw [hk.cell (by omega) (nE gw (.inr (by omega))), b3.cell (p := ⟨gw, j, none⟩) hgwl]
      exact hcw j hj
    · rw [hk.cell gtl (nE gt (.inr (by omega)))]
      have h9 := hlr.lst.cell (i := j) hj
      rw [if_pos hj] at h9
      exact h9
  · obtain ⟨a1, a2, a3, a4, a5, a6, a7⟩ := hla.row j hj
    exact ⟨hr j hj, a2, (hm j hj _ (by omega) (by omega)).trans a5, (hm j hj _ (by omega) (by omega)).trans a6, (hm j hj _ (by omega) (by omega)).trans a7⟩
  · obtain ⟨a1, a2, a3, a4, -⟩ := hlr.row j hj
    exact ⟨a1.kx hk (nE _ (.inr (by omega))), a2, a4⟩
  · rw [up gr lg (nE gr (.inl (Nat.le_refl _)))]
    have h9 := hla.lst.cell (i := nr) (by omega)
    rw [if_neg (Nat.lt_irrefl _)] at h9
    exact h9
  · exact ((hla.last.below b2).below b3).kx hk (nE _ (.inr (Nat.le_refl _)))
  · have h1 := (hla.row j hj).2.2.1
    have h2 := hla.dif j hj
    exact ⟨by omega, h1, h2, by omega, by omega, fun y hy => by have := (hlr.row y hy).2.2.1; omega⟩

theorem ip_calls_fwd (w0 : World) (hC : Cab w0) (hT : Tzt w0) (A : Option Addr) (gb ob nr cr : Nat) (X : Nat → Option Addr) (L Cx : Nat → Nat) (F : Nat → Nat → Nat) (s : Int) (hA : 0 < nr → A = some ⟨gb, ob, none⟩) (h : Ri14 w0 gb ob nr X L Cx F) (hn : 24 * nr ≤ 140737488351232) :
    Calls Tryd.prog 36 #[.slice A nr cr] w0 fun e w1 => ∃ gr, e = .returned (.slice (some ⟨gr, 0, none⟩) nr (nr + 1)) ∧ Below w0.heap.size w0 w1 ∧
      ∃ gw Cw w2, (Builtin.append_ #[27, 27] 27 #[.slice (some ⟨w1.heap.size, 0, none⟩) 0 0, .slice (some ⟨gr, 0, none⟩) nr (nr + 1)]).run Tryd.prog (w1.alloc (.cells #[] 26)) = .ok (.slice (some ⟨gw, 0, none⟩) nr Cw) w2 ∧ Below w0.heap.size w0 w2 ∧
      Calls Tryd.prog 37 #[.slice A nr cr, .int .i64 s, .bool false] w2 fun e w3 => ∃ gt z, e = .returned (.tuple #[.slice (some ⟨gt, 0, none⟩) nr nr, .int .i64 z]) ∧ Below w0.heap.size w0 w3 ∧
      Calls Tryd.prog 11 #[.slice (some ⟨gr, 0, none⟩) nr (nr + 1), .int .i64 s] w3 fun e w4 => e = .returned (.int .i64 z) ∧ Hid (∃ P B C G Bt Ct Gt gl, Ip w0 w4 gr gw gt nr 0 L P B C G Bt Ct Gt gl) := by
  refine (laidRows14 A gb ob nr cr X L Cx F w0 hA h hn).mono fun e w1 ⟨gr, B, C, G, gl, he, hgr, hla⟩ => ⟨gr, he, hla.bel, ?_⟩
  have hcl : ∀ j, j < nr → w1.cell? ⟨gr, j, none⟩ = some (.slice (some ⟨B j, 0, none⟩) (L j) (C j)) := fun j hj => by
    have h9 := hla.lst.cell (i := j) (by omega)
    rw [if_pos hj] at h9
    exact h9
  obtain ⟨w2, gw, Cw, run, hCw, hgw, hgwl, hcw, b2⟩ := app_rows14 w1 (b := gr) (n := nr) (cx := nr + 1) (U := fun j => .slice (some ⟨B j, 0, none⟩) (L j) (C j)) hla.lst.lt hcl (fun i hi => rfl) (by omega)
  have b02 := bthen13 hla.bel b2
  refine ⟨gw, Cw, w2, run, b02, ?_⟩
  have hr2 := h.below b02
  have old : ∀ {P : Nat → Nat → Nat} {w3 : World} {gt : Nat} {Bt Ct : Nat → Nat} {Gt : Nat → Nat → Nat}, w2.heap.size ≤ gt → Lr w2 w3 gt nr nr L F false Bt Ct Gt → Ip w0 w3 gr gw gt nr 0 L F B C G Bt Ct Gt gl := fun {P w3 gt Bt Ct Gt} hgt hlr =>
    ip_make hla hgr hgw b2 hgwl hcw hgt hlr (Kx.refl _ _) (fun j hj => ((hla.row j hj).1.below b2).below hlr.bel) (fun j hj x _ _ => rfl) (fun j hj x hx => (hla.row j hj).2.2.2.1 x hx)
  have cel3 : ∀ {w3 : World}, Below w2.heap.size w2 w3 → ∀ j, j < nr → w3.cell? ⟨gr, 0 + j, none⟩ = some (.slice (some ⟨B j, 0, none⟩) (L j) (C j)) := fun {w3} b3 j hj => by
    rw [b3.cell (p := ⟨gr, 0 + j, none⟩) (Nat.lt_of_lt_of_le hla.lst.lt b2.size), b2.cell (p := ⟨gr, 0 + j, none⟩) hla.lst.lt, Nat.zero_add]
    exact hcl j hj
  by_cases hp : pw2 nr 65536
  · obtain ⟨k, hk, hm⟩ := hp
    have hk6 := pow16 hk hm
    have h0 : 0 < nr := by rw [hk]; exact Nat.two_pow_pos k
    by_cases hu : ∃ r, r < nr ∧ L r ≠ L 0
    · obtain ⟨r, hr1, hr2', hr3⟩ : ∃ r, r < nr ∧ L r ≠ L 0 ∧ ∀ i, i < r → L i = L 0 := by
        obtain ⟨r, hr, he⟩ := hu
        have key : ∀ n r, r ≤ n → r < nr → L r ≠ L 0 → ∃ r, r < nr ∧ L r ≠ L 0 ∧ ∀ i, i < r → L i = L 0 := by
          intro n
          induction n with
          | zero => intro r h1 h2 h3; exact ⟨r, h2, h3, fun i hi => by omega⟩
          | succ n ih =>
            intro r h1 h2 h3
            by_cases h4 : ∃ i, i < r ∧ L i ≠ L 0
            · obtain ⟨i, h5, h6⟩ := h4
              exact ih i (by omega) (by omega) h6
            · exact ⟨r, h2, h3, fun i hi => Classical.byContradiction (fun e => h4 ⟨i, hi, e⟩)⟩
        exact key r r (Nat.le_refl _) hr he
      refine (refRows14_lens A gb ob nr cr X L Cx F s false w2 hA hr2 hn k hk hk6 r hr1 hr2').mono fun e w3 ⟨gt, he, hgt, Bt, Ct, Gt, hlr⟩ => ⟨gt, 6, he, bthen13 b02 hlr.bel, ?_⟩
      refine (fwr14_no _ s 6 w3 (chkRows14_uneven s k nr (nr + 1) gr 0 r (fun j => some ⟨B j, 0, none⟩) L C w3 (cel3 hlr.bel) hr1 hr2' hr3 hk hm) (by decide)).mono fun e w4 ⟨he, hw⟩ => ⟨he, ?_⟩
      rw [hw]
      exact ⟨F, B, C, G, Bt, Ct, Gt, gl, old (P := F) hgt hlr⟩
    · have hev : ∀ j, j < nr → L j = L 0 := fun j hj => Classical.byContradiction (fun e => hu ⟨j, hj, e⟩)
      by_cases hs : Beg s nr nr
      · obtain ⟨S, rfl, hd, hsS⟩ := beg_nat hs
        refine (refRows14_fwd A gb ob nr cr (L 0) S X L Cx F w2 hA hr2 hn k hk hk6 h0 hev rfl hd hsS).mono fun e w3 ⟨gt, he, hgt, Bt, Ct, Gt, hlr⟩ => ⟨gt, 0, he, bthen13 b02 hlr.bel, ?_⟩
        have b3 := hlr.bel
        have len0 := h.len 0 h0
        have hRw : Rw w3 gr 0 nr (L 0) B C (fun i x => if i < nr ∧ x < C i then G i x else F i x) := ⟨fun i hi => by rw [cel3 b3 i hi, hev i hi], fun i hi => (((hla.row i hi).1.below b2).below b3).congr (fun x hx => by rw [if_pos ⟨hi, hx⟩]), fun i hi => by have := (hla.row i hi).2.1; rw [hev i hi] at this; omega, hla.inj, fun i hi => Ne.symm (Nat.ne_of_lt (hla.row i hi).2.2.1), Nat.lt_of_lt_of_le hla.lst.lt (Nat.le_trans b2.size b3.size)⟩
        have hGF : ∀ x, x < L 0 → (fun i => if i < nr ∧ x < C i then G i x else F i x) = fun i => F i x := fun x hx => by
          funext i
          by_cases hi : i < nr ∧ x < C i
          · rw [if_pos hi]; exact (hla.row i hi.1).2.2.2.1 x (by rw [hev i hi.1]; exact hx)
          · rw [if_neg hi]
        refine (fwr14 k nr (L 0) S gr 0 (nr + 1) B C _ w0 w3 ⟨hC, hT, bthen13 b02 b3⟩ (fun x ⟨u, hu, e⟩ => by have := (hla.row u hu).2.2.1; omega) hRw hk6 hk hd hsS (by omega)).mono fun e w4 ⟨he, hR4, hK⟩ => ⟨he, ?_⟩
        refine ⟨_, B, C, _, Bt, Ct, Gt, gl, ip_make hla hgr hgw b2 hgwl hcw hgt hlr hK (fun j hj => hR4.row j hj) (fun j hj x h1 h2 => ?_) (fun j hj x hx => ?_)⟩
        · unfold cw
          rw [if_neg (by rw [hev j hj] at h1; omega)]
          show (if j < nr ∧ x < C j then G j x else F j x) = G j x
          rw [if_pos ⟨hj, h2⟩]
        · rw [hev j hj] at hx
          unfold cw
          rw [if_pos hx, if_pos hx, hGF x hx]
      · refine (refRows14_coset A gb ob nr cr X L Cx F s false w2 hA hr2 hn k hk hk6 h0 hev hs).mono fun e w3 ⟨gt, he, hgt, Bt, Ct, Gt, hlr⟩ => ⟨gt, 140, he, bthen13 b02 hlr.bel, ?_⟩
        have c9 := chkRows14_even s k nr (nr + 1) gr 0 (L 0) (fun j => some ⟨B j, 0, none⟩) L C w3 (cel3 hlr.bel) hev hk hm
        rw [if_neg hs] at c9
        refine (fwr14_no _ s 140 w3 c9 (by decide)).mono fun e w4 ⟨he, hw⟩ => ⟨he, ?_⟩
        rw [hw]
        exact ⟨F, B, C, G, Bt, Ct, Gt, gl, old (P := F) hgt hlr⟩
  · refine (refRows14_pow A gb ob nr cr X L Cx F s false w2 hA hr2 hn hp).mono fun e w3 ⟨gt, he, hgt, Bt, Ct, Gt, hlr⟩ => ⟨gt, 130, he, bthen13 b02 hlr.bel, ?_⟩
    refine (fwr14_no _ s 130 w3 (chkRows14_no s nr (nr + 1) _ hp (by omega) w3) (by decide)).mono fun e w4 ⟨he, hw⟩ => ⟨he, ?_⟩
    rw [hw]
    exact ⟨F, B, C, G, Bt, Ct, Gt, gl, old (P := F) hgt hlr⟩

theorem ip_calls_inv (w0 : World) (hC : Cab w0) (hT : Tzt w0) (A : Option Addr) (gb ob nr cr : Nat) (X : Nat → Option Addr) (L Cx : Nat → Nat) (F : Nat → Nat → Nat) (s : Int) (hA : 0 < nr → A = some ⟨gb, ob, none⟩) (h : Ri14 w0 gb ob nr X L Cx F) (hn : 24 * nr ≤ 140737488351232) :
    Calls Tryd.prog 36 #[.slice A nr cr] w0 fun e w1 => ∃ gr, e = .returned (.slice (some ⟨gr, 0, none⟩) nr (nr + 1)) ∧ Below w0.heap.size w0 w1 ∧
      ∃ gw Cw w2, (Builtin.append_ #[27, 27] 27 #[.slice (some ⟨w1.heap.size, 0, none⟩) 0 0, .slice (some ⟨gr, 0, none⟩) nr (nr + 1)]).run Tryd.prog (w1.alloc (.cells #[] 26)) = .ok (.slice (some ⟨gw, 0, none⟩) nr Cw) w2 ∧ Below w0.heap.size w0 w2 ∧
      Calls Tryd.prog 37 #[.slice A nr cr, .int .i64 s, .bool true] w2 fun e w3 => ∃ gt z, e = .returned (.tuple #[.slice (some ⟨gt, 0, none⟩) nr nr, .int .i64 z]) ∧ Below w0.heap.size w0 w3 ∧
      Calls Tryd.prog 38 #[.slice (some ⟨gr, 0, none⟩) nr (nr + 1), .int .i64 s] w3 fun e w4 => e = .returned (.int .i64 z) ∧ Hid (∃ P B C G Bt Ct Gt gl, Ip w0 w4 gr gw gt nr 0 L P B C G Bt Ct Gt gl) := by
  refine (laidRows14 A gb ob nr cr X L Cx F w0 hA h hn).mono fun e w1 ⟨gr, B, C, G, gl, he, hgr, hla⟩ => ⟨gr, he, hla.bel, ?_⟩
  have hcl : ∀ j, j < nr → w1.cell? ⟨gr, j, none⟩ = some (.slice (some ⟨B j, 0, none⟩) (L j) (C j)) := fun j hj => by
    have h9 := hla.lst.cell (i := j) (by omega)
    rw [if_pos hj] at h9
    exact h9
  obtain ⟨w2, gw, Cw, run, hCw, hgw, hgwl, hcw, b2⟩ := app_rows14 w1 (b := gr) (n := nr) (cx := nr + 1) (U := fun j => .slice (some ⟨B j, 0, none⟩) (L j) (C j)) hla.lst.lt hcl (fun i hi => rfl) (by omega)
  have b02 := bthen13 hla.bel b2
  refine ⟨gw, Cw, w2, run, b02, ?_⟩
  have hr2 := h.below b02
  have old : ∀ {P : Nat → Nat → Nat} {w3 : World} {gt : Nat} {Bt Ct : Nat → Nat} {Gt : Nat → Nat → Nat}, w2.heap.size ≤ gt → Lr w2 w3 gt nr nr L F false Bt Ct Gt → Ip w0 w3 gr gw gt nr 0 L F B C G Bt Ct Gt gl := fun {P w3 gt Bt Ct Gt} hgt hlr =>
    ip_make hla hgr hgw b2 hgwl hcw hgt hlr (Kx.refl _ _) (fun j hj => ((hla.row j hj).1.below b2).below hlr.bel) (fun j hj x _ _ => rfl) (fun j hj x hx => (hla.row j hj).2.2.2.1 x hx)
  have cel3 : ∀ {w3 : World}, Below w2.heap.size w2 w3 → ∀ j, j < nr → w3.cell? ⟨gr, 0 + j, none⟩ = some (.slice (some ⟨B j, 0, none⟩) (L j) (C j)) := fun {w3} b3 j hj => by
    rw [b3.cell (p := ⟨gr, 0 + j, none⟩) (Nat.lt_of_lt_of_le hla.lst.lt b2.size), b2.cell (p := ⟨gr, 0 + j, none⟩) hla.lst.lt, Nat.zero_add]
    exact hcl j hj
  by_cases hp : pw2 nr 65536
  · obtain ⟨k, hk, hm⟩ := hp
    have hk6 := pow16 hk hm
    have h0 : 0 < nr := by rw [hk]; exact Nat.two_pow_pos k
    by_cases hu : ∃ r, r < nr ∧ L r ≠ L 0
    · obtain ⟨r, hr1, hr2', hr3⟩ : ∃ r, r < nr ∧ L r ≠ L 0 ∧ ∀ i, i < r → L i = L 0 := by
        obtain ⟨r, hr, he⟩ := hu
        have key : ∀ n r, r ≤ n → r < nr → L r ≠ L 0 → ∃ r, r < nr ∧ L r ≠ L 0 ∧ ∀ i, i < r → L i = L 0 := by
          intro n
          induction n with
          | zero => intro r h1 h2 h3; exact ⟨r, h2, h3, fun i hi => by omega⟩
          | succ n ih =>
            intro r h1 h2 h3
            by_cases h4 : ∃ i, i < r ∧ L i ≠ L 0
            · obtain ⟨i, h5, h6⟩ := h4
              exact ih i (by omega) (by omega) h6
            · exact ⟨r, h2, h3, fun i hi => Classical.byContradiction (fun e => h4 ⟨i, hi, e⟩)⟩
        exact key r r (Nat.le_refl _) hr he
      refine (refRows14_lens A gb ob nr cr X L Cx F s true w2 hA hr2 hn k hk hk6 r hr1 hr2').mono fun e w3 ⟨gt, he, hgt, Bt, Ct, Gt, hlr⟩ => ⟨gt, 6, he, bthen13 b02 hlr.bel, ?_⟩
      refine (ivr14_no _ s 6 w3 (chkRows14_uneven s k nr (nr + 1) gr 0 r (fun j => some ⟨B j, 0, none⟩) L C w3 (cel3 hlr.bel) hr1 hr2' hr3 hk hm) (by decide)).mono fun e w4 ⟨he, hw⟩ => ⟨he, ?_⟩
      rw [hw]
      exact ⟨F, B, C, G, Bt, Ct, Gt, gl, old (P := F) hgt hlr⟩
    · have hev : ∀ j, j < nr → L j = L 0 := fun j hj => Classical.byContradiction (fun e => hu ⟨j, hj, e⟩)
      by_cases hs : Beg s nr nr
      · obtain ⟨S, rfl, hd, hsS⟩ := beg_nat hs
        refine (refRows14_inv A gb ob nr cr (L 0) S X L Cx F w2 hA hr2 hn k hk hk6 h0 hev rfl hd hsS).mono fun e w3 ⟨gt, he, hgt, Bt, Ct, Gt, hlr⟩ => ⟨gt, 0, he, bthen13 b02 hlr.bel, ?_⟩
        have b3 := hlr.bel
        have len0 := h.len 0 h0
        have hRw : Rw w3 gr 0 nr (L 0) B C (fun i x => if i < nr ∧ x < C i then G i x else F i x) := ⟨fun i hi => by rw [cel3 b3 i hi, hev i hi], fun i hi => (((hla.row i hi).1.below b2).below b3).congr (fun x hx => by rw [if_pos ⟨hi, hx⟩]), fun i hi => by have := (hla.row i hi).2.1; rw [hev i hi] at this; omega, hla.inj, fun i hi => Ne.symm (Nat.ne_of_lt (hla.row i hi).2.2.1), Nat.lt_of_lt_of_le hla.lst.lt (Nat.le_trans b2.size b3.size)⟩
        have hGF : ∀ x, x < L 0 → (fun i => if i < nr ∧ x < C i then G i x else F i x) = fun i => F i x := fun x hx => by
          funext i
          by_cases hi : i < nr ∧ x < C i
          · rw [if_pos hi]; exact (hla.row i hi.1).2.2.2.1 x (by rw [hev i hi.1]; exact hx)
          · rw [if_neg hi]
        refine (ivr14 k nr (L 0) S gr 0 (nr + 1) B C _ w0 w3 ⟨hC, hT, bthen13 b02 b3⟩ (fun x ⟨u, hu, e⟩ => by have := (hla.row u hu).2.2.1; omega) hRw hk6 hk hd hsS (by omega)).mono fun e w4 ⟨he, hR4, hK⟩ => ⟨he, ?_⟩
        refine ⟨_, B, C, _, Bt, Ct, Gt, gl, ip_make hla hgr hgw b2 hgwl hcw hgt hlr hK (fun j hj => hR4.row j hj) (fun j hj x h1 h2 => ?_) (fun j hj x hx => ?_)⟩
        · unfold cw
          rw [if_neg (by rw [hev j hj] at h1; omega)]
          show (if j < nr ∧ x < C j then G j x else F j x) = G j x
          rw [if_pos ⟨hj, h2⟩]
        · rw [hev j hj] at hx
          unfold cw
          rw [if_pos hx, if_pos hx, hGF x hx]
      · refine (refRows14_coset A gb ob nr cr X L Cx F s true w2 hA hr2 hn k hk hk6 h0 hev hs).mono fun e w3 ⟨gt, he, hgt, Bt, Ct, Gt, hlr⟩ => ⟨gt, 140, he, bthen13 b02 hlr.bel, ?_⟩
        have c9 := chkRows14_even s k nr (nr + 1) gr 0 (L 0) (fun j => some ⟨B j, 0, none⟩) L C w3 (cel3 hlr.bel) hev hk hm
        rw [if_neg hs] at c9
        refine (ivr14_no _ s 140 w3 c9 (by decide)).mono fun e w4 ⟨he, hw⟩ => ⟨he, ?_⟩
        rw [hw]
        exact ⟨F, B, C, G, Bt, Ct, Gt, gl, old (P := F) hgt hlr⟩
  · refine (refRows14_pow A gb ob nr cr X L Cx F s true w2 hA hr2 hn hp).mono fun e w3 ⟨gt, he, hgt, Bt, Ct, Gt, hlr⟩ => ⟨gt, 130, he, bthen13 b02 hlr.bel, ?_⟩
    refine (ivr14_no _ s 130 w3 (chkRows14_no s nr (nr + 1) _ hp (by omega) w3) (by decide)).mono fun e w4 ⟨he, hw⟩ => ⟨he, ?_⟩
    rw [hw]
    exact ⟨F, B, C, G, Bt, Ct, Gt, gl, old (P := F) hgt hlr⟩
end Go.Proofs.YtgdnjbaohfiijaaDoor
namespace Go.Proofs.YtgdnjbaohfiijaaDoor
open Go.RowKit Gf2
set_option linter.unusedVariables false

-- layer 14: inPlace (laid by wip/genrhb.py)
theorem u16_succ_fwd (n : Nat) : IntKind.u16.wrap ((n : Int) + 1) = (((n + 1) % 65536 : Nat) : Int) := by
  show ((n : Int) + 1) % 65536 = _
  omega
set_option maxHeartbeats 2000000 in
set_option maxRecDepth 100000 in
theorem inPlace14_fwd (d : Option Addr) (nd cd : Nat) (A : Option Addr) (nr cr : Nat) (s N : Int) (w : World) (hC : Cab w) (hT : Tzt w) (hR : Rm14 w (.slice A nr cr)) :
    Calls Tryd.prog 15 #[.agg #[.int .i64 3, .slice d nd cd, .slice A nr cr, .int .i64 s, .int .i64 N]] w fun e w' => e = .returned (.bool true) ∧ Below w.heap.size w w' := by
  obtain ⟨A', nr', cr', gb, ob, X, L, Cx, F, e0, hA, hRi, hn⟩ := hR
  cases e0
  obtain ⟨W0, hW0⟩ : ∃ W0, W0 = w.alloc (.cells #[.int .i64 3, .slice d nd cd, .slice A nr cr, .int .i64 s, .int .i64 N] 29) := ⟨_, rfl⟩
  obtain ⟨M, hM⟩ : ∃ M, M = nr + 1 := ⟨_, rfl⟩
  have a0 : Below w.heap.size w W0 := by rw [hW0]; exact below_alloc _ _
  obtain ⟨g0, hg0⟩ : ∃ g0, g0 = w.heap.size := ⟨_, rfl⟩
  have HB : Hid (∀ W, Below W0.heap.size W0 W → W.cell? ⟨g0, 0, none⟩ = some (.int .i64 3) ∧ W.cell? ⟨g0, 2, none⟩ = some (.slice A nr cr) ∧ W.cell? ⟨g0, 3, none⟩ = some (.int .i64 s)) := fun W hW => by
    have lt : g0 < W0.heap.size := by rw [hW0, hg0]; simp
    have hh : W0.heap[g0]? = some (.cells #[.int .i64 3, .slice d nd cd, .slice A nr cr, .int .i64 s, .int .i64 N] 29) := by rw [hW0, hg0]; exact heap_alloc_new _ _
    refine ⟨?_, ?_, ?_⟩
    · rw [hW.cell (p := ⟨g0, 0, none⟩) lt, cell_of_row _ _ _ _ _ _ hh]; rfl
    · rw [hW.cell (p := ⟨g0, 2, none⟩) lt, cell_of_row _ _ _ _ _ _ hh]; rfl
    · rw [hW.cell (p := ⟨g0, 3, none⟩) lt, cell_of_row _ _ _ _ _ _ hh]; rfl
  have c1 := ip_calls_fwd W0 (hC.below a0) (hT.below a0) A gb ob nr cr X L Cx F s hA (hRi.below a0) hn
  rw [← hM] at c1
  have hhd := fun b => headL b nr M M (Nat.le_refl _)
  have W0' : wrap64 ((nr : Int) + 1) = (M : Int) := by rw [hM]; unfold wrap64; omega
  have HN : Hid (M = nr + 1 ∧ 24 * nr ≤ 140737488351232 ∧ Below w.heap.size w W0 ∧ ∀ i, i < nr → 2 * L i ≤ 140737488351232) := ⟨hM, hn, a0, hRi.len⟩
  obtain ⟨y00, y02, y03⟩ := HB.out W0 (Below.refl _ _)
  have HG : Hid (g0 = w.heap.size) := hg0
  have HW : Hid (W0 = w.alloc (.cells #[.int .i64 3, .slice d nd cd, .slice A nr cr, .int .i64 s, .int .i64 N] 29)) := hW0
  clear hA hRi hn a0 hC hT hM hg0 hW0
  go_enter Tryd.func15, Tryd.ntmps15
  go_upto_region 1 with (fail)
  rw [← HG.out, ← HW.out]
  go_wp2_with (first
    | (go_at_call 36; (with_reducible refine c1.mono ?_); rintro e w1 ⟨gr, rfl, b1, gw, Cw, w2, run2, b2, c2⟩; obtain ⟨y20, y22, y23⟩ := HB.out w2 b2; have hd1 := hhd gr; clear c1 hhd b1 b2)
    | (at_builtin; refine Lib.wpList_append_run _ rfl _ _ _ _ rfl _ _ rfl rfl _ _ run2 ?_)
    | (go_at_call 37; (with_reducible refine c2.mono ?_); rintro e w3 ⟨gt, z, rfl, b3, c3⟩; obtain ⟨y30, y32, y33⟩ := HB.out w3 b3; clear c2 b3)
    | (go_at_call 11; (with_reducible refine c3.mono ?_); rintro e w4 ⟨rfl, HI⟩; clear c3))
  obtain ⟨P, B, C, G, Bt, Ct, Gt, gl, hI⟩ := HI.out
  have HI : Hid (Ip W0 w4 gr gw gt nr 0 L P B C G Bt Ct Gt gl) := hI
  clear hI y00 y02 y03 y20 y22 y23 y30 y32 y33 run2 hd1 W0'
  go_loopw [9] (fun iv wr => ∃ (i : Nat) (G : Nat → Nat → Nat), i ≤ nr ∧ iv = .int .i64 i ∧ Ip W0 wr gr gw gt nr i L P B C G Bt Ct Gt gl) (fun iv _ => nr - (intOf iv).toNat)
  case atStart => exact ⟨0, G, Nat.zero_le _, rfl, HI.out⟩
  case round =>
    obtain ⟨i, G, hi, rfl, hI⟩ := hrel
    by_cases hlt : i < nr
    · have ib : ((i : Nat) : Int) < (nr : Int) := Int.ofNat_lt.mpr hlt
      obtain ⟨x1, x2, x3⟩ := hI.cel i hlt
      obtain ⟨r1, r2, r3⟩ := hI.row i hlt
      obtain ⟨t1, t2, t3⟩ := hI.wnt i hlt
      have q1 : Q6 wr (.slice (some ⟨B i, 0, none⟩) (L i) (C i)) (L i) (P i) := r1.q6 (Nat.le_trans (Nat.le_add_right _ 3) r2) (Nat.le_trans (Nat.le_add_right _ 3) r2) r1.1 (fun x hx => hI.cur i hlt (Nat.le_refl _) x hx)
      have q2 : Q6 wr (.slice (some ⟨Bt i, 0, none⟩) (L i) (Ct i)) (L i) (P i) := t1.q6 t2 t2 t1.1 t3
      have W1 := wrap14 hlt HN.out.2.1
      obtain ⟨wo, hwo⟩ : ∃ wo, wo = wr := ⟨_, rfl⟩
      have HX : Hid (Ip W0 wo gr gw gt nr i L P B C G Bt Ct Gt gl ∧ i < nr ∧ L i + 3 ≤ C i) := by rw [hwo]; exact ⟨hI, hlt, r2⟩
      have HO : Hid (wo = wr) := hwo
      obtain ⟨l, hl⟩ : ∃ l, l = L i := ⟨_, rfl⟩
      obtain ⟨b, hb⟩ : ∃ b, b = B i := ⟨_, rfl⟩
      obtain ⟨bt, hbt⟩ : ∃ bt, bt = Bt i := ⟨_, rfl⟩
      obtain ⟨c, hc⟩ : ∃ c, c = C i := ⟨_, rfl⟩
      obtain ⟨ct, hct⟩ : ∃ ct, ct = Ct i := ⟨_, rfl⟩
      have HE : Hid (l = L i ∧ b = B i ∧ c = C i) := ⟨hl, hb, hc⟩
      rw [← hl, ← hb, ← hc] at x1 x2 q1
      rw [← hl, ← hbt, ← hct] at x3 q2
      have HQ : Hid (Q6 wr (.slice (some ⟨b, 0, none⟩) l c) l (P i) ∧ Q6 wr (.slice (some ⟨bt, 0, none⟩) l ct) l (P i)) := ⟨q1, q2⟩
      have k1 : ∀ m, Calls Tryd.prog 12 #[.slice (some ⟨b, 0, none⟩) l c, .slice (some ⟨bt, 0, none⟩) l ct] (wr.drewN m) fun e w' => e = .returned (.bool true) ∧ ∃ q, w' = (wr.drewN m).drewN q := fun m => alike14 _ _ l (P i) _ (HQ.out.1.below (below_drewN (Below.refl _ _) m)) (HQ.out.2.below (below_drewN (Below.refl _ _) m))
      clear hI r1 r2 r3 t1 t2 t3 q1 q2 hl hb hbt hc hct hlt hwo
      go_wp2
      go_quiet (first | (go_at_call 12; with_reducible exact Calls.quiet_of (k1 _)))
      go_wp2
      go_loopw [10] (fun jv wq => ∃ (j : Nat) (Gq : Nat → Nat), j ≤ l ∧ jv = .int .i64 j ∧ R6 wq b c Gq ∧ (∀ x, l ≤ x → x < c → Gq x = G i x) ∧ Kp b wo wq) (fun jv _ => l - (intOf jv).toNat)
      case atStart =>
        obtain ⟨e1, e2, e3⟩ := HE.out
        exact ⟨0, G i, Nat.zero_le _, rfl, by rw [e2, e3, ← HO.out]; exact (HX.out.1.row i HX.out.2.1).1.drewN _, fun _ _ _ => rfl, by rw [← HO.out]; exact ⟨below_drewN (Below.refl _ _) _, fun _ _ _ => rfl⟩⟩
      case round =>
        obtain ⟨j, Gq, hj, rfl, hr, hm, hk⟩ := hrel
        clear k1 x1 x2 x3 HO
        obtain ⟨e1, e2, e3⟩ := HE.out
        obtain ⟨o1, o2, o3, o4, o5, o6⟩ := HX.out.1.ord i HX.out.2.1
        obtain ⟨l1, l2, l3⟩ := HX.out.1.lts
        obtain ⟨x1, x2, x3⟩ := HX.out.1.cel i HX.out.2.1
        rw [← e2] at o1 o2 o3 o4 o5
        rw [← e1, ← e2, ← e3] at x1 x2
        have y1 := (hk.cell (q := i) l1 (Nat.ne_of_lt o2)).trans x1
        have y2 := (hk.cell (q := i) l2 (Ne.symm (Nat.ne_of_lt o4))).trans x2
        by_cases hjl : j < l
        · have jb : ((j : Nat) : Int) < (l : Int) := Int.ofNat_lt.mpr hjl
          have hjc : j < c := by rw [e3]; exact Nat.lt_of_lt_of_le (e1 ▸ hjl) (Nat.le_trans (Nat.le_add_right _ 3) HX.out.2.2)
          have y3 := hr.2.2.cell (i := j) hjc
          have y4 := hr.2.2.frozen j
          have lv := hr.2.1 j hjc
          have W2 : wrap64 ((j : Int) + 1) = (j : Int) + 1 := rn_idx hjl (by rw [e1]; exact HN.out.2.2.2 i HX.out.2.1)
          obtain ⟨V, hV⟩ : ∃ V, V = (Gq j + 1) % 65536 := ⟨_, rfl⟩
          have U1 : IntKind.u16.wrap (((Gq j : Nat) : Int) + 1) = (V : Int) := by rw [hV]; exact u16_succ_fwd _
          have hV6 : V < 65536 := by rw [hV]; exact Nat.mod_lt _ (by decide)
          obtain ⟨w6, hw6⟩ : ∃ w6, w6 = wr.setCell ⟨b, j, none⟩ (.int .u16 (V : Nat)) := ⟨_, rfl⟩
          have k6 : Kp b wr w6 := by rw [hw6]; exact (Kp.refl _ wr).setCell _ _
          have r6 : R6 w6 b c (fun x => if x = j then V else Gq x) := by rw [hw6]; exact hr.set j V hV6
          have z1 := (k6.cell (q := i) (Nat.lt_of_lt_of_le l1 hk.size) (Nat.ne_of_lt o2)).trans y1
          have z2 := (k6.cell (q := i) (Nat.lt_of_lt_of_le l2 hk.size) (Ne.symm (Nat.ne_of_lt o4))).trans y2
          have z3 : w6.cell? ⟨b, j, none⟩ = some (.int .u16 (V : Nat)) := by
            have h9 := r6.2.2.cell (i := j) hjc
            simp only [if_true] at h9
            exact h9
          have H6 : Hid (w6 = wr.setCell ⟨b, j, none⟩ (.int .u16 (V : Nat))) := hw6
          have HR6 : Hid (R6 w6 b c (fun x => if x = j then V else Gq x) ∧ (∀ x, l ≤ x → x < c → (if x = j then V else Gq x) = G i x) ∧ Kp b wo w6) := ⟨r6, fun x h1 h2 => by rw [if_neg (Nat.ne_of_gt (Nat.lt_of_lt_of_le hjl h1))]; exact hm x h1 h2, hk.trans k6⟩
          obtain ⟨Y, hY⟩ : ∃ Y, Y = Gq j := ⟨_, rfl⟩
          rw [← hY] at y3 U1
          clear e1 e2 e3 o1 o2 o3 o4 o5 o6 l1 l2 l3 x1 x2 x3 hr hm hk hjc lv hV hV6 k6 r6 hw6 hY
          go_upto_region 20 with (fail)
          rw [← H6.out]
          clear y1 y2 y3 y4 U1
          go_quiet (fail)
          go_wp2
          go_roundw
          case rel => exact ⟨j + 1, _, hjl, by first | rfl | (rw [W2]; rfl), HR6.out.1.drewN _, HR6.out.2.1, HR6.out.2.2.trans ⟨below_drewN (Below.refl _ _) _, fun _ _ _ => rfl⟩⟩
          case measure => first | exact meas_lt8 hjl | (rw [W2]; exact meas_lt8 hjl)
        · obtain rfl : l = j := Nat.le_antisymm (Nat.le_of_not_lt hjl) hj
          have tb2 : ¬ ((l : Nat) : Int) < (l : Int) := by omega
          have hlt := HX.out.2.1
          have HZ : Hid (Ip W0 wr gr gw gt nr (i + 1) L P B C (fun j => if j = i then Gq else G j) Bt Ct Gt gl) := by
            subst e1 e2 e3
            exact HX.out.1.next hlt hk hr hm
          clear e1 e2 e3 o1 o2 o3 o4 o5 o6 l1 l2 l3 x1 x2 x3 hr hm hk y1
          go_wp2
          go_roundw
          case rel => exact ⟨i + 1, _, hlt, by first | rfl | (rw [W1]; rfl), HZ.out⟩
          case measure => first | exact meas_lt8 hlt | (rw [W1]; exact meas_lt8 hlt)
    · obtain rfl : i = nr := Nat.le_antisymm hi (Nat.le_of_not_lt hlt)
      have tb : ¬ ((i : Nat) : Int) < (i : Int) := by omega
      have k2 := kept14 gw i Cw gr gl M L B C G wr HN.out.1 HN.out.2.1 (fun j hj => (hI.cel j hj).2.1) (fun j hj => by obtain ⟨r1, r2, r3⟩ := hI.row j hj; exact ⟨r1, r2, HN.out.2.2.2 j hj, r3⟩) hI.lstc hI.last
      have HB9 : Hid (Below w.heap.size w wr) := bthen13 HN.out.2.2.1 hI.bel
      clear hI
      go_wp2_with (go_at_call 39; ((with_reducible refine (k2).mono ?_); (rintro e w5 ⟨rfl, m, hw5⟩)))
      go_ret
      exact ⟨rfl, below_drewN HB9.out m⟩
end Go.Proofs.YtgdnjbaohfiijaaDoor
namespace Go.Proofs.YtgdnjbaohfiijaaDoor
open Go.RowKit Gf2
set_option linter.unusedVariables false

-- layer 14: inPlace (laid by wip/genrhb.py)
theorem u16_succ_inv (n : Nat) : IntKind.u16.wrap ((n : Int) + 1) = (((n + 1) % 65536 : Nat) : Int) := by
  show ((n : Int) + 1) % 65536 = _
  omega
set_option maxHeartbeats 2000000 in
set_option maxRecDepth 100000 in
theorem inPlace14_inv (d : Option Addr) (nd cd : Nat) (A : Option Addr) (nr cr : Nat) (s N : Int) (w : World) (hC : Cab w) (hT : Tzt w) (hR : Rm14 w (.slice A nr cr)) :
    Calls Tryd.prog 15 #[.agg #[.int .i64 4, .slice d nd cd, .slice A nr cr, .int .i64 s, .int .i64 N]] w fun e w' => e = .returned (.bool true) ∧ Below w.heap.size w w' := by
  obtain ⟨A', nr', cr', gb, ob, X, L, Cx, F, e0, hA, hRi, hn⟩ := hR
  cases e0
  obtain ⟨W0, hW0⟩ : ∃ W0, W0 = w.alloc (.cells #[.int .i64 4, .slice d nd cd, .slice A nr cr, .int .i64 s, .int .i64 N] 29) := ⟨_, rfl⟩
  obtain ⟨M, hM⟩ : ∃ M, M = nr + 1 := ⟨_, rfl⟩
  have a0 : Below w.heap.size w W0 := by rw [hW0]; exact below_alloc _ _
  obtain ⟨g0, hg0⟩ : ∃ g0, g0 = w.heap.size := ⟨_, rfl⟩
  have HB : Hid (∀ W, Below W0.heap.size W0 W → W.cell? ⟨g0, 0, none⟩ = some (.int .i64 4) ∧ W.cell? ⟨g0, 2, none⟩ = some (.slice A nr cr) ∧ W.cell? ⟨g0, 3, none⟩ = some (.int .i64 s)) := fun W hW => by
    have lt : g0 < W0.heap.size := by rw [hW0, hg0]; simp
    have hh : W0.heap[g0]? = some (.cells #[.int .i64 4, .slice d nd cd, .slice A nr cr, .int .i64 s, .int .i64 N] 29) := by rw [hW0, hg0]; exact heap_alloc_new _ _
    refine ⟨?_, ?_, ?_⟩
    · rw [hW.cell (p := ⟨g0, 0, none⟩) lt, cell_of_row _ _ _ _ _ _ hh]; rfl
    · rw [hW.cell (p := ⟨g0, 2, none⟩) lt, cell_of_row _ _ _ _ _ _ hh]; rfl
    · rw [hW.cell (p := ⟨g0, 3, none⟩) lt, cell_of_row _ _ _ _ _ _ hh]; rfl
  have c1 := ip_calls_inv W0 (hC.below a0) (hT.below a0) A gb ob nr cr X L Cx F s hA (hRi.below a0) hn
  rw [← hM] at c1
  have hhd := fun b => headL b nr M M (Nat.le_refl _)
  have W0' : wrap64 ((nr : Int) + 1) = (M : Int) := by rw [hM]; unfold wrap64; omega
  have HN : Hid (M = nr + 1 ∧ 24 * nr ≤ 140737488351232 ∧ Below w.heap.size w W0 ∧ ∀ i, i < nr → 2 * L i ≤ 140737488351232) := ⟨hM, hn, a0, hRi.len⟩
  obtain ⟨y00, y02, y03⟩ := HB.out W0 (Below.refl _ _)
  have HG : Hid (g0 = w.heap.size) := hg0
  have HW : Hid (W0 = w.alloc (.cells #[.int .i64 4, .slice d nd cd, .slice A nr cr, .int .i64 s, .int .i64 N] 29)) := hW0
  clear hA hRi hn a0 hC hT hM hg0 hW0
  go_enter Tryd.func15, Tryd.ntmps15
  go_upto_region 1 with (fail)
  rw [← HG.out, ← HW.out]
  go_wp2_with (first
    | (go_at_call 36; (with_reducible refine c1.mono ?_); rintro e w1 ⟨gr, rfl, b1, gw, Cw, w2, run2, b2, c2⟩; obtain ⟨y20, y22, y23⟩ := HB.out w2 b2; have hd1 := hhd gr; clear c1 hhd b1 b2)
    | (at_builtin; refine Lib.wpList_append_run _ rfl _ _ _ _ rfl _ _ rfl rfl _ _ run2 ?_)
    | (go_at_call 37; (with_reducible refine c2.mono ?_); rintro e w3 ⟨gt, z, rfl, b3, c3⟩; obtain ⟨y30, y32, y33⟩ := HB.out w3 b3; clear c2 b3)
    | (go_at_call 38; (with_reducible refine c3.mono ?_); rintro e w4 ⟨rfl, HI⟩; clear c3))
  obtain ⟨P, B, C, G, Bt, Ct, Gt, gl, hI⟩ := HI.out
  have HI : Hid (Ip W0 w4 gr gw gt nr 0 L P B C G Bt Ct Gt gl) := hI
  clear hI y00 y02 y03 y20 y22 y23 y30 y32 y33 run2 hd1 W0'
  go_loopw [9] (fun iv wr => ∃ (i : Nat) (G : Nat → Nat → Nat), i ≤ nr ∧ iv = .int .i64 i ∧ Ip W0 wr gr gw gt nr i L P B C G Bt Ct Gt gl) (fun iv _ => nr - (intOf iv).toNat)
  case atStart => exact ⟨0, G, Nat.zero_le _, rfl, HI.out⟩
  case round =>
    obtain ⟨i, G, hi, rfl, hI⟩ := hrel
    by_cases hlt : i < nr
    · have ib : ((i : Nat) : Int) < (nr : Int) := Int.ofNat_lt.mpr hlt
      obtain ⟨x1, x2, x3⟩ := hI.cel i hlt
      obtain ⟨r1, r2, r3⟩ := hI.row i hlt
      obtain ⟨t1, t2, t3⟩ := hI.wnt i hlt
      have q1 : Q6 wr (.slice (some ⟨B i, 0, none⟩) (L i) (C i)) (L i) (P i) := r1.q6 (Nat.le_trans (Nat.le_add_right _ 3) r2) (Nat.le_trans (Nat.le_add_right _ 3) r2) r1.1 (fun x hx => hI.cur i hlt (Nat.le_refl _) x hx)
      have q2 : Q6 wr (.slice (some ⟨Bt i, 0, none⟩) (L i) (Ct i)) (L i) (P i) := t1.q6 t2 t2 t1.1 t3
      have W1 := wrap14 hlt HN.out.2.1
      obtain ⟨wo, hwo⟩ : ∃ wo, wo = wr := ⟨_, rfl⟩
      have HX : Hid (Ip W0 wo gr gw gt nr i L P B C G Bt Ct Gt gl ∧ i < nr ∧ L i + 3 ≤ C i) := by rw [hwo]; exact ⟨hI, hlt, r2⟩
      have HO : Hid (wo = wr) := hwo
      obtain ⟨l, hl⟩ : ∃ l, l = L i := ⟨_, rfl⟩
      obtain ⟨b, hb⟩ : ∃ b, b = B i := ⟨_, rfl⟩
      obtain ⟨bt, hbt⟩ : ∃ bt, bt = Bt i := ⟨_, rfl⟩
      obtain ⟨c, hc⟩ : ∃ c, c = C i := ⟨_, rfl⟩
      obtain ⟨ct, hct⟩ : ∃ ct, ct = Ct i := ⟨_, rfl⟩
      have HE : Hid (l = L i ∧ b = B i ∧ c = C i) := ⟨hl, hb, hc⟩
      rw [← hl, ← hb, ← hc] at x1 x2 q1
      rw [← hl, ← hbt, ← hct] at x3 q2
      have HQ : Hid (Q6 wr (.slice (some ⟨b, 0, none⟩) l c) l (P i) ∧ Q6 wr (.slice (some ⟨bt, 0, none⟩) l ct) l (P i)) := ⟨q1, q2⟩
      have k1 : ∀ m, Calls Tryd.prog 12 #[.slice (some ⟨b, 0, none⟩) l c, .slice (some ⟨bt, 0, none⟩) l ct] (wr.drewN m) fun e w' => e = .returned (.bool true) ∧ ∃ q, w' = (wr.drewN m).drewN q := fun m => alike14 _ _ l (P i) _ (HQ.out.1.below (below_drewN (Below.refl _ _) m)) (HQ.out.2.below (below_drewN (Below.refl _ _) m))
      clear hI r1 r2 r3 t1 t2 t3 q1 q2 hl hb hbt hc hct hlt hwo
      go_wp2
      go_quiet (first | (go_at_call 12; with_reducible exact Calls.quiet_of (k1 _)))
      go_wp2
      go_loopw [10] (fun jv wq => ∃ (j : Nat) (Gq : Nat → Nat), j ≤ l ∧ jv = .int .i64 j ∧ R6 wq b c Gq ∧ (∀ x, l ≤ x → x < c → Gq x = G i x) ∧ Kp b wo wq) (fun jv _ => l - (intOf jv).toNat)
      case atStart =>
        obtain ⟨e1, e2, e3⟩ := HE.out
        exact ⟨0, G i, Nat.zero_le _, rfl, by rw [e2, e3, ← HO.out]; exact (HX.out.1.row i HX.out.2.1).1.drewN _, fun _ _ _ => rfl, by rw [← HO.out]; exact ⟨below_drewN (Below.refl _ _) _, fun _ _ _ => rfl⟩⟩
      case round =>
        obtain ⟨j, Gq, hj, rfl, hr, hm, hk⟩ := hrel
        clear k1 x1 x2 x3 HO
        obtain ⟨e1, e2, e3⟩ := HE.out
        obtain ⟨o1, o2, o3, o4, o5, o6⟩ := HX.out.1.ord i HX.out.2.1
        obtain ⟨l1, l2, l3⟩ := HX.out.1.lts
        obtain ⟨x1, x2, x3⟩ := HX.out.1.cel i HX.out.2.1
        rw [← e2] at o1 o2 o3 o4 o5
        rw [← e1, ← e2, ← e3] at x1 x2
        have y1 := (hk.cell (q := i) l1 (Nat.ne_of_lt o2)).trans x1
        have y2 := (hk.cell (q := i) l2 (Ne.symm (Nat.ne_of_lt o4))).trans x2
        by_cases hjl : j < l
        · have jb : ((j : Nat) : Int) < (l : Int) := Int.ofNat_lt.mpr hjl
          have hjc : j < c := by rw [e3]; exact Nat.lt_of_lt_of_le (e1 ▸ hjl) (Nat.le_trans (Nat.le_add_right _ 3) HX.out.2.2)
          have y3 := hr.2.2.cell (i := j) hjc
          have y4 := hr.2.2.frozen j
          have lv := hr.2.1 j hjc
          have W2 : wrap64 ((j : Int) + 1) = (j : Int) + 1 := rn_idx hjl (by rw [e1]; exact HN.out.2.2.2 i HX.out.2.1)
          obtain ⟨V, hV⟩ : ∃ V, V = (Gq j + 1) % 65536 := ⟨_, rfl⟩
          have U1 : IntKind.u16.wrap (((Gq j : Nat) : Int) + 1) = (V : Int) := by rw [hV]; exact u16_succ_inv _
          have hV6 : V < 65536 := by rw [hV]; exact Nat.mod_lt _ (by decide)
          obtain ⟨w6, hw6⟩ : ∃ w6, w6 = wr.setCell ⟨b, j, none⟩ (.int .u16 (V : Nat)) := ⟨_, rfl⟩
          have k6 : Kp b wr w6 := by rw [hw6]; exact (Kp.refl _ wr).setCell _ _
          have r6 : R6 w6 b c (fun x => if x = j then V else Gq x) := by rw [hw6]; exact hr.set j V hV6
          have z1 := (k6.cell (q := i) (Nat.lt_of_lt_of_le l1 hk.size) (Nat.ne_of_lt o2)).trans y1
          have z2 := (k6.cell (q := i) (Nat.lt_of_lt_of_le l2 hk.size) (Ne.symm (Nat.ne_of_lt o4))).trans y2
          have z3 : w6.cell? ⟨b, j, none⟩ = some (.int .u16 (V : Nat)) := by
            have h9 := r6.2.2.cell (i := j) hjc
            simp only [if_true] at h9
            exact h9
          have H6 : Hid (w6 = wr.setCell ⟨b, j, none⟩ (.int .u16 (V : Nat))) := hw6
          have HR6 : Hid (R6 w6 b c (fun x => if x = j then V else Gq x) ∧ (∀ x, l ≤ x → x < c → (if x = j then V else Gq x) = G i x) ∧ Kp b wo w6) := ⟨r6, fun x h1 h2 => by rw [if_neg (Nat.ne_of_gt (Nat.lt_of_lt_of_le hjl h1))]; exact hm x h1 h2, hk.trans k6⟩
          obtain ⟨Y, hY⟩ : ∃ Y, Y = Gq j := ⟨_, rfl⟩
          rw [← hY] at y3 U1
          clear e1 e2 e3 o1 o2 o3 o4 o5 o6 l1 l2 l3 x1 x2 x3 hr hm hk hjc lv hV hV6 k6 r6 hw6 hY
          go_upto_region 20 with (fail)
          rw [← H6.out]
          clear y1 y2 y3 y4 U1
          go_quiet (fail)
          go_wp2
          go_roundw
          case rel => exact ⟨j + 1, _, hjl, by first | rfl | (rw [W2]; rfl), HR6.out.1.drewN _, HR6.out.2.1, HR6.out.2.2.trans ⟨below_drewN (Below.refl _ _) _, fun _ _ _ => rfl⟩⟩
          case measure => first | exact meas_lt8 hjl | (rw [W2]; exact meas_lt8 hjl)
        · obtain rfl : l = j := Nat.le_antisymm (Nat.le_of_not_lt hjl) hj
          have tb2 : ¬ ((l : Nat) : Int) < (l : Int) := by omega
          have hlt := HX.out.2.1
          have HZ : Hid (Ip W0 wr gr gw gt nr (i + 1) L P B C (fun j => if j = i then Gq else G j) Bt Ct Gt gl) := by
            subst e1 e2 e3
            exact HX.out.1.next hlt hk hr hm
          clear e1 e2 e3 o1 o2 o3 o4 o5 o6 l1 l2 l3 x1 x2 x3 hr hm hk y1
          go_wp2
          go_roundw
          case rel => exact ⟨i + 1, _, hlt, by first | rfl | (rw [W1]; rfl), HZ.out⟩
          case measure => first | exact meas_lt8 hlt | (rw [W1]; exact meas_lt8 hlt)
    · obtain rfl : i = nr := Nat.le_antisymm hi (Nat.le_of_not_lt hlt)
      have tb : ¬ ((i : Nat) : Int) < (i : Int) := by omega
      have k2 := kept14 gw i Cw gr gl M L B C G wr HN.out.1 HN.out.2.1 (fun j hj => (hI.cel j hj).2.1) (fun j hj => by obtain ⟨r1, r2, r3⟩ := hI.row j hj; exact ⟨r1, r2, HN.out.2.2.2 j hj, r3⟩) hI.lstc hI.last
      have HB9 : Hid (Below w.heap.size w wr) := bthen13 HN.out.2.2.1 hI.bel
      clear hI
      go_wp2_with (go_at_call 39; ((with_reducible refine (k2).mono ?_); (rintro e w5 ⟨rfl, m, hw5⟩)))
      go_ret
      exact ⟨rfl, below_drewN HB9.out m⟩
end Go.Proofs.YtgdnjbaohfiijaaDoor
