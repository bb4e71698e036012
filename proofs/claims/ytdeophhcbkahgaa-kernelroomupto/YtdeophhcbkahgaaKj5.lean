import Derived.Test.YtdeophhcbkahgaaKzj
import Derived.Test.YtdeophhcbkahgaaKzb
import Derived.Test.YtdeophhcbkahgaaKj3
import Derived.Test.YtdeophhcbkahgaaKj4
import Derived.Test.YtdeophhcbkahgaaKzf
import Derived.Test.YtdeophhcbkahgaaKofa
import Derived.Test.YtdeophhcbkahgaaKjb
namespace Go.Proofs.Ytdeophhcbkahgaa
open Go.RowKit Gf2
set_option linter.unusedVariables false

theorem kagrees_any (p : Addr) (bk lo hi m k d : Nat) (nr ns nd : Nat → Nat) (R S D : Nat → Nat → Nat) (fr to : Int) (rows srcs dsts : Value) (w : World) (hk : Ks w p bk lo hi) (hmb : 24 * m ≤ 140737488355328) (hkb : 24 * k ≤ 140737488355328) (hdb : 24 * d ≤ 140737488355328)
    (hn1 : ∀ i, i < k → ns i ≤ 140737488351232) (hn2 : ∀ i, i < d → nd i ≤ 140737488351232) (hr : Lb w rows m nr R) (hs : Lb w srcs k ns S) (hd : Lb w dsts d nd D) :
    Calls Try.prog 14 #[.pointer (some p), rows, srcs, dsts, .agg #[.int .i64 fr, .int .i64 to]] w fun e w' => ∃ b : Bool, e = .returned (.tuple #[.bool b, .int .i64 (fit9 m k d nr ns nd fr to : Nat)]) ∧
      (b = true ↔ fit9 m k d nr ns nd fr to = 0 ∧ ∀ r, r < d → ∀ t : Nat, fr ≤ (t : Int) → (t : Int) < to → D r t = ks (R r) S k t) ∧ Below w.heap.size w w' := by
  by_cases hf : fit9 m k d nr ns nd fr to = 0
  · obtain ⟨⟨rfl, hnr, hns, hnd⟩, r1, r2, r3⟩ := fit9_split hf
    generalize hL : len9 k m ns nd = L at hns hnd r3
    obtain ⟨f, rfl⟩ : ∃ f : Nat, fr = (f : Int) := ⟨fr.toNat, by omega⟩
    obtain ⟨t, rfl⟩ : ∃ t : Nat, to = (t : Int) := ⟨to.toNat, by omega⟩
    have eL : len9 k m ns nd = len9 k m (fun _ => L) (fun _ => L) := by
      unfold len9
      by_cases h1 : 0 < k
      · rw [if_pos h1, if_pos h1, hns 0 h1]
      · rw [if_neg h1, if_neg h1]
        by_cases h2 : 0 < m
        · rw [if_pos h2, if_pos h2, hnd 0 h2]
        · rw [if_neg h2, if_neg h2]
    have hLb : L ≤ 140737488351232 := by
      rw [← hL]
      unfold len9
      split
      · next h => exact hn1 0 h
      · split
        · next h => exact hn2 0 h
        · decide
    refine (kagrees_good p bk lo hi m k L f t R S D rows srcs dsts w hk hmb hkb hLb (hr.lens hnr) (hs.lens hns) (hd.lens hnd) (by omega) (by rw [← eL, hL]; omega)).mono ?_
    rintro e w' ⟨b, rfl, hb, hB⟩
    refine ⟨b, by rw [hf]; rfl, ⟨fun h => ⟨hf, fun r hr' j h1 h2 => hb.1 h r hr' j (by omega) (by omega)⟩, fun h => hb.2 (fun r hr' j h1 h2 => h.2 r hr' j (by omega) (by omega))⟩, hB⟩
  · refine (kagrees_bad p bk lo hi m k d nr ns nd R S D fr to rows srcs dsts w hk hmb hkb hdb hr hs hd hf).mono ?_
    rintro e w' ⟨rfl, hB⟩
    exact ⟨false, rfl, ⟨fun h => absurd h (by decide), fun h => absurd h.1 hf⟩, hB⟩
end Go.Proofs.Ytdeophhcbkahgaa
namespace Go.Proofs.Ytdeophhcbkahgaa
end Go.Proofs.Ytdeophhcbkahgaa
namespace Go.Proofs.Ytdeophhcbkahgaa
open Go.RowKit Gf2
set_option linter.unusedVariables false

theorem Ks.below {w w' : World} {p : Addr} {b lo hi : Nat} (h : Ks w p b lo hi) (hb : Below w.heap.size w w') : Ks w' p b lo hi :=
  h.keep (Nat.le_trans h.hi hb.size) (fun x _ hx => hb.block x (Nat.lt_of_lt_of_le hx h.hi))
theorem Ks.ke {E : Nat → Prop} {w w' : World} {p : Addr} {b lo hi : Nat} (h : Ks w p b lo hi) (hk : Ke E w w') (hE : ∀ x, E x → x < lo ∨ hi ≤ x) : Ks w' p b lo hi :=
  h.keep (Nat.le_trans h.hi hk.size) (fun x h1 hx => hk.2 x (Nat.lt_of_lt_of_le hx h.hi) (fun e => by have := hE x e; omega))
/-- the blocks from lo up to hi. -/
def In (lo hi x : Nat) : Prop := lo ≤ x ∧ x < hi

theorem cs_apply {lo hi klo khi bk m k d : Nat} {nr ns nd C B : Nat → Nat} {R S D : Nat → Nat → Nat} {rows srcs dsts : Value} {w : World} {p : Addr} (hd : Cs lo hi w dsts d nd C B D) (hr : Ll (In lo hi) w rows m nr R) (hs : Ll (In lo hi) w srcs k ns S) (hk : Ks w p bk klo khi) (hkl : khi ≤ lo ∨ hi ≤ klo)
    (fr to : Int) (hmb : 24 * m ≤ 140737488351232) (hkb : 24 * k ≤ 140737488351232) (hdb : 24 * d ≤ 140737488351232) :
    Calls Try.prog 12 #[.pointer (some p), rows, srcs, dsts, .agg #[.int .i64 fr, .int .i64 to]] w fun e w' => e = .returned (.int .i64 (fit9 m k d nr ns nd fr to : Nat)) ∧ Ke (In lo hi) w w' ∧ Cs lo hi w' dsts d nd C B (ap9 m k d nr ns nd fr to R S D) := by
  by_cases hf : fit9 m k d nr ns nd fr to = 0
  · obtain ⟨⟨rfl, hnr, hns, hnd⟩, r1, r2, r3⟩ := fit9_split hf
    generalize hL : len9 k m ns nd = L at hns hnd r3
    obtain ⟨f, rfl⟩ : ∃ f : Nat, fr = (f : Int) := ⟨fr.toNat, by omega⟩
    obtain ⟨t, rfl⟩ : ∃ t : Nat, to = (t : Int) := ⟨to.toNat, by omega⟩
    have hin : ∀ x, Eb m B x → In lo hi x := fun x ⟨r, hr', e⟩ => by subst e; exact ⟨(hd.row r hr').1, (hd.row r hr').2.1⟩
    have eL : len9 k m ns nd = len9 k m (fun _ => L) (fun _ => L) := by
      unfold len9
      by_cases h1 : 0 < k
      · rw [if_pos h1, if_pos h1, hns 0 h1]
      · rw [if_neg h1, if_neg h1]
        by_cases h2 : 0 < m
        · rw [if_pos h2, if_pos h2, hnd 0 h2]
        · rw [if_neg h2, if_neg h2]
    refine (kapply_ok p bk klo khi m k L f t B _ _ R S _ rows srcs dsts w hk (by omega) (by omega) (fun r hr' => by have := hd.row r hr'; omega) ((hr.lens hnr).mono (fun x _ e => hin x e)) ((hs.lens hns).mono (fun x _ e => hin x e)) (hd.dl hnd) (by omega) (by rw [← eL, hL]; omega)).mono ?_
    rintro e w' ⟨rfl, hke, hrw⟩
    refine ⟨by rw [hf]; rfl, hke.mono (fun x _ e => hin x e), hd.turn hke (fun i hi => ?_)⟩
    have := hrw i hi
    rw [inv9_at hd.inj hi] at this
    refine this.congr (fun j _ => ?_)
    rw [cs_apb hd.inj f t (fun r j => ks (R r) S k j) D hi]
    unfold ap9
    by_cases e : f ≤ j ∧ j < t
    · rw [if_pos e, if_pos ⟨hf, by omega, by omega⟩]
    · rw [if_neg e, if_neg (fun h => e ⟨by omega, by omega⟩)]
  · refine (kapply_fit p bk klo khi m k d nr ns nd R S D fr to rows srcs dsts w hk (by omega) (by omega) (by omega) hr.lb hs.lb hd.lb hf).mono ?_
    rintro e w' ⟨rfl, hb⟩
    refine ⟨rfl, ke_below hb _, (hd.below hb).congr (fun i hi j hj => ?_)⟩
    unfold ap9
    rw [if_neg (fun h => hf h.1)]

theorem cs_spread {lo hi klo khi bk c L d : Nat} {nd C B K F : Nat → Nat} {D : Nat → Nat → Nat} {col diff dsts : Value} {w : World} {p : Addr} (hd : Cs lo hi w dsts d nd C B D) (hc : Re (In lo hi) w col c K) (hs : Re (In lo hi) w diff L F) (hk : Ks w p bk klo khi) (hkl : khi ≤ lo ∨ hi ≤ klo)
    (fr to : Int) (hcb : c ≤ 140737488351232) (hdb : 24 * d ≤ 140737488351232) :
    Calls Try.prog 13 #[.pointer (some p), col, diff, dsts, .agg #[.int .i64 fr, .int .i64 to]] w fun e w' => e = .returned (.int .i64 (sf9 c d L nd fr to : Nat)) ∧ Ke (In lo hi) w w' ∧ Cs lo hi w' dsts d nd C B (sp9 c d L nd fr to K F D) := by
  by_cases hf : sf9 c d L nd fr to = 0
  · obtain ⟨⟨rfl, hnd⟩, r1, r2, r3⟩ := sf9_split hf
    obtain ⟨f, rfl⟩ : ∃ f : Nat, fr = (f : Int) := ⟨fr.toNat, by omega⟩
    obtain ⟨t, rfl⟩ : ∃ t : Nat, to = (t : Int) := ⟨to.toNat, by omega⟩
    have hin : ∀ x, Eb c B x → In lo hi x := fun x ⟨r, hr', e⟩ => by subst e; exact ⟨(hd.row r hr').1, (hd.row r hr').2.1⟩
    refine (kspread_ok p bk klo khi c L f t B _ _ K F _ col diff dsts w hk (by omega) (fun r hr' => by have := hd.row r hr'; omega) (hc.mono (fun x _ e => hin x e)) (hs.mono (fun x _ e => hin x e)) (hd.dl hnd) (by omega) (by omega)).mono ?_
    rintro e w' ⟨rfl, hke, hrw⟩
    refine ⟨by rw [hf]; rfl, hke.mono (fun x _ e => hin x e), hd.turn hke (fun i hi => ?_)⟩
    have := hrw i hi
    rw [inv9_at hd.inj hi] at this
    refine this.congr (fun j _ => ?_)
    rw [cs_spb hd.inj f t (fun r j => fm 285 (K r) (F j)) D hi]
    unfold sp9
    by_cases e : f ≤ j ∧ j < t
    · rw [if_pos e, if_pos ⟨hf, by omega, by omega⟩]
    · rw [if_neg e, if_neg (fun h => e ⟨by omega, by omega⟩)]
  · refine (kspread_fit p bk klo khi c L d nd K F D fr to col diff dsts w hk (by omega) (by omega) hc.rb hs.rb hd.lb hf).mono ?_
    rintro e w' ⟨rfl, hb⟩
    refine ⟨rfl, ke_below hb _, (hd.below hb).congr (fun i hi j hj => ?_)⟩
    unfold sp9
    rw [if_neg (fun h => hf h.1)]

/-- the error of two lengths. -/
def er9 (n m : Nat) : Nat := if n = m then 0 else 6
/-- what a list of n bytes D becomes, V where the lengths are alike. -/
def vl9 (n m : Nat) (D V : Nat → Nat) (j : Nat) : Nat := if n = m then V j else D j
theorem pl_all {D V : Nat → Nat} {n j : Nat} (h : j < n) : pl D 0 n V j = V j := by
  unfold pl
  rw [if_pos (by omega), Nat.sub_zero]
section
variable {klo khi bk n m c g : Nat} {D S : Nat → Nat} {v : Value} {w : World} {p : Addr}
theorem rw_mul9 (hR : Rw w g n D) (hv : Re (fun x => x = g) w v m S) (hk : Ks w p bk klo khi) (hkl : g < klo ∨ khi ≤ g) (hc : c < 256) :
    Calls Try.prog 34 #[.pointer (some p), .int .u8 (c : Int), .slice (some ⟨g, 0, none⟩) n n, v] w fun e w' => e = .returned (.int .i64 (er9 n m : Nat)) ∧ Kp g w w' ∧ Rw w' g n (vl9 n m D (fun j => fm 285 c (S j))) := by
  by_cases e : n = m
  · subst e
    refine (kmul_far p bk klo khi c n g 0 n D S _ n v w (Nat.le_refl _) hR.1 hk hc hR.1 hkl hR (fun _ => rfl) (by omega) hv).mono ?_
    rintro e w' ⟨rfl, h1, h2⟩
    refine ⟨by unfold er9; rw [if_pos rfl]; rfl, h1, h2.congr (fun j hj => ?_)⟩
    unfold vl9
    rw [if_pos rfl, pl_all hj]
  · obtain ⟨x, cx, rfl⟩ := hv.rb.form9
    refine (kmul_lens p bk klo khi c n m _ x n cx w hk e).mono ?_
    rintro e' w' ⟨rfl, hb⟩
    refine ⟨by unfold er9; rw [if_neg e]; rfl, kp_below hb g, (rw_below hR hb).congr (fun j hj => ?_)⟩
    unfold vl9
    rw [if_neg e]
theorem rw_add9 (hR : Rw w g n D) (hv : Re (fun x => x = g) w v m S) (hk : Ks w p bk klo khi) (hkl : g < klo ∨ khi ≤ g) (hc : c < 256) :
    Calls Try.prog 10 #[.pointer (some p), .int .u8 (c : Int), .slice (some ⟨g, 0, none⟩) n n, v] w fun e w' => e = .returned (.int .i64 (er9 n m : Nat)) ∧ Kp g w w' ∧ Rw w' g n (vl9 n m D (fun j => fm 285 c (S j) ^^^ D j)) := by
  by_cases e : n = m
  · subst e
    refine (kadd_far p bk klo khi c n g 0 n D S _ n v w (Nat.le_refl _) hR.1 hk hc hR.1 hkl hR (fun _ => rfl) (by omega) hv).mono ?_
    rintro e w' ⟨rfl, h1, h2⟩
    refine ⟨by unfold er9; rw [if_pos rfl]; rfl, h1, h2.congr (fun j hj => ?_)⟩
    unfold vl9
    rw [if_pos rfl, pl_all hj, Nat.zero_add, Nat.xor_comm]
  · obtain ⟨x, cx, rfl⟩ := hv.rb.form9
    refine (kadd_lens p bk klo khi c n m _ x n cx w hk e).mono ?_
    rintro e' w' ⟨rfl, hb⟩
    refine ⟨by unfold er9; rw [if_neg e]; rfl, kp_below hb g, (rw_below hR hb).congr (fun j hj => ?_)⟩
    unfold vl9
    rw [if_neg e]
theorem rw_xor9 (hR : Rw w g n D) (hv : Re (fun x => x = g) w v m S) :
    Calls Try.prog 35 #[.slice (some ⟨g, 0, none⟩) n n, v] w fun e w' => e = .returned (.int .i64 (er9 n m : Nat)) ∧ Kp g w w' ∧ Rw w' g n (vl9 n m D (fun j => S j ^^^ D j)) := by
  by_cases e : n = m
  · subst e
    refine (kxor_far n g 0 n D S _ n v w (Nat.le_refl _) hR.1 hR.1 hR (fun _ => rfl) (by omega) hv).mono ?_
    rintro e w' ⟨rfl, h1, h2⟩
    refine ⟨by unfold er9; rw [if_pos rfl]; rfl, h1, h2.congr (fun j hj => ?_)⟩
    unfold vl9
    rw [if_pos rfl, pl_all hj, Nat.zero_add, Nat.xor_comm]
  · obtain ⟨x, cx, rfl⟩ := hv.rb.form9
    refine (kxor_lens n m _ x n cx w e).mono ?_
    rintro e' w' ⟨rfl, hb⟩
    refine ⟨by unfold er9; rw [if_neg e]; rfl, kp_below hb g, (rw_below hR hb).congr (fun j hj => ?_)⟩
    unfold vl9
    rw [if_neg e]
end
/-- the error of Dot. -/
def de9 (k m n : Nat) (ns : Nat → Nat) : Nat := if k = m ∧ ∀ i, i < m → ns i = n then 0 else 6
/-- what Dot writes. -/
def dv9 (k m n : Nat) (ns R D : Nat → Nat) (S : Nat → Nat → Nat) (j : Nat) : Nat := if de9 k m n ns = 0 then ks R S k j else D j
theorem rw_dot9 {klo khi bk n k m g : Nat} {D R ns : Nat → Nat} {S : Nat → Nat → Nat} {row srcs : Value} {w : World} {p : Addr} (hR : Rw w g n D) (hr : Re (fun x => x = g) w row k R) (hs : Ll (fun x => x = g) w srcs m ns S) (hk : Ks w p bk klo khi) (hkl : g < klo ∨ khi ≤ g) (hkb : k ≤ 140737488351232) (hmb : 24 * m ≤ 140737488351232) :
    Calls Try.prog 11 #[.pointer (some p), row, srcs, .slice (some ⟨g, 0, none⟩) n n] w fun e w' => e = .returned (.int .i64 (de9 k m n ns : Nat)) ∧ Kp g w w' ∧ Rw w' g n (dv9 k m n ns R D S) := by
  by_cases e : k = m ∧ ∀ i, i < m → ns i = n
  · have e0 : de9 k m n ns = 0 := by unfold de9; rw [if_pos e]
    obtain ⟨rfl, en⟩ := e
    refine (kdot_ok p bk klo khi k n g 0 n D R S _ n row srcs w (Nat.le_refl _) hR.1 hk hR.1 (by omega) hkl hR (fun _ => rfl) (by omega) hr (hs.lens en)).mono ?_
    rintro e w' ⟨rfl, h1, h2⟩
    refine ⟨by rw [e0]; rfl, h1, h2.congr (fun j hj => ?_)⟩
    unfold dv9
    rw [if_pos e0, pl_all hj]
  · have e0 : de9 k m n ns = 6 := by unfold de9; rw [if_neg e]
    refine (kdot_lens p bk klo khi k m n ns R D S row srcs _ w hk (by omega) (by omega) hr.rb hs.lb hR.rb0 e).mono ?_
    rintro e' w' ⟨rfl, hb⟩
    refine ⟨by rw [e0]; rfl, kp_below hb g, (rw_below hR hb).congr (fun j hj => ?_)⟩
    unfold dv9
    rw [if_neg (by rw [e0]; decide)]
end Go.Proofs.Ytdeophhcbkahgaa
namespace Go.Proofs.Ytdeophhcbkahgaa
open Go.RowKit Gf2
set_option linter.unusedVariables false

theorem info_p9 : ∃ i, Try.prog.info? 33 = some i ∧ i.zero = some (Value.pointer none) ∧ i.size = 1 ∧ i.bytes = 8 := by
  have h : (Try.prog.info? 33).map (fun i => (i.zero, i.size, i.bytes)) = some (some (Value.pointer none), 1, 8) := by kernel_rfl
  obtain ⟨i, hi, hz⟩ := Option.map_eq_some_iff.1 h
  simp only [Prod.mk.injEq] at hz
  exact ⟨i, hi, hz.1, hz.2.1, hz.2.2⟩
/-- sets that are made one by one, above w0: the r-th of the backend r. -/
structure Sg (w0 w : World) (av : Value) (k : Nat) (P : Nat → Addr) (lo hi : Nat → Nat) : Prop where
  bel : Below w0.heap.size w0 w
  own : w.ownsRow w0.heap.size 33 1 av k (lv9 (fun r => .pointer (some (P r))) k)
  set : ∀ r, r < k → Ks w (P r) r (lo r) (hi r) ∧ ∀ x, av.ownBlock = some x → x < lo r ∨ hi r ≤ x
theorem Sg.start (w0 : World) (P : Nat → Addr) (lo hi : Nat → Nat) : Sg w0 w0 (.slice none 0 0) 0 P lo hi :=
  ⟨Below.refl _ _, World.ownsRow_nil _ _ _ _, fun r hr => absurd hr (Nat.not_lt_zero _)⟩
theorem Sg.form {w0 w : World} {av : Value} {k : Nat} {P : Nat → Addr} {lo hi : Nat → Nat} (h : Sg w0 w av k P lo hi) : ∃ a c, av = .slice a k c := by
  rcases h.own.2 with ⟨h1, h2⟩ | ⟨g, cap, cur, rfl, _⟩
  · subst h1 h2; exact ⟨_, _, rfl⟩
  · exact ⟨_, _, rfl⟩
theorem sg_run {w0 w w3 : World} {av : Value} {k : Nat} {P : Nat → Addr} {lo hi : Nat → Nat} (h : Sg w0 w av k P lo hi) (hb : Below w.heap.size w w3) {p : Addr} {h3 : Nat} (hk : Ks w3 p k w.heap.size h3) (hk3 : k < 1000) :
    ∃ v5 w5, (Builtin.append_ #[26, 26] 26 #[av, .slice (some ⟨w3.heap.size, 0, none⟩) 1 1]).run Try.prog (w3.alloc (.cells #[.pointer (some p)] 33)) = .ok v5 w5 ∧
      Sg w0 w5 v5 (k + 1) (upn P k p) (upn lo k w.heap.size) (upn hi k h3) := by
  obtain ⟨iL, k1, k2, k3, k4⟩ := info_p9
  have hbs := h.bel.size
  have hs3 := hb.size
  have hh3 := hk.hi
  have own3 : w3.ownsRow w0.heap.size 33 1 av k (lv9 (fun r => .pointer (some (P r))) k) := by
    refine World.ownsRow.kept (row := Option.none) h.own ⟨hb.os, hb.tape, hb.output, hb.size, fun k hk _ => hb.block k hk⟩ ?_
    cases e : av.ownBlock with
    | none => exact .inl rfl
    | some k => exact .inr (by simp)
  obtain ⟨g, cp, w5, hrun, own, gr, lies, lt⟩ := run_append_lies (P := Try.prog) (w3.alloc (.cells #[.pointer (some p)] 33)) 26 26 w0.heap.size 33 iL (.pointer none) 1 8 Try.underlying26 k1 k2 k3 k4 rfl (by decide)
    av k _ (World.ownsRow.alloc own3 _) ⟨w3.heap.size, 0, Option.none⟩ 1 1 (lv9 (fun _ => .pointer (some p)) 1) (by rw [lv9_len]) (fun j u hu => World.news_of_block (heap_alloc_new w3 _) j u (by simpa [lv9] using hu))
    (fun u hu => by
      simp [lv9] at hu
      subst hu
      rfl) (by decide) (by unfold maxLen; omega) (by omega) (by simp; omega) (w3.heap.size + 1) (by simp)
  have hsz : (w3.alloc (.cells #[.pointer (some p)] 33)).heap.size = w3.heap.size + 1 := by simp
  have hgs := gr.size
  have hblk : ∀ x, x < w3.heap.size → av.ownBlock ≠ some x → w5.heap[x]? = w3.heap[x]? := fun x hx hne => (gr.block x (by omega) (fun e => hne e.symm)).trans (Below.heap_alloc w3 _ x hx)
  refine ⟨_, w5, hrun, ⟨gr.os.trans (hb.os.trans h.bel.os), gr.tape.trans (hb.tape.trans h.bel.tape), gr.output.trans (hb.output.trans h.bel.output), by omega, fun x hx => ?_⟩, ?_, fun r hr => ?_⟩
  · have : w5.heap[x]? = w3.heap[x]? := hblk x (by omega) (fun e => by have := (World.ownsRow.lt h.own x e).1; omega)
    rw [this, hb.block x (by omega)]
    exact h.bel.block x hx
  · rw [lv9_snoc] at own
    have e : lv9 (fun r => if r < k then Value.pointer (some (P r)) else .pointer (some p)) (k + 1) = lv9 (fun r => Value.pointer (some (upn P k p r))) (k + 1) := lv9_congr (fun r hr => by
      by_cases e : r = k
      · subst e; rw [if_neg (Nat.lt_irrefl _), upn_same]
      · rw [if_pos (by omega), upn_other _ _ e])
    rw [← e]
    exact own
  · have eg : ∀ x, (Value.slice (some ⟨g, 0, none⟩) (k + 1) cp).ownBlock = some x → x = g := fun x e => by simpa [Value.ownBlock] using e.symm
    by_cases e : r = k
    · subst e
      rw [upn_same, upn_same, upn_same]
      refine ⟨hk.keep (by omega) (fun x h1 h2 => hblk x (by omega) (fun e => ?_)), fun x hx => ?_⟩
      · have := (World.ownsRow.lt h.own x e).2; omega
      · have := eg x hx
        subst this
        rcases lies with l | l
        · have := (World.ownsRow.lt h.own x l).2; omega
        · omega
    · rw [upn_other _ _ e, upn_other _ _ e, upn_other _ _ e]
      obtain ⟨s1, s2⟩ := h.set r (by omega)
      have s3 := s1.hi
      refine ⟨(s1.below hb).keep (by omega) (fun x h1 h2 => hblk x (by omega) (fun e => ?_)), fun x hx => ?_⟩
      · have := s2 x e; omega
      · have := eg x hx
        subst this
        rcases lies with l | l
        · exact s2 x l
        · omega
/-- three sets, one of each backend. -/
def Sv (w : World) (v : Value) (g c : Nat) (P : Nat → Addr) : Prop := ∃ lo hi : Nat → Nat, v = .slice (some ⟨g, 0, none⟩) 3 c ∧ 3 ≤ c ∧ c ≤ big ∧ g < w.heap.size ∧ ∀ i, i < 3 → w.cell? ⟨g, i, none⟩ = some (.pointer (some (P i))) ∧ Ks w (P i) i (lo i) (hi i)
theorem Sv.below {w w' : World} {v : Value} {g c : Nat} {P : Nat → Addr} (h : Sv w v g c P) (hb : Below w.heap.size w w') : Sv w' v g c P := by
  obtain ⟨lo, hi, h1, h2, h3, h4, h5⟩ := h
  exact ⟨lo, hi, h1, h2, h3, Nat.lt_of_lt_of_le h4 hb.size, fun i hi => ⟨(hb.cell (p := ⟨g, i, none⟩) h4).trans (h5 i hi).1, (h5 i hi).2.below hb⟩⟩
theorem Sg.sv {w0 w : World} {av : Value} {P : Nat → Addr} {lo hi : Nat → Nat} (h : Sg w0 w av 3 P lo hi) : ∃ g c, Sv w av g c P := by
  obtain ⟨g, cap, rfl, g1, g2⟩ := h.own.form (by decide)
  rcases h.own.2 with ⟨-, h0⟩ | ⟨g', cap', cur, e, a1, a2, a3, a4, a5, a6⟩
  · cases h0
  · cases e
    refine ⟨g, cap, lo, hi, rfl, a3, by unfold big; unfold maxLen at a4; omega, g2, fun i hi' => ⟨?_, (h.set i hi').1⟩⟩
    rw [World.ownsRow.cellAt (j := i) h.own (by omega), lv9_get _ hi']

set_option maxHeartbeats 4000000 in
set_option maxRecDepth 100000 in
theorem sets9_any (w : World) :
    Calls Try.prog 6 #[] w fun e w' => ∃ v g c P, e = .returned v ∧ Sv w' v g c P ∧ Below w.heap.size w w' := by
  have bL : Below w.heap.size w (w.alloc (.cells #[.int .i64 0, .int .i64 1, .int .i64 2] 59)) := (Below.refl _ _).alloc (Nat.le_refl _) _
  have z : ∀ i, i < 3 → (w.alloc (.cells #[.int .i64 0, .int .i64 1, .int .i64 2] 59)).cell? ⟨w.heap.size, i, none⟩ = some (.int .i64 (i : Nat)) := by
    intro i hi
    have : i = 0 ∨ i = 1 ∨ i = 2 := by omega
    rcases this with rfl | rfl | rfl <;> (unfold World.cell?; rw [heap_alloc_new]; rfl)
  have hsL : (w.alloc (.cells #[.int .i64 0, .int .i64 1, .int .i64 2] 59)).heap.size = w.heap.size + 1 := by simp
  generalize hW : w.alloc (.cells #[.int .i64 0, .int .i64 1, .int .i64 2] 59) = wL at bL z hsL
  go_enter Try.func6, Try.ntmps6
  go_wp2
  go_loopw [1, 8] (fun o i wr => ∃ k P lo hi, k ≤ 3 ∧ i = .int .i64 (k : Nat) ∧ Sg wL wr o k P lo hi) (fun _ i _ => 3 - (intOf i).toNat)
  case atStart =>
    exact ⟨0, fun _ => ⟨0, 0, none⟩, fun _ => 0, fun _ => 0, Nat.zero_le _, rfl, Sg.start _ _ _ _⟩
  case round =>
    clear hW
    obtain ⟨k, P, lo, hi, hk, rfl, hG⟩ := hrel
    obtain ⟨oa, oC, rfl⟩ := hG.form
    by_cases hlt : k < 3
    · have q1 : wr.cell? ⟨w.heap.size, k, none⟩ = some (.int .i64 (k : Nat)) := (hG.bel.cell (p := ⟨w.heap.size, k, none⟩) (by simp only []; omega)).trans (z k hlt)
      have cN := knew_ok k wr (by omega)
      have HA : Hid (∀ w3 p, Ks w3 p k wr.heap.size w3.heap.size → Below wr.heap.size wr w3 → ∀ w4, Below w3.heap.size w3 w4 → ∃ v5 w5, (Builtin.append_ #[26, 26] 26 #[.slice oa k oC, .slice (some ⟨w4.heap.size, 0, none⟩) 1 1]).run Try.prog (w4.alloc (.cells #[.pointer (some p)] 33)) = .ok v5 w5 ∧ Sg wL w5 v5 (k + 1) (upn P k p) (upn lo k wr.heap.size) (upn hi k w3.heap.size)) :=
        fun w3 p s3 b3 w4 b4 => sg_run hG (b3.trans (b4.mono b3.size)) (s3.below b4) (by omega)
      have ib : ((k : Nat) : Int) < 3 := by omega
      have W1 : wrap64 ((k : Int) + 1) = (k : Int) + 1 := by unfold wrap64; omega
      clear hG z
      go_wp2_with (first
        | (go_at_call 22; (with_reducible refine cN.mono ?_); rintro e w3 ⟨p, rfl, s3, b3⟩; clear cN; have cB := kback_ok p k _ _ w3 s3; replace HA := HA.out w3 p s3 b3; replace HA : Hid _ := HA)
        | (go_at_call 23; (with_reducible refine cB.mono ?_); rintro e w4 ⟨rfl, b4⟩; clear cB; obtain ⟨v5, w5, hrun, hG5⟩ := HA.out w4 b4)
        | (at_builtin; refine Lib.wpList_append_run _ rfl _ _ _ _ rfl _ _ rfl rfl _ _ hrun ?_))
      go_roundw
      case rel => exact ⟨k + 1, _, _, _, by omega, by first | rfl | (rw [W1]; rfl), hG5⟩
      case measure => first | (rw [W1]; simp [intOf]; omega) | (simp [intOf]; omega)
    · have hk3 : k = 3 := by omega
      subst hk3
      obtain ⟨g, c, hS⟩ := hG.sv
      have HB : Hid (Below w.heap.size w wr) := bL.trans (hG.bel.mono bL.size)
      clear hG z
      go_wp2
      go_ret
      exact ⟨_, g, c, P, rfl, hS, HB.out⟩
end Go.Proofs.Ytdeophhcbkahgaa
namespace Go.Proofs.Ytdeophhcbkahgaa
open Go.RowKit Gf2
set_option linter.unusedVariables false

theorem fix9_dot (w : World) (p : Addr) (bk lo hi : Nat) (hk : Ks w p bk lo hi) :
    Calls Try.prog 11 #[.pointer (some p), .slice (some ⟨w.heap.size + 1, 0, none⟩) 2 2, .slice (some ⟨w.heap.size + 1 + 1 + 1 + 1, 0, none⟩) 2 2, .slice (some ⟨w.heap.size, 0, none⟩) 2 2]
      (((((w.alloc (.cells #[.int .u8 7, .int .u8 7] 5)).alloc (.cells #[.int .u8 1, .int .u8 2] 5)).alloc (.cells #[.int .u8 3, .int .u8 0] 5)).alloc (.cells #[.int .u8 1, .int .u8 128] 5)).alloc (.cells #[.slice (some ⟨w.heap.size + 1 + 1, 0, none⟩) 2 2, .slice (some ⟨w.heap.size + 1 + 1 + 1, 0, none⟩) 2 2] 22))
      fun e w' => e = .returned (.int .i64 0) ∧ Rw w' w.heap.size 2 (fun i => [1, 29].getD i 0) ∧ Below w.heap.size w w' := by
  have r0 := lit_rw [7, 7] w (by decide) (by decide)
  obtain ⟨w1, h1⟩ : ∃ x, x = w.alloc (.cells #[.int .u8 7, .int .u8 7] 5) := ⟨_, rfl⟩
  have s1 : w1.heap.size = w.heap.size + 1 := by rw [h1]; simp
  have b1 : Below w.heap.size w w1 := by rw [h1]; exact (Below.refl _ _).alloc (Nat.le_refl _) _
  have r0 : Rw w1 w.heap.size 2 (fun i => [7, 7].getD i 0) := by rw [h1]; exact r0
  rw [← h1]
  clear h1
  have r1 := lit_rw [1, 2] w1 (by decide) (by decide)
  obtain ⟨w2, h2⟩ : ∃ x, x = w1.alloc (.cells #[.int .u8 1, .int .u8 2] 5) := ⟨_, rfl⟩
  have s2 : w2.heap.size = w.heap.size + 2 := by rw [h2]; simp; omega
  have b2 : Below w1.heap.size w1 w2 := by rw [h2]; exact (Below.refl _ _).alloc (Nat.le_refl _) _
  have r1 : Rw w2 (w.heap.size + 1) 2 (fun i => [1, 2].getD i 0) := by rw [h2, ← s1]; exact r1
  rw [← h2]
  clear h2
  have r2 := lit_rw [3, 0] w2 (by decide) (by decide)
  obtain ⟨w3, h3⟩ : ∃ x, x = w2.alloc (.cells #[.int .u8 3, .int .u8 0] 5) := ⟨_, rfl⟩
  have s3 : w3.heap.size = w.heap.size + 3 := by rw [h3]; simp; omega
  have b3 : Below w2.heap.size w2 w3 := by rw [h3]; exact (Below.refl _ _).alloc (Nat.le_refl _) _
  have r2 : Rw w3 (w.heap.size + 2) 2 (fun i => [3, 0].getD i 0) := by rw [h3, ← s2]; exact r2
  rw [← h3]
  clear h3
  have r3 := lit_rw [1, 128] w3 (by decide) (by decide)
  obtain ⟨w4, h4⟩ : ∃ x, x = w3.alloc (.cells #[.int .u8 1, .int .u8 128] 5) := ⟨_, rfl⟩
  have s4 : w4.heap.size = w.heap.size + 4 := by rw [h4]; simp; omega
  have b4 : Below w3.heap.size w3 w4 := by rw [h4]; exact (Below.refl _ _).alloc (Nat.le_refl _) _
  have r3 : Rw w4 (w.heap.size + 3) 2 (fun i => [1, 128].getD i 0) := by rw [h4, ← s3]; exact r3
  rw [← h4]
  clear h4
  have z := heap_alloc_new w4 (.cells #[.slice (some ⟨w.heap.size + 1 + 1, 0, none⟩) 2 2, .slice (some ⟨w.heap.size + 1 + 1 + 1, 0, none⟩) 2 2] 22)
  obtain ⟨w5, h5⟩ : ∃ x, x = w4.alloc (.cells #[.slice (some ⟨w.heap.size + 1 + 1, 0, none⟩) 2 2, .slice (some ⟨w.heap.size + 1 + 1 + 1, 0, none⟩) 2 2] 22) := ⟨_, rfl⟩
  have b5 : Below w4.heap.size w4 w5 := by rw [h5]; exact (Below.refl _ _).alloc (Nat.le_refl _) _
  have s5 : w5.heap.size = w.heap.size + 5 := by rw [h5]; simp; omega
  rw [← h5] at z ⊢
  rw [s4] at z
  clear h5
  have q0 : w5.cell? ⟨w.heap.size + 4, 0, none⟩ = some (.slice (some ⟨w.heap.size + 1 + 1, 0, none⟩) 2 2) := by unfold World.cell?; rw [z]; rfl
  have q1 : w5.cell? ⟨w.heap.size + 4, 1, none⟩ = some (.slice (some ⟨w.heap.size + 1 + 1 + 1, 0, none⟩) 2 2) := by unfold World.cell?; rw [z]; rfl
  have c45 : Below w4.heap.size w4 w5 := b5
  have c35 : Below w3.heap.size w3 w5 := b4.trans (c45.mono b4.size)
  have c25 : Below w2.heap.size w2 w5 := b3.trans (c35.mono b3.size)
  have c15 : Below w1.heap.size w1 w5 := b2.trans (c25.mono b2.size)
  have c05 : Below w.heap.size w w5 := b1.trans (c15.mono b1.size)
  have R0 := rw_below r0 c15
  have R1 := rw_below r1 c25
  have R2 := rw_below r2 c35
  have R3 := rw_below r3 c45
  have hki := hk.hi
  refine (kdot_ok p bk lo hi 2 2 w.heap.size 0 2 _ (fun i => [1, 2].getD i 0) (fun r => if r = 0 then fun i => [3, 0].getD i 0 else fun i => [1, 128].getD i 0) _ 2 _ _ w5 (Nat.le_refl _) (by decide) (hk.below c05) (by decide) (by decide) (by omega) R0 (fun _ => rfl) (by decide) (R1.re (Nat.le_refl _) (Nat.le_refl _) (by decide) (by omega))
    ⟨fun r => if r = 0 then .slice (some ⟨w.heap.size + 1 + 1, 0, none⟩) 2 2 else .slice (some ⟨w.heap.size + 1 + 1 + 1, 0, none⟩) 2 2, ⟨by decide, _, 2, rfl, Nat.le_refl _, by decide, fun _ => ⟨w.heap.size + 4, 0, rfl, ⟨by omega, by omega⟩, fun i hi => ?_⟩⟩, fun i hi => ?_⟩).mono ?_
  · have : i = 0 ∨ i = 1 := by omega
    rcases this with rfl | rfl
    · exact q0
    · exact q1
  · have : i = 0 ∨ i = 1 := by omega
    rcases this with rfl | rfl
    · exact R2.re (Nat.le_refl _) (Nat.le_refl _) (by decide) (by omega)
    · exact R3.re (Nat.le_refl _) (Nat.le_refl _) (by decide) (by omega)
  · rintro e w' ⟨rfl, h1, h2⟩
    refine ⟨rfl, h2.congr (fun i hi => ?_), c05.trans (h1.below (Nat.le_refl _) c05.size)⟩
    match i, hi with
    | 0, _ => decide +kernel
    | 1, _ => decide +kernel
    | i + 2, h => exact absurd h (by omega)
theorem fix9_eq (w W : World) (g : Nat) (h : Rw W g 2 (fun i => [1, 29].getD i 0)) (hb : Below w.heap.size w W) :
    Calls Try.prog 18 #[.slice (some ⟨g, 0, none⟩) 2 2, .slice (some ⟨W.heap.size, 0, none⟩) 2 2] (W.alloc (.cells #[.int .u8 1, .int .u8 29] 5)) fun e w' => e = .returned (.bool true) ∧ Below w.heap.size w w' := by
  have r := lit_rw [1, 29] W (by decide) (by decide)
  have bA : Below W.heap.size W (W.alloc (.cells #[.int .u8 1, .int .u8 29] 5)) := (Below.refl _ _).alloc (Nat.le_refl _) _
  refine (equal9_true _ _ 2 _ _ (rw_below h bA).rb0 r.rb0).mono ?_
  rintro e w' ⟨rfl, m, rfl⟩
  exact ⟨rfl, below_drewN (hb.trans (bA.mono hb.size)) m⟩

set_option maxHeartbeats 4000000 in
set_option maxRecDepth 100000 in
theorem fixed9_any (w : World) :
    Calls Try.prog 7 #[] w fun e w' => e = .returned (.bool true) ∧ Below w.heap.size w w' := by
  have c1 := sets9_any w
  go_enter Try.func7, Try.ntmps7
  go_wp2_with (go_at_call 6; (with_reducible refine c1.mono ?_); rintro e w1 ⟨v, g, c, P, rfl, hS, hb1⟩; clear c1; obtain ⟨lo, hi, rfl, s1, s2, s3, s4⟩ := hS)
  go_loopw [12] (fun i wr => ∃ k : Nat, k ≤ 3 ∧ i = .int .i64 k ∧ Below w1.heap.size w1 wr) (fun i _ => 3 - (intOf i).toNat)
  case atStart => exact ⟨0, Nat.zero_le _, rfl, Below.refl _ _⟩
  case round =>
    obtain ⟨k, hk, rfl, hb⟩ := hrel
    by_cases hlt : k < 3
    · have q1 : wr.cell? ⟨g, k, none⟩ = some (.pointer (some (P k))) := (hb.cell (p := ⟨g, k, none⟩) s3).trans (s4 k hlt).1
      have cD := fix9_dot wr (P k) k (lo k) (hi k) ((s4 k hlt).2.below hb)
      have HB : Hid (Below w1.heap.size w1 wr) := hb
      have ib : ((k : Nat) : Int) < 3 := by omega
      have W1 : wrap64 ((k : Int) + 1) = (k : Int) + 1 := by unfold wrap64; omega
      clear s4 hb
      go_wp2_with (first
        | (go_at_call 11; (with_reducible refine cD.mono ?_); rintro e w2 ⟨rfl, r2, b2⟩; clear cD; have cE := fix9_eq wr w2 _ r2 b2)
        | (go_at_call 18; (with_reducible refine cE.mono ?_); rintro e w3 ⟨rfl, b3⟩; clear cE))
      go_roundw
      case rel => exact ⟨k + 1, by omega, by first | rfl | (rw [W1]; rfl), HB.out.trans (b3.mono HB.out.size)⟩
      case measure => first | (rw [W1]; simp [intOf]; omega) | (simp [intOf]; omega)
    · have HB : Hid (Below w.heap.size w wr) := hb1.trans (hb.mono hb1.size)
      clear s4 hb
      have hk3 : k = 3 := by omega
      subst hk3
      go_wp2
      go_ret
      exact ⟨rfl, HB.out⟩
end Go.Proofs.Ytdeophhcbkahgaa
namespace Go.Proofs.Ytdeophhcbkahgaa
open Go.ChangeShapes Go.WideShapes Go.ChangeAt Go.RowKit Go.Deep
set_option linter.unusedVariables false

/-- a call's ten cells. -/
def cv9 (kind : Int) (c : Nat) (vr vR vS vD vd vs : Value) (fr to : Int) : Array Value := #[.int .i64 kind, .int .u8 (c : Int), vr, vR, vS, vD, vd, vs, .int .i64 fr, .int .i64 to]
/-- what a call came in with. -/
structure In9 (W : World) (c : Nat) (vr vR vS vD vd vs : Value) : Prop where
  hc : c < 256
  row : Bm9 W vr
  rows : Lm9 W vR
  srcs : Lm9 W vS
  dsts : Lm9 W vD
  dst : Bm9 W vd
  src : Bm9 W vs
theorem In9.below {W W' : World} {c : Nat} {vr vR vS vD vd vs : Value} (h : In9 W c vr vR vS vD vd vs) (hb : Below W.heap.size W W') : In9 W' c vr vR vS vD vd vs :=
  ⟨h.hc, h.row.below hb, h.rows.below hb, h.srcs.below hb, h.dsts.below hb, h.dst.below hb, h.src.below hb⟩
set_option maxHeartbeats 2000000 in
set_option maxRecDepth 100000 in
theorem open_call9 {H : Type} {enc : TypeId × Value → H} {W : World} {base : Nat} {held : Bool} {fuel : Nat} {cs : List Value} {x : DataW H × List MemPlace}
    (h : DataW.trod enc Try.prog W base (fun _ => true) held fuel 25 cs = some x) (hsz : ∀ n ∈ x.1.weights Try.prog 25, n ≤ reachBytes) :
    ∃ kind c vr vR vS vD vd vs fr to, cs = (cv9 kind c vr vR vS vD vd vs fr to).toList ∧ In9 W c vr vR vS vD vd vs := by
  have c10 : Try.prog.cellsOf 25 = 10 := by kernel_rfl
  have c3 : Try.prog.cellsOf 3 = 1 := by kernel_rfl
  have c5 : Try.prog.cellsOf 5 = 1 := by kernel_rfl
  have c22 : Try.prog.cellsOf 22 = 1 := by kernel_rfl
  have c23 : Try.prog.cellsOf 23 = 1 := by kernel_rfl
  obtain ⟨xs, k, hk, hxy, hlen, hxl, hf⟩ := DataW.trod_struct Try.underlying25 h
  rw [c10] at hlen
  have hD : x.1 = .agg (xs.map (·.1)) := congrArg Prod.fst hxy
  rw [hD] at hsz
  simp only [DataW.weights, Try.underlying25] at hsz
  obtain ⟨y0, y1, y2, y3, y4, y5, y6, y7, y8, y9, hxs⟩ : ∃ y0 y1 y2 y3 y4 y5 y6 y7 y8 y9, xs = [y0, y1, y2, y3, y4, y5, y6, y7, y8, y9] := by
    match xs, hxl with
    | [y0, y1, y2, y3, y4, y5, y6, y7, y8, y9], _ => exact ⟨_, _, _, _, _, _, _, _, _, _, rfl⟩
  obtain ⟨v0, v1, v2, v3, v4, v5, v6, v7, v8, v9, hcs'⟩ : ∃ v0 v1 v2 v3 v4 v5 v6 v7 v8 v9, cs = [v0, v1, v2, v3, v4, v5, v6, v7, v8, v9] := by
    match cs, hlen with
    | [v0, v1, v2, v3, v4, v5, v6, v7, v8, v9], _ => exact ⟨_, _, _, _, _, _, _, _, _, _, rfl⟩
  subst hxs hcs'
  have g0 := hf 0 _ rfl
  have g1 := hf 1 _ rfl
  have g2 := hf 2 _ rfl
  have g3 := hf 3 _ rfl
  have g4 := hf 4 _ rfl
  have g5 := hf 5 _ rfl
  have g6 := hf 6 _ rfl
  have g7 := hf 7 _ rfl
  have g8 := hf 8 _ rfl
  have g9 := hf 9 _ rfl
  simp [c3, c5, c22, c23] at g0 g1 g2 g3 g4 g5 g6 g7 g8 g9
  obtain ⟨k0, e0, -, w0⟩ := DataW.trod_int Try.underlying3 g0
  obtain ⟨k1, e1, -, w1⟩ := DataW.trod_int Try.underlying5 g1
  obtain ⟨k8, e8, -, w8⟩ := DataW.trod_int Try.underlying3 g8
  obtain ⟨k9, e9, -, w9⟩ := DataW.trod_int Try.underlying3 g9
  have b2 := open_bytes9 g2 (fun n hn => hsz n (DataW.weights_mem_each (j := 2) rfl rfl n hn))
  have b3 := open_lists9 g3 (fun n hn => hsz n (DataW.weights_mem_each (j := 3) rfl rfl n hn))
  have b4 := open_lists9 g4 (fun n hn => hsz n (DataW.weights_mem_each (j := 4) rfl rfl n hn))
  have b5 := open_lists9 g5 (fun n hn => hsz n (DataW.weights_mem_each (j := 5) rfl rfl n hn))
  have b6 := open_bytes9 g6 (fun n hn => hsz n (DataW.weights_mem_each (j := 6) rfl rfl n hn))
  have b7 := open_bytes9 g7 (fun n hn => hsz n (DataW.weights_mem_each (j := 7) rfl rfl n hn))
  simp at e0 e1 e8 e9
  subst e0 e1 e8 e9
  have d1 := bounds_u8 w1
  have t1 : ((k1.toNat : Nat) : Int) = k1 := by omega
  refine ⟨k0, k1.toNat, v2, v3, v4, v5, v6, v7, k8, k9, ?_, by omega, b2, b3, b4, b5, b6, b7⟩
  unfold cv9
  rw [t1]
set_option maxRecDepth 100000 in
theorem open_callA9 {H : Type} {enc : TypeId × Value → H} {W W' : World} {base base' : Nat} {held : Bool} {v : Value} {d : DataW H} {p : List MemPlace}
    (ho : Value.okWide Try.prog W' .any base' 25 v) (h : DataW.Trod enc Try.prog W base (fun _ => true) held 25 v d p) (hsz : ∀ n ∈ d.weights Try.prog 25, n ≤ reachBytes) :
    ∃ kind c vr vR vS vD vd vs fr to, v = .agg (cv9 kind c vr vR vS vD vd vs fr to) ∧ In9 W c vr vR vS vD vd vs := by
  obtain ⟨cs, rfl, -⟩ := okWide_struct Try.underlying25 ho
  obtain ⟨fuel, hf⟩ := h
  obtain ⟨kind, c, vr, vR, vS, vD, vd, vs, fr, to, e, hI⟩ := open_call9 hf hsz
  refine ⟨kind, c, vr, vR, vS, vD, vd, vs, fr, to, ?_, hI⟩
  congr 1
  apply Array.toList_inj.1
  simpa [Value.cells] using e
end Go.Proofs.Ytdeophhcbkahgaa
namespace Go.Proofs.Ytdeophhcbkahgaa
open Go.RowKit Gf2
set_option linter.unusedVariables false

/-- a span in its box. -/
structure Sb9 (w : World) (g : Nat) (fr to : Int) : Prop where
  blk : w.heap[g]? = some (.cells #[.int .i64 fr, .int .i64 to] 30 (0, 0))
theorem Sb9.lt {w : World} {g : Nat} {fr to : Int} (h : Sb9 w g fr to) : g < w.heap.size := (Array.getElem?_eq_some_iff.1 h.blk).1
theorem Sb9.below {w w' : World} {g : Nat} {fr to : Int} (h : Sb9 w g fr to) (hb : Below w.heap.size w w') : Sb9 w' g fr to := ⟨by rw [hb.block g h.lt]; exact h.blk⟩
theorem Sb9.c0 {w : World} {g : Nat} {fr to : Int} (h : Sb9 w g fr to) : w.cell? ⟨g, 0, none⟩ = some (.int .i64 fr) := by
  unfold World.cell?
  rw [h.blk]
  rfl
theorem Sb9.c1 {w : World} {g : Nat} {fr to : Int} (h : Sb9 w g fr to) : w.cell? ⟨g, 1, none⟩ = some (.int .i64 to) := by
  unfold World.cell?
  rw [h.blk]
  rfl
/-- without the draw. -/
theorem _root_.Go.RowKit.Below.undraw {x y : World} (h : Below x.drew.heap.size x.drew y) : Below x.heap.size x y := ⟨h.os, h.tape, h.output, h.size, h.block⟩
/-- one list copied. -/
theorem cd9 (v : Value) (n : Nat) (S : Nat → Nat) (W : World) (h : Rb W v n S) (hn : n ≤ 140737488351232) :
    Calls Try.prog 8 #[v] W fun e w' => ∃ g, e = .returned (.slice (some ⟨g, 0, none⟩) n n) ∧ Rw w' g n S ∧ W.heap.size ≤ g ∧ Below W.heap.size W w' :=
  (copied9_any v n S W h (by omega)).mono fun e w' ⟨a1, a2, a3, _⟩ => ⟨_, a1, a2, Nat.le_refl _, a3⟩
theorem same9 {Y : World} {u v : Value} (h : ∃ n F, Rb Y u n F ∧ Rb Y v n F) (q : Nat) : Calls Try.prog 18 #[u, v] (Y.drewN q) fun e w' => e = .returned (.bool true) ∧ ∃ m, w' = (Y.drewN q).drewN m := by
  obtain ⟨n, F, h1, h2⟩ := h
  exact equal9_true u v n F (Y.drewN q) h1 h2
theorem same90 {Y : World} {u v : Value} (h : ∃ n F, Rb Y u n F ∧ Rb Y v n F) : Calls Try.prog 18 #[u, v] Y fun e w' => e = .returned (.bool true) ∧ ∃ m, w' = Y.drewN m := by
  obtain ⟨n, F, h1, h2⟩ := h
  exact equal9_true u v n F Y h1 h2
theorem sames9 {Y : World} {u v : Value} (h : ∃ m n F, Lb Y u m n F ∧ Lb Y v m n F) (q : Nat) : Calls Try.prog 15 #[u, v] (Y.drewN q) fun e w' => e = .returned (.bool true) ∧ ∃ m, w' = (Y.drewN q).drewN m := by
  obtain ⟨m, n, F, h1, h2⟩ := h
  exact all9_true u v m n F F (Y.drewN q) (Ll.ke h1 ((Ke.refl _ _).drewN q)) (Ll.ke h2 ((Ke.refl _ _).drewN q)) (fun _ _ _ _ => rfl)
theorem own8_rb9 {w w' : World} {g C n : Nat} {F : Nat → Nat} (h : Own8 w w' g C n F) : Rb w' (.slice (some ⟨g, 0, none⟩) n C) n F := own8_rb h

theorem sames90 {Y : World} {u v : Value} (h : ∃ m n F, Lb Y u m n F ∧ Lb Y v m n F) : Calls Try.prog 15 #[u, v] Y fun e w' => e = .returned (.bool true) ∧ ∃ m, w' = Y.drewN m := by
  obtain ⟨m, n, F, h1, h2⟩ := h
  exact all9_true u v m n F F Y h1 h2 (fun _ _ _ _ => rfl)
theorem span_cells (x : World) (fr to : Int) : (x.alloc (.cells #[.int .i64 fr, .int .i64 to] 30)).cell? ⟨x.heap.size, 0, none⟩ = some (.int .i64 fr) ∧ (x.alloc (.cells #[.int .i64 fr, .int .i64 to] 30)).cell? ⟨x.heap.size, 1, none⟩ = some (.int .i64 to) := by
  constructor <;> (unfold World.cell?; rw [heap_alloc_new]; rfl)
theorem Bm9.form {W : World} {v : Value} (h : Bm9 W v) : ∃ x n c, v = .slice x n c := by
  obtain ⟨n, S, h1, -⟩ := h
  obtain ⟨x, c, e⟩ := h1.form9
  exact ⟨x, n, c, e⟩
theorem Lm9.form {W : World} {v : Value} (h : Lm9 W v) : ∃ x n c, v = .slice x n c := by
  obtain ⟨m, n, S, h1, -⟩ := h
  obtain ⟨x, c, e⟩ := Lb.form h1
  exact ⟨x, m, c, e⟩

end Go.Proofs.Ytdeophhcbkahgaa
namespace Go.Proofs.Ytdeophhcbkahgaa
open Go.RowKit Gf2
set_option linter.unusedVariables false

/-- a call in its box. -/
structure Bx9 (w : World) (g : Nat) (kind : Int) (c : Nat) (vr vR vS vD vd vs : Value) (fr to : Int) : Prop where
  blk : w.heap[g]? = some (.cells (cv9 kind c vr vR vS vD vd vs fr to) 25 (0, 0))
theorem Bx9.cell {w : World} {g : Nat} {kind : Int} {c : Nat} {vr vR vS vD vd vs : Value} {fr to : Int} (h : Bx9 w g kind c vr vR vS vD vd vs fr to) {i : Nat} {v : Value} (hv : (cv9 kind c vr vR vS vD vd vs fr to)[i]? = some v) : w.cell? ⟨g, i, none⟩ = some v := by
  unfold World.cell?
  rw [h.blk]
  simpa using hv
theorem Bx9.lt {w : World} {g : Nat} {kind : Int} {c : Nat} {vr vR vS vD vd vs : Value} {fr to : Int} (h : Bx9 w g kind c vr vR vS vD vd vs fr to) : g < w.heap.size := (Array.getElem?_eq_some_iff.1 h.blk).1
theorem Bx9.of {w w' : World} {g : Nat} {kind : Int} {c : Nat} {vr vR vS vD vd vs : Value} {fr to : Int} (h : Bx9 w g kind c vr vR vS vD vd vs fr to) (e : w'.heap[g]? = w.heap[g]?) : Bx9 w' g kind c vr vR vS vD vd vs fr to := ⟨by rw [e]; exact h.blk⟩
theorem Bx9.below {w w' : World} {g : Nat} {kind : Int} {c : Nat} {vr vR vS vD vd vs : Value} {fr to : Int} (h : Bx9 w g kind c vr vR vS vD vd vs fr to) (hb : Below w.heap.size w w') : Bx9 w' g kind c vr vR vS vD vd vs fr to := h.of (hb.block g h.lt)
theorem Bx9.new (w : World) (kind : Int) (c : Nat) (vr vR vS vD vd vs : Value) (fr to : Int) : Bx9 (w.alloc (.cells (cv9 kind c vr vR vS vD vd vs fr to) 25)) w.heap.size kind c vr vR vS vD vd vs fr to := ⟨heap_alloc_new _ _⟩

/-- what a call came in with, told. -/
structure Iq9 (W : World) (c : Nat) (vr vR vS vD vd vs : Value) (nr : Nat) (R : Nat → Nat) (mR : Nat) (nR : Nat → Nat) (RR : Nat → Nat → Nat) (mS : Nat) (nS : Nat → Nat) (SS : Nat → Nat → Nat) (mD : Nat) (nD : Nat → Nat) (DD : Nat → Nat → Nat) (nd : Nat) (D : Nat → Nat) (ns : Nat) (S : Nat → Nat) : Prop where
  hc : c < 256
  row : Rb W vr nr R
  rowl : nr ≤ 140737488351232
  rows : Lb W vR mR nR RR
  rowsl : 24 * mR ≤ 140737488351232
  rowsn : ∀ i, i < mR → nR i ≤ 140737488351232
  srcs : Lb W vS mS nS SS
  srcsl : 24 * mS ≤ 140737488351232
  srcsn : ∀ i, i < mS → nS i ≤ 140737488351232
  dsts : Lb W vD mD nD DD
  dstsl : 24 * mD ≤ 140737488351232
  dstsn : ∀ i, i < mD → nD i ≤ 140737488351232
  dst : Rb W vd nd D
  dstl : nd ≤ 140737488351232
  src : Rb W vs ns S
  srcl : ns ≤ 140737488351232
theorem In9.iq {W : World} {c : Nat} {vr vR vS vD vd vs : Value} (h : In9 W c vr vR vS vD vd vs) : ∃ nr R mR nR RR mS nS SS mD nD DD nd D ns S, Iq9 W c vr vR vS vD vd vs nr R mR nR RR mS nS SS mD nD DD nd D ns S := by
  obtain ⟨hc, ⟨nr, R, a1, a2⟩, ⟨mR, nR, RR, b1, b2, b3⟩, ⟨mS, nS, SS, c1, c2, c3⟩, ⟨mD, nD, DD, d1, d2, d3⟩, ⟨nd, D, e1, e2⟩, ⟨ns, S, f1, f2⟩⟩ := h
  exact ⟨nr, R, mR, nR, RR, mS, nS, SS, mD, nD, DD, nd, D, ns, S, hc, a1, a2, b1, b2, b3, c1, c2, c3, d1, d2, d3, e1, e2, f1, f2⟩
theorem Iq9.below {W W' : World} {c : Nat} {vr vR vS vD vd vs : Value} {nr : Nat} {R : Nat → Nat} {mR : Nat} {nR : Nat → Nat} {RR : Nat → Nat → Nat} {mS : Nat} {nS : Nat → Nat} {SS : Nat → Nat → Nat} {mD : Nat} {nD : Nat → Nat} {DD : Nat → Nat → Nat} {nd : Nat} {D : Nat → Nat} {ns : Nat} {S : Nat → Nat}
    (h : Iq9 W c vr vR vS vD vd vs nr R mR nR RR mS nS SS mD nD DD nd D ns S) (hb : Below W.heap.size W W') : Iq9 W' c vr vR vS vD vd vs nr R mR nR RR mS nS SS mD nD DD nd D ns S := by
  obtain ⟨hc, a1, a2, b1, b2, b3, c1, c2, c3, d1, d2, d3, e1, e2, f1, f2⟩ := h
  exact ⟨hc, a1.below hb, a2, Lb.below b1 hb, b2, b3, Lb.below c1 hb, c2, c3, Lb.below d1 hb, d2, d3, e1.below hb, e2, f1.below hb, f2⟩
/-- a call and its span in their boxes, and what came in. -/
structure Bs9 (x : World) (g : Nat) (kind : Int) (c : Nat) (vr vR vS vD vd vs : Value) (fr to : Int) (nr : Nat) (R : Nat → Nat) (mR : Nat) (nR : Nat → Nat) (RR : Nat → Nat → Nat) (mS : Nat) (nS : Nat → Nat) (SS : Nat → Nat → Nat) (mD : Nat) (nD : Nat → Nat) (DD : Nat → Nat → Nat) (nd : Nat) (D : Nat → Nat) (ns : Nat) (S : Nat → Nat) : Prop where
  bx : Bx9 x g kind c vr vR vS vD vd vs fr to
  sb : Sb9 x (g + 1) fr to
  iq : Iq9 x c vr vR vS vD vd vs nr R mR nR RR mS nS SS mD nD DD nd D ns S
section
variable {W W' : World} {g : Nat} {kind : Int} {c : Nat} {vr vR vS vD vd vs : Value} {fr to : Int} {nr : Nat} {R : Nat → Nat} {mR : Nat} {nR : Nat → Nat} {RR : Nat → Nat → Nat} {mS : Nat} {nS : Nat → Nat} {SS : Nat → Nat → Nat} {mD : Nat} {nD : Nat → Nat} {DD : Nat → Nat → Nat} {nd : Nat} {D : Nat → Nat} {ns : Nat} {S : Nat → Nat}
theorem Bs9.below (h : Bs9 W g kind c vr vR vS vD vd vs fr to nr R mR nR RR mS nS SS mD nD DD nd D ns S) (hb : Below W.heap.size W W') : Bs9 W' g kind c vr vR vS vD vd vs fr to nr R mR nR RR mS nS SS mD nD DD nd D ns S := ⟨h.bx.below hb, h.sb.below hb, h.iq.below hb⟩
end
end Go.Proofs.Ytdeophhcbkahgaa

