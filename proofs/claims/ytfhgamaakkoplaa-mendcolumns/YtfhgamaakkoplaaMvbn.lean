import Derived.Test.YtfhgamaakkoplaaMvbm
import Derived.Test.YtfhgamaakkoplaaMvau
import Derived.Test.YtfhgamaakkoplaaMvbb
import Derived.Deep.DeepCutAuto
import Derived.Test.YtfhgamaakkoplaaMvbk
import Derived.Test.YtfhgamaakkoplaaMvbj
import Derived.Test.YtfhgamaakkoplaaMvam
import Derived.Test.YtfhgamaakkoplaaMvbf
namespace Go.Proofs.Ytfhgamaakkoplaa
open Go.RowKit Gf2
set_option linter.unusedVariables false

-- culletref10.Null
/-- what is made so far: column f, x pivots ahead of it, y vectors. -/
structure Nz10 (n k : Nat) (R : Nat → Nat → Nat) (p : Nat → Nat) (w1 wr : World) (av : Value) (f x y : Nat) (N : Nat → Nat → Nat) : Prop where
  fn : f ≤ n
  sum : y + x = f
  px : PxR k p f x
  nl : NlR k p R f N
  sur : ∀ z, z < y → ∃ f', f' < n ∧ (∀ i, i < k → p i ≠ f') ∧ N z = nvs p R f' k
  list : ∃ B, Gl8 w1.heap.size wr av y (fun _ => n) (fun _ => n) B N
  bel : Below w1.heap.size w1 wr
theorem Nz10.vform {n k f x y : Nat} {R N : Nat → Nat → Nat} {p : Nat → Nat} {w1 wr : World} {av : Value} (h : Nz10 n k R p w1 wr av f x y N) : ∃ a c, av = .slice a y c := by
  obtain ⟨B, hB⟩ := h.list
  obtain ⟨a, c, e, -⟩ := hB.list.form
  exact ⟨a, c, e⟩
/-- what Null answers where its matrix is one. -/
structure Nu10 (n m : Nat) (S : Nat → Nat → Nat) (w w' : World) (v : Value) (k : Nat) (R : Nat → Nat → Nat) (p : Nat → Nat) (N : Nat → Nat → Nat) : Prop where
  rin : Rin n S m k R p
  nl : NlR k p R n N
  sur : ∀ z, z < n - k → ∃ f', f' < n ∧ (∀ i, i < k → p i ≠ f') ∧ N z = nvs p R f' k
  kn : k ≤ n
  list : ∃ B lo, w.heap.size ≤ lo ∧ Gl8 lo w' v (n - k) (fun _ => n) (fun _ => n) B N
  bel : Below w.heap.size w w'
theorem nul_l {lo n k f i : Nat} {W wr : World} {rv pv : Value} {B p : Nat → Nat} {R : Nat → Nat → Nat} (h : Gl8 lo W rv k (fun _ => n) (fun _ => n) B R) (hj : Gj lo W pv k (fun i => (p i : Int))) (hf : f < n) (hi : i < k) (hb : Below W.heap.size W wr) :
    ∃ gl c gp cp, rv = .slice (some ⟨gl, 0, none⟩) k c ∧ pv = .slice (some ⟨gp, 0, none⟩) k cp ∧ wr.cell? ⟨gl, i, none⟩ = some (.slice (some ⟨B i, 0, none⟩) n n) ∧ wr.cell? ⟨gp, i, none⟩ = some (.int .i64 (p i : Nat)) ∧ wr.cell? ⟨B i, f, none⟩ = some (.int .u8 (R i f : Nat)) := by
  have h2 := h.below hb
  have j2 := hj.below hb
  obtain ⟨gl, c, e1, -, c1, -⟩ := h2.head (by omega)
  obtain ⟨gp, cp, e2, -, c2, -⟩ := j2.head (by omega)
  exact ⟨gl, c, gp, cp, e1, e2, c1 i hi, c2 i hi, (h2.rows i hi).2.2.2.2.cell hf⟩
set_option maxHeartbeats 16000000 in
set_option maxRecDepth 100000 in
theorem null10r (m n : Nat) (S : Nat → Nat → Nat) (aS : Option Addr) (cS : Nat) (w : World) (h : Lb w (.slice aS m cS) m (fun _ => n) S) (h1 : 1 ≤ m) (hm : m ≤ 256) (h2 : 1 ≤ n) (hn : n ≤ 512) (hS : ∀ x c, S x c < 256) :
    Calls Try.prog 40 #[.slice aS m cS] w fun e w' => ∃ v, e = .returned (.tuple #[v, .int .i64 0]) ∧ ∃ k R p N, Nu10 n m S w w' v k R p N := by
  have c1 := (rcheck10 _ m _ S w h).mono (R' := fun e w' => e = .returned (.int .i64 0) ∧ ∃ q, w' = w.drewN q) (fun e w' ⟨⟨e0, he, h9⟩, hq⟩ => ⟨by
    rcases h9 with ⟨rfl, -⟩ | ⟨-, h9⟩
    · exact he
    · exact absurd ⟨h1, hm, h2, hn, fun i _ => rfl⟩ h9, hq⟩)
  have c2 := fun q : Nat => reduced10 m n S aS cS (w.drewN q) (h.below (below_drewN (Below.refl _ _) q)) hm (by omega) hS
  obtain ⟨xa, xc, x1, x2⟩ := lb_open19 h
  obtain ⟨b, o, ea, q1⟩ := x1 0 (by omega)
  subst ea
  rw [Nat.add_zero] at q1
  have HH : Hid (1 ≤ m ∧ m ≤ 256 ∧ 1 ≤ n ∧ n ≤ 512 ∧ w.cell? ⟨b, o, none⟩ = some (.slice (xa 0) n (xc 0)) ∧ b < w.heap.size) := ⟨h1, hm, h2, hn, q1, cell_lt5 q1⟩
  have i0 : (0 : Int) < (m : Int) := by omega
  have hmk := make_u8 n (by omega)
  clear h h1 hm h2 hn x1 x2 q1
  go_enter Try.func40, Try.ntmps40
  go_wp2_with (first
    | (go_at_call 59; (with_reducible refine c1.mono ?_); rintro e w9 ⟨rfl, q, rfl⟩; have c3 := c2 q; clear c1 c2)
    | (go_at_call 60; (with_reducible refine c3.mono ?_); rintro e w1 ⟨rv, pv, rfl, k, B, R, p, hX⟩; clear c3))
  obtain ⟨ra, rc, pa, pc, rfl, rfl⟩ := hX.form
  have HB : Hid (Below w.heap.size w w1 ∧ w.heap.size ≤ w1.heap.size) := by
    have h9 : Below w.heap.size w w1 := (below_drewN (Below.refl w.heap.size w) q).trans hX.bel
    exact ⟨h9, h9.size⟩
  have HX : Hid (Rs10 n S (w.drewN q) w1 (.slice ra k rc) (.slice pa k pc) m k B R p ∧ k ≤ 256) := ⟨hX, by have := hX.rin.le; have := HH.out; omega⟩
  clear hX i0
  go_loopw [6, 7, 8] (fun av s7 s8 wr => ∃ (f x y : Nat) (N : Nat → Nat → Nat), s7 = .int .i64 ((x : Nat) : Int) ∧ s8 = .int .i64 ((f : Nat) : Int) ∧ Nz10 n k R p w1 wr av f x y N) (fun _ _ s _ => n - (intOf s).toNat)
  case atStart => exact ⟨0, 0, 0, fun _ _ => 0, rfl, rfl, ⟨Nat.zero_le _, rfl, PxR.start _ _, NlR.start _ _ _ _, fun z hz => absurd hz (Nat.not_lt_zero _), ⟨fun _ => 0, Gl8.start _ _ _ _ _ _⟩, Below.refl _ _⟩⟩
  case round =>
    rename World => wr
    obtain ⟨f, x, y, N, rfl, rfl, hN⟩ := hrel
    obtain ⟨va, vc, rfl⟩ := hN.vform
    have q1 : wr.cell? ⟨b, o, none⟩ = some (.slice (xa 0) n (xc 0)) := (((HB.out.1.trans (hN.bel.mono HB.out.2))).cell HH.out.2.2.2.2.2).trans HH.out.2.2.2.2.1
    by_cases hfn : f < n
    · have ifn : ((f : Nat) : Int) < (n : Int) := Int.ofNat_lt.2 hfn
      have HW1 : Hid (wrap64 (((f : Nat) : Int) + 1) = ((f : Nat) : Int) + 1) := wrap_lt8 (j := f) (b := n) hfn (by have := HH.out; omega)
      have i0 : (0 : Int) < (m : Int) := by have := HH.out; omega
      by_cases hit : x < k ∧ p x = f
      · obtain ⟨hxk, hpx⟩ := hit
        obtain ⟨gp, cp, e2, -, c2, -⟩ := (HX.out.1.piv.below hN.bel).head (by omega)
        cases e2
        have q2 := c2 x hxk
        rw [hpx] at q2
        have ix : ((x : Nat) : Int) < (k : Int) := Int.ofNat_lt.2 hxk
        have W2 := wrap_lt8 (j := x) (b := k) hxk (by have := HX.out.2; omega)
        have HD : Hid (f < n ∧ Nz10 n k R p w1 wr (.slice va y vc) (f + 1) (x + 1) y N) := ⟨hfn, ⟨hfn, by have := hN.sum; omega, hN.px.hit HX.out.1.rin.up hxk hpx, hN.nl.hit hxk hpx, hN.sur, hN.list, hN.bel⟩⟩
        have W1 := HW1.out
        clear hN hfn hxk hpx c2
        go_wp2
        go_roundw
        case rel => exact ⟨f + 1, x + 1, y, N, by first | rfl | (rw [W2]; rfl), by first | rfl | (rw [W1]; rfl), HD.out.2⟩
        case measure => first | exact meas_lt8 HD.out.1 | (rw [W1]; exact meas_lt8 HD.out.1)
      · have hxn : x < k → p x ≠ f := fun a b => hit ⟨a, b⟩
        obtain ⟨hx2, hfree⟩ := hN.px.miss HX.out.1.rin.up hxn
        obtain ⟨BL, hL⟩ := hN.list
        have hnl := hN.nl.miss HX.out.1.rin.up hN.px hN.sum
        obtain ⟨g, hg⟩ : ∃ g, Hid (wr.heap.size = g) := ⟨_, rfl⟩
        have HN : Hid (f < n ∧ y + 1 + x = f + 1 ∧ PxR k p (f + 1) x ∧ NlR k p R (f + 1) (fun z => if z = y then nvs p R f k else N z) ∧ Below w1.heap.size w1 wr ∧ Gl8 w1.heap.size wr (.slice va y vc) y (fun _ => n) (fun _ => n) BL N ∧ y ≤ 600 ∧ (∀ z, z < y + 1 → ∃ f', f' < n ∧ (∀ i, i < k → p i ≠ f') ∧ (if z = y then nvs p R f k else N z) = nvs p R f' k)) := ⟨hfn, by have := hN.sum; omega, hx2, hnl, hN.bel, hL, by have := hN.sum; have := hN.fn; have := HH.out; omega, fun z hz => by
          by_cases e : z = y
          · exact ⟨f, hfn, hfree, if_pos e⟩
          · rw [if_neg e]; exact hN.sur z (by omega)⟩
        have r0 := made_rw n (by have := HH.out; omega) wr
        have hmk2 := hmk wr
        have b0 : Below wr.heap.size wr (wr.alloc (.cells (madeCells #[.int .u8 0] n) 5)) := (Below.refl _ _).alloc (Nat.le_refl _) _
        obtain ⟨wm, hwm⟩ : ∃ wm, Hid (wr.alloc (.cells (madeCells #[.int .u8 0] n) 5) = wm) := ⟨_, rfl⟩
        rw [hwm.out] at r0 hmk2 b0
        rw [hg.out] at r0 hmk2
        clear hmk hwm
        have q3 := r0.2.2.cell hfn
        have q4 := r0.2.2.frozen f
        have HA : Hid (Below wr.heap.size wr (wm.setCell ⟨g, f, none⟩ (.int .u8 1)) ∧ Rw (wm.setCell ⟨g, f, none⟩ (.int .u8 1)) g n (nvs p R f 0)) :=
          ⟨(b0.setCell (show wr.heap.size ≤ g by have := hg.out; omega) _), (show Rw (wm.setCell ⟨g, f, none⟩ (.int .u8 ((1 : Nat) : Int))) g n _ from r0.set f 1 (by decide)).congr (fun c _ => rfl)⟩
        go_upto_region 9 with (fail)
        go_cut [38] (fun s38 wc => s38 = .bool false ∧ wc = wr)
        case first =>
          by_cases hxk : x < k
          · obtain ⟨gp, cp, e2, -, c2, -⟩ := (HX.out.1.piv.below HN.out.2.2.2.2.1).head (by omega)
            cases e2
            have q2 := c2 x hxk
            have ix : ((x : Nat) : Int) < (k : Int) := Int.ofNat_lt.2 hxk
            have T1 : (((p x : Nat) : Int) == ((f : Nat) : Int)) = false := by have := hxn hxk; simp; omega
            generalize p x = px at q2 T1
            clear hN hL hnl hx2 hfree hxn hit r0 c2
            go_wp2
            go_meet
            exact ⟨rfl, rfl⟩
          · have ix : ¬ ((x : Nat) : Int) < (k : Int) := by omega
            clear hN hL hnl hx2 hfree hxn hit r0
            go_wp2
            go_meet
            exact ⟨rfl, rfl⟩
        case rest =>
        obtain ⟨rfl, hwc⟩ := hcut
        have hwc := hwc.symm
        subst hwc
        clear hN hL hnl hx2 hxn hit r0 b0
        go_wp2
        clear q3 q4 q1 hmk2
        go_loopw [10] (fun s w6 => ∃ i : Nat, i ≤ k ∧ s = .int .i64 ((i : Nat) : Int) ∧ Below wr.heap.size wr w6 ∧ Rw w6 g n (nvs p R f i)) (fun s _ => k - (intOf s).toNat)
        case atStart => exact ⟨0, Nat.zero_le _, rfl, HA.out⟩
        case round =>
          rename World => w6
          obtain ⟨i, hi, rfl, hb6, h6⟩ := hrel
          clear HA
          by_cases hik : i < k
          · have ik : ((i : Nat) : Int) < (k : Int) := Int.ofNat_lt.2 hik
            have W2 := wrap_lt8 (j := i) (b := k) hik (by have := HX.out.2; omega)
            obtain ⟨gl, c, gp, cp, e1, e2, c1, c2, c3⟩ := nul_l HX.out.1.rows HX.out.1.piv HN.out.1 hik (hb := (HN.out.2.2.2.2.1.trans (hb6.mono HN.out.2.2.2.2.1.size)))
            cases e1
            cases e2
            have hp := HX.out.1.rin.rdu.lt i hik
            have ip : ((p i : Nat) : Int) < (n : Int) := Int.ofNat_lt.2 hp
            have q3 := h6.2.2.cell hp
            have q4 := h6.2.2.frozen (p i)
            have HC : Hid (i < k ∧ Below wr.heap.size wr (w6.drew.setCell ⟨g, p i, none⟩ (.int .u8 ((R i f : Nat) : Int))) ∧ Rw (w6.drew.setCell ⟨g, p i, none⟩ (.int .u8 ((R i f : Nat) : Int))) g n (nvs p R f (i + 1))) := ⟨hik, (hb6.trans below_drew0).setCell (show wr.heap.size ≤ g by have := hg.out; omega) _, ((show Rw w6.drew g n _ from h6.drewN 1).set (p i) (R i f) (HX.out.1.rin.rdu.byt i f hik HN.out.1)).congr (fun c _ => rfl)⟩
            generalize nvs p R f i (p i) = X0 at q3
            generalize p i = pi at c2 ip q3 q4 HC
            generalize R i f = Z at c3 HC
            clear h6 hb6 hik hi hp
            go_upto_region 16 with (fail)
            refine region_tail8 12 (by kernel_rfl) (by kernel_rfl) ?_
            simp only [List.take_succ_cons, List.take_zero, List.drop_succ_cons, List.drop_zero]
            repeat still_step
            refine wpStill_nil ?_
            go_wp2
            go_roundw
            case rel => exact ⟨i + 1, HC.out.1, by first | rfl | (rw [W2]; rfl), HC.out.2.1, HC.out.2.2⟩
            case measure => first | exact meas_lt8 HC.out.1 | (rw [W2]; exact meas_lt8 HC.out.1)
          · have ik : ¬ ((i : Nat) : Int) < (k : Int) := by omega
            have hik2 : i = k := by omega
            rw [hik2] at h6
            have hs6 := HN.out.2.2.2.2.1.trans (hb6.mono HN.out.2.2.2.2.1.size)
            obtain ⟨v', w8, u1, hG2, hb2, -⟩ := (HN.out.2.2.2.2.2.1.below hb6).put hs6.size (b := g) (by have := hg.out; have := HN.out.2.2.2.2.1.size; omega) h6 (Nat.le_refl _) (fun r hr e => by have := (HN.out.2.2.2.2.2.1.rows r hr).2.2.lt; have := hg.out; omega) (by have := HN.out; omega)
            obtain ⟨gl, cl, e, -⟩ := hG2.head (Nat.succ_pos _)
            subst e
            have HD : Hid (f < n ∧ Nz10 n k R p w1 w8 (.slice (some ⟨gl, 0, none⟩) (y + 1) cl) (f + 1) x (y + 1) (fun z => if z = y then nvs p R f k else N z)) := ⟨HN.out.1, ⟨HN.out.1, HN.out.2.1, HN.out.2.2.1, HN.out.2.2.2.1, HN.out.2.2.2.2.2.2.2, ⟨_, hG2.cong (fun r hr => ⟨?c1, ?c2, rfl, fun z _ => rfl⟩)⟩, hs6.trans hb2⟩⟩
            case c1 => unfold upn; split <;> rfl
            case c2 => unfold upn; split <;> rfl
            have W1 := HW1.out
            clear h6 hb6 hik hi hik2 hs6 hG2 hb2
            go_wp2_with (at_builtin; refine Lib.wpList_append_run _ rfl _ _ _ _ rfl _ _ rfl rfl _ _ u1 ?_; clear u1)
            go_roundw
            case rel => exact ⟨f + 1, x, y + 1, _, rfl, by first | rfl | (rw [W1]; rfl), HD.out.2⟩
            case measure => first | exact meas_lt8 HD.out.1 | (rw [W1]; exact meas_lt8 HD.out.1)
    · have ifn : ¬ ((f : Nat) : Int) < (n : Int) := by omega
      have hfn2 : f = n := by have := hN.fn; omega
      have i0 : (0 : Int) < (m : Int) := by have := HH.out; omega
      have HF : Hid (Nu10 n m S w wr (.slice va y vc) k R p N) := by
        rw [hfn2] at hN
        have hxk := hN.px.last HX.out.1.rin.rdu.lt
        obtain ⟨B', hB'⟩ := hN.list
        have h9 := hN.sum
        refine ⟨HX.out.1.rin, hN.nl, fun z hz => hN.sur z (by omega), by omega, ⟨B', w1.heap.size, HB.out.2, ?_⟩, HB.out.1.trans (hN.bel.mono HB.out.2)⟩
        rw [show n - k = y by omega]
        exact hB'
      clear hN hfn hfn2
      go_wp2
      go_ret2
      exact ⟨_, rfl, k, R, p, N, HF.out⟩
end Go.Proofs.Ytfhgamaakkoplaa
namespace Go.Proofs.Ytfhgamaakkoplaa
open Go.RowKit Gf2
set_option linter.unusedVariables false

-- culletref19.near: the rows of the equations on their way, and the rest of what its walk asks
/-- a row behind j columns of each half. -/
def bwp (k r : Nat) (p y : Nat → Nat) (i j c : Nat) : Nat := if c < k + r then (if c < j then fp 285 (p i) c else 0) else (if c - (k + r) < j then fm 285 (fp 285 (p i) (c - (k + r))) (y i) else 0)
theorem bwp_zero (k r : Nat) (p y : Nat → Nat) (i c : Nat) : bwp k r p y i 0 c = 0 := by
  unfold bwp
  rw [if_neg (Nat.not_lt_zero _), if_neg (Nat.not_lt_zero _), ite_self]
theorem bwp_end {k r : Nat} (h1 : 1 ≤ k) (p y : Nat → Nat) (i : Nat) {c : Nat} (hc : c < k + 2 * r + 1) : bwp k r p y i (k + r) c = bwr k r p y i c := by
  unfold bwp bwr
  by_cases h : c < k + r
  · rw [if_pos h, if_pos h, if_pos h]
  · rw [if_neg h, if_neg h, if_pos (by omega)]
/-- the first store of a column, both stores. -/
theorem bwp_one {k r : Nat} {p y : Nat → Nat} {i j : Nat} (hj : j < k + r) (hjr : r < j) {c : Nat} (hc : c < k + 2 * r + 1) : (if c = j then fp 285 (p i) j else bwp k r p y i j c) = bwp k r p y i (j + 1) c := by
  unfold bwp
  by_cases e : c = j
  · subst e; rw [if_pos rfl, if_pos hj, if_pos (by omega)]
  · rw [if_neg e]
    by_cases h : c < k + r
    · rw [if_pos h, if_pos h]
      by_cases h2 : c < j
      · rw [if_pos h2, if_pos (by omega)]
      · rw [if_neg h2, if_neg (by omega)]
    · rw [if_neg h, if_neg h, if_pos (by omega), if_pos (by omega)]
theorem bwp_two {k r : Nat} {p y : Nat → Nat} {i j : Nat} (hj : j < k + r) (c : Nat) : (if c = k + r + j then fm 285 (fp 285 (p i) j) (y i) else if c = j then fp 285 (p i) j else bwp k r p y i j c) = bwp k r p y i (j + 1) c := by
  unfold bwp
  by_cases e0 : c = k + r + j
  · subst e0; rw [if_pos rfl, if_neg (by omega), Nat.add_sub_cancel_left, if_pos (by omega)]
  · rw [if_neg e0]
    by_cases e : c = j
    · subst e; rw [if_pos rfl, if_pos hj, if_pos (by omega)]
    · rw [if_neg e]
      by_cases h : c < k + r
      · rw [if_pos h, if_pos h]
        by_cases h2 : c < j
        · rw [if_pos h2, if_pos (by omega)]
        · rw [if_neg h2, if_neg (by omega)]
      · rw [if_neg h, if_neg h]
        by_cases h2 : c - (k + r) < j
        · rw [if_pos h2, if_pos (by omega)]
        · rw [if_neg h2, if_neg (by omega)]
/-- what Interpolate answers over unlike points. -/
def ItC (n : Nat) (p y : Nat → Nat) : Prop := ∀ (w : World) (v u : Value), Sl w v (lf n p) → Sl w u (lf n y) →
  Calls Try.prog 21 #[.bool false, v, u] w fun e w' => ∃ v' S, e = .returned (.tuple #[v', .int .i64 0]) ∧ AnsP w' w.heap.size v' S ∧ Gf2.El 8 S ∧ Dg S n ∧ (∀ j, j < n → pe 285 (p j) n S = y j) ∧ Below w.heap.size w w'
theorem itC {n : Nat} {p y : Nat → Nat} (hn : n ≤ 256) (hp : ∀ i, i < n → p i < 256) (hy : ∀ i, i < n → y i < 256) (inj : ∀ i j, i < n → j < n → p i = p j → i = j) : ItC n p y := fun w v u hv hu => by
  have c := pinterp_any false v u (lf n p) (lf n y) w hv hu (lf_mem hp) (lf_mem hy) (by rw [lf_len]; omega) (by rw [lf_len, lf_len])
  refine c.mono ?_
  rintro e w' ⟨hb, -, h⟩
  obtain ⟨v', S, he, hA, eS, dS, hS⟩ := h (fun i j hi hj he => by
    rw [lf_len] at hi hj
    rw [lf_co hi, lf_co hj] at he
    exact inj i j hi hj he)
  rw [lf_len] at dS hS
  exact ⟨v', S, he, hA, eS, dS, fun j hj => by
    have := hS j hj
    rw [lf_co hj, lf_co hj] at this
    exact this, hb⟩
/-- what near answers. -/
structure Nq19 (w w' : World) (v : Value) (ok : Bool) (k n : Nat) (p y : Nat → Nat) : Prop where
  yes : ok = true → ∃ L, Sl w' v L ∧ L.length ≤ k ∧ (∀ x ∈ L, x < 256) ∧ Gf2.El 8 (co L) ∧ Nr19 p y n ((n - k) / 2) (co L)
  no : ok = false → ∀ f, Gf2.El 8 f → Dg f k → ¬ Nr19 p y n ((n - k) / 2) f
  bel : Below w.heap.size w w'
theorem Wi19.slx {w wr : World} {gx gy n : Nat} {p y : Nat → Nat} (h : Wi19 w wr gx gy n n p y) (hn : n ≤ 256) (hp : ∀ i, i < n → p i < 256) : Sl wr (.slice (some ⟨gx, 0, none⟩) n n) (lf n p) :=
  (fr_of_row (B := w.heap.size) h.lx (by omega) (fun i hi => by have := hp i hi; omega) (h.rx.congr (fun i hi => by rw [if_pos hi]))).sl
theorem Wi19.sly {w wr : World} {gx gy n : Nat} {p y : Nat → Nat} (h : Wi19 w wr gx gy n n p y) (hn : n ≤ 256) (hy : ∀ i, i < n → y i < 256) : Sl wr (.slice (some ⟨gy, 0, none⟩) n n) (lf n y) :=
  (fr_of_row (B := w.heap.size) h.ly (by omega) (fun i hi => by have := hy i hi; omega) (h.ry.congr (fun i hi => by rw [if_pos hi]))).sl
/-- the interpolating polynomial is near where it is short. -/
theorem nq_it {w w' : World} {v : Value} {B k n : Nat} {p y S : Nat → Nat} {L : List Nat} (hF : Fr w' B v L) (hc : co L = S) (hl : L.length ≤ k) (eS : Gf2.El 8 S) (dS : Dg S n) (hS : ∀ j, j < n → pe 285 (p j) n S = y j) (hb : Below w.heap.size w w') : Nq19 w w' v true k n p y := by
  refine ⟨fun _ => ⟨L, hF.sl, hl, mem_of_el (wide := false) (by rw [hc]; exact eS), by rw [hc]; exact eS, ?_⟩, fun h => (by cases h), hb⟩
  unfold Nr19
  rw [cnb_zero (fun i hi => by rw [hc]; exact decide_eq_false (fun h => h (hS i hi)))]
  exact Nat.zero_le _
theorem nq_none {w w' : World} {k n : Nat} {p y : Nat → Nat} {v : Value} (h : ∀ f, Gf2.El 8 f → Dg f k → ¬ Nr19 p y n ((n - k) / 2) f) (hb : Below w.heap.size w w') : Nq19 w w' v false k n p y :=
  ⟨fun e => (by cases e), fun _ => h, hb⟩
end Go.Proofs.Ytfhgamaakkoplaa
namespace Go.Proofs.Ytfhgamaakkoplaa
open Go.RowKit Gf2
set_option linter.unusedVariables false

-- culletref19.near: steps of its loops
/-- a row of noughts more, behind rows that hold something. -/
theorem Fl.row0 {w wr : World} {g m k T : Nat} {B : Nat → Nat} {S : Nat → Nat → Nat} (h : Fl w wr g m k (fun _ => T) (fun _ => T) B S) (hk : k < m) (hT : T ≤ 1000) : Fl w ((wr.alloc (.cells (madeCells #[.int .u8 0] T) 5)).setCell ⟨g, k, none⟩ (.slice (some ⟨wr.heap.size, 0, none⟩) T T)) g m (k + 1) (fun _ => T) (fun _ => T) (upn B k wr.heap.size) (upn S k (fun _ => 0)) := by
  have r0 := made_rw T (by omega) wr
  have hN := h.next (l := T) (c := T) (b := wr.heap.size) hk ((Below.refl _ _).alloc (Nat.le_refl _) _) (Nat.le_refl _) r0 (Nat.le_refl _)
  refine hN.congr (fun i _ => ?_) (fun i _ => ?_) (fun _ _ => rfl) (fun i _ j _ => rfl)
  · by_cases e : i = k
    · rw [e, upn_same]
    · rw [upn_other _ _ e]
  · by_cases e : i = k
    · rw [e, upn_same]
    · rw [upn_other _ _ e]
/-- the rows, the last one (i, in block g) behind j columns of each half. -/
structure Bl19 (w2 wr : World) (gr g n W k r : Nat) (p y : Nat → Nat) (i : Nat) (B : Nat → Nat) (T : Nat → Nat) : Prop where
  fl : Fl w2 wr gr n (i + 1) (fun _ => W) (fun _ => W) (upn B i g) (upn (bwr k r p y) i T)
  lt : i < n
section
variable {w2 wr : World} {gr g n W k r i : Nat} {p y B T : Nat → Nat}
theorem Bl19.at_ (h : Bl19 w2 wr gr g n W k r p y i B T) : wr.cell? ⟨gr, i, none⟩ = some (.slice (some ⟨g, 0, none⟩) W W) := by
  have := h.fl.cell (Nat.lt_succ_self i) h.lt
  rw [upn_same] at this
  exact this
theorem Bl19.row (h : Bl19 w2 wr gr g n W k r p y i B T) : w2.heap.size ≤ g ∧ g ≠ gr ∧ Rw wr g W T := by
  obtain ⟨a1, a2, a3, a4⟩ := h.fl.rows i (Nat.lt_succ_self i)
  rw [upn_same] at a1 a2
  rw [upn_same, upn_same] at a4
  exact ⟨a1, a2, a4⟩
theorem Bl19.cell (h : Bl19 w2 wr gr g n W k r p y i B T) {c : Nat} (hc : c < W) : ∃ X : Nat, wr.cell? ⟨g, c, none⟩ = some (.int .u8 (X : Nat)) := ⟨_, h.row.2.2.2.2.cell hc⟩
theorem Bl19.froz (h : Bl19 w2 wr gr g n W k r p y i B T) (c : Nat) : wr.frozen? ⟨g, c, none⟩ = false := h.row.2.2.2.2.frozen c
theorem Bl19.below {wx : World} (h : Bl19 w2 wr gr g n W k r p y i B T) (hb : Below wr.heap.size wr wx) : Bl19 w2 wx gr g n W k r p y i B T := ⟨h.fl.below hb, h.lt⟩
theorem Bl19.congr {T' : Nat → Nat} (h : Bl19 w2 wr gr g n W k r p y i B T) (e : ∀ c, c < W → T c = T' c) : Bl19 w2 wr gr g n W k r p y i B T' :=
  ⟨h.fl.congr (fun _ _ => rfl) (fun _ _ => rfl) (fun _ _ => rfl) (fun x _ c hc => by
    by_cases e2 : x = i
    · rw [e2, upn_same, upn_same]; exact e c hc
    · rw [upn_other _ _ e2, upn_other _ _ e2]), h.lt⟩
theorem Bl19.set (h : Bl19 w2 wr gr g n W k r p y i B T) (j v : Nat) (hv : v < 256) : Bl19 w2 (wr.setCell ⟨g, j, none⟩ (.int .u8 (v : Nat))) gr g n W k r p y i B (fun c => if c = j then v else T c) := by
  have h9 := h.fl.turn (i := i) (F := fun c => if c = j then v else T c) (Nat.lt_succ_self i) (w' := wr.setCell ⟨g, j, none⟩ (.int .u8 (v : Nat))) (by rw [upn_same]; exact (Kp.refl _ _).setCell _ _) (by rw [upn_same]; exact h.row.2.2.set j v hv)
  exact ⟨h9.congr (fun _ _ => rfl) (fun _ _ => rfl) (fun _ _ => rfl) (fun x _ c _ => by
    by_cases e : x = i
    · rw [e, upn_same, upn_same]
    · rw [upn_other _ _ e, upn_other _ _ e, upn_other _ _ e]), h.lt⟩
theorem Bl19.bel (h : Bl19 w2 wr gr g n W k r p y i B T) : Below w2.heap.size w2 wr := h.fl.bel
/-- a column of the first half alone. -/
theorem Bl19.one {j f0 : Nat} (h : Bl19 w2 wr gr g n W k r p y i B (bwp k r p y i j)) (hf : f0 = fp 285 (p i) j) (hj : j < k + r) (hjr : r < j) (hW : k + 2 * r + 1 = W) : Bl19 w2 (wr.setCell ⟨g, j, none⟩ (.int .u8 (f0 : Nat))) gr g n W k r p y i B (bwp k r p y i (j + 1)) := by
  subst hf
  exact (h.set j _ (fld8.fp_lt _ _)).congr (fun c hc => bwp_one hj hjr (by omega))
/-- a column of both halves. -/
theorem Bl19.two {j f0 m0 kr : Nat} (h : Bl19 w2 wr gr g n W k r p y i B (bwp k r p y i j)) (hf : f0 = fp 285 (p i) j) (hm : m0 = fm 285 f0 (y i)) (hk : k + r = kr) (hj : j < k + r) : Bl19 w2 (((wr.setCell ⟨g, j, none⟩ (.int .u8 (f0 : Nat))).drew).setCell ⟨g, kr + j, none⟩ (.int .u8 (m0 : Nat))) gr g n W k r p y i B (bwp k r p y i (j + 1)) := by
  subst hf hm hk
  exact (((h.set j _ (fld8.fp_lt _ _)).below below_drew0).set (k + r + j) _ (fld8.fm_lt _ _)).congr (fun c hc => bwp_two hj c)
theorem Bl19.start {wx : World} (h : Fl w2 wx gr n i (fun _ => W) (fun _ => W) B (bwr k r p y)) (hi : i < n) (hW : W ≤ 1000) : Bl19 w2 ((wx.alloc (.cells (madeCells #[.int .u8 0] W) 5)).setCell ⟨gr, i, none⟩ (.slice (some ⟨wx.heap.size, 0, none⟩) W W)) gr wx.heap.size n W k r p y i B (bwp k r p y i 0) :=
  ⟨(h.row0 hi hW).congr (fun _ _ => rfl) (fun _ _ => rfl) (fun _ _ => rfl) (fun x _ c _ => by
    by_cases e : x = i
    · rw [e, upn_same, upn_same, bwp_zero]
    · rw [upn_other _ _ e, upn_other _ _ e]), hi⟩
theorem Bl19.fin {j : Nat} (h : Bl19 w2 wr gr g n W k r p y i B (bwp k r p y i j)) (hj : j = k + r) (h1 : 1 ≤ k) (hW : k + 2 * r + 1 = W) : Fl w2 wr gr n (i + 1) (fun _ => W) (fun _ => W) (upn B i g) (bwr k r p y) :=
  h.fl.congr (fun _ _ => rfl) (fun _ _ => rfl) (fun _ _ => rfl) (fun x _ c hc => by
    by_cases e : x = i
    · rw [e, upn_same, hj]
      exact bwp_end h1 p y i (by omega)
    · rw [upn_other _ _ e])
end
/-- a list of words that is being filled: the first j of F. -/
structure Wf19 (lo : Nat) (wr : World) (g N j : Nat) (F : Nat → Nat) : Prop where
  row : wr.rowIs g 57 N (fun c => .int .u16 ((if c < j then F c else 0 : Nat) : Int))
  lo : lo ≤ g
theorem Wf19.step {lo : Nat} {wr : World} {g N j : Nat} {F : Nat → Nat} (h : Wf19 lo wr g N j F) : Wf19 lo (wr.setCell ⟨g, j, none⟩ (.int .u16 ((F j : Nat) : Int))) g N (j + 1) F := ⟨(h.row.set j _).congr (fun c _ => if_put19), h.lo⟩
theorem Wf19.below {lo : Nat} {wr wx : World} {g N j : Nat} {F : Nat → Nat} (h : Wf19 lo wr g N j F) (hb : Below wr.heap.size wr wx) : Wf19 lo wx g N j F := ⟨h.row.of_block (hb.block _ h.row.lt), h.lo⟩
theorem Wf19.other {lo : Nat} {wr : World} {g g2 N j : Nat} {F : Nat → Nat} (h : Wf19 lo wr g N j F) (hne : g ≠ g2) (x : Nat) (v : Value) : Wf19 lo (wr.setCell ⟨g2, x, none⟩ v) g N j F := ⟨h.row.setOther (a := ⟨g2, x, none⟩) hne _, h.lo⟩
theorem Wf19.start (w : World) (N : Nat) (F : Nat → Nat) : Wf19 w.heap.size (w.alloc (.cells (madeCells #[.int .u16 0] N) 57)) w.heap.size N 0 F :=
  ⟨(World.rowIs_made w (.int .u16 0) N 57).congr (fun c _ => by rw [if_neg (Nat.not_lt_zero _)]; rfl), Nat.le_refl _⟩
theorem Wf19.sl {lo : Nat} {wr : World} {g N : Nat} {F : Nat → Nat} (h : Wf19 lo wr g N N F) (hN : N ≤ 100000) (hF : ∀ c, F c < 256) : Sl wr (.slice (some ⟨g, 0, none⟩) N N) (lf N F) :=
  (fr_of_row (B := lo) h.lo (by omega) (fun i _ => by have := hF i; omega) (h.row.congr (fun i hi => by rw [if_pos hi]))).sl
end Go.Proofs.Ytfhgamaakkoplaa
namespace Go.Proofs.Ytfhgamaakkoplaa
open Go.RowKit Gf2
set_option linter.unusedVariables false

-- culletref19.near: what its endings tell
/-- near's answer. -/
def Nqp (w w' : World) (e : Ending) (k n : Nat) (p y : Nat → Nat) : Prop := ∃ v' ok, e = .returned (.tuple #[v', .bool ok]) ∧ Nq19 w w' v' ok k n p y
theorem nqp {w w' : World} {v : Value} {k n : Nat} {p y : Nat → Nat} (ok : Bool) (h : Nq19 w w' v ok k n p y) : Nqp w w' (.returned (.tuple #[v, .bool ok])) k n p y := ⟨v, ok, rfl, h⟩
section
variable {n k r W kk : Nat} {p y : Nat → Nat} {wr w5 : World} {v : Value} {R5 N5 : Nat → Nat → Nat} {p5 : Nat → Nat}
theorem nq_empty (hN : Nu10 W n (bwr k r p y) wr w5 v kk R5 p5 N5) (hz : W ≤ kk) (hW : k + 2 * r + 1 = W) (hr : (n - k) / 2 = r) (hk : k ≤ n) (hp : ∀ i, i < n → p i < 256) : ∀ f, Gf2.El 8 f → Dg f k → ¬ Nr19 p y n ((n - k) / 2) f := fun f ef df => by
  rw [hr]
  have e : kk = W := Nat.le_antisymm hN.kn hz
  subst e
  have hR := hN.rin
  refine bw_none hk hp (fun u hu hn c hc => ?_) ef df
  rw [hW] at hn hc
  exact rin_full hR hu hn c hc
/-- the first of the null vectors. -/
structure Nv0 (n W k r : Nat) (p y u : Nat → Nat) : Prop where
  byt : ∀ c, u c < 256
  nul : Nul (k + 2 * r + 1) n (bwr k r p y) u
  ne : ∃ c, c < k + 2 * r + 1 ∧ u c ≠ 0
theorem nq_vec (hN : Nu10 W n (bwr k r p y) wr w5 v kk R5 p5 N5) (hz : kk < W) (hW : k + 2 * r + 1 = W) : Nv0 n W k r p y (N5 0) := by
  subst hW
  obtain ⟨f, hf, hfree, e⟩ := hN.sur 0 (by omega)
  rw [e]
  refine ⟨nvs_byt hN.rin.rdu hf kk (Nat.le_refl _), (hN.rin.nul _).1 (nvs_rin hN.rin.rdu hf hfree), f, hf, ?_⟩
  rw [nvs_else kk hfree, if_pos rfl]
  decide
end
theorem bwa_at {k r j : Nat} {u : Nat → Nat} (hj : j < k + r) : bwa k r u j = u j := if_pos hj
theorem bwb_at {k r j : Nat} {u : Nat → Nat} (hj : j < r + 1) : bwb k r u j = u (k + r + j) := if_pos hj
/-- the two polynomials on their way. -/
structure On19 (w5 wr : World) (go gt k r j1 j2 : Nat) (u : Nat → Nat) : Prop where
  one : Wf19 w5.heap.size wr go (k + r) j1 (bwa k r u)
  oth : Wf19 w5.heap.size wr gt (r + 1) j2 (bwb k r u)
  ne : go ≠ gt
  bel : Below w5.heap.size w5 wr
section
variable {w5 wr : World} {go gt k r j1 j2 : Nat} {u : Nat → Nat}
theorem On19.start (w5 : World) (k r : Nat) (u : Nat → Nat) : On19 w5 ((w5.alloc (.cells (madeCells #[.int .u16 0] (k + r)) 57)).alloc (.cells (madeCells #[.int .u16 0] (r + 1)) 57)) w5.heap.size (w5.heap.size + 1) k r 0 0 u := by
  have s1 : (w5.alloc (.cells (madeCells #[.int .u16 0] (k + r)) 57)).heap.size = w5.heap.size + 1 := by simp
  have b1 : Below (w5.alloc (.cells (madeCells #[.int .u16 0] (k + r)) 57)).heap.size (w5.alloc (.cells (madeCells #[.int .u16 0] (k + r)) 57)) ((w5.alloc (.cells (madeCells #[.int .u16 0] (k + r)) 57)).alloc (.cells (madeCells #[.int .u16 0] (r + 1)) 57)) := (Below.refl _ _).alloc (Nat.le_refl _) _
  have x := Wf19.start (w5.alloc (.cells (madeCells #[.int .u16 0] (k + r)) 57)) (r + 1) (bwb k r u)
  refine ⟨(Wf19.start w5 (k + r) (bwa k r u)).below b1, ⟨?_, by omega⟩, by omega, ((Below.refl _ _).alloc (Nat.le_refl _) _).trans (b1.mono (by omega))⟩
  have y := x.row
  rw [s1] at y
  exact y
theorem On19.step1 (h : On19 w5 wr go gt k r j1 j2 u) (hj : j1 < k + r) : On19 w5 (wr.setCell ⟨go, j1, none⟩ (.int .u16 ((u j1 : Nat) : Int))) go gt k r (j1 + 1) j2 u := by
  have h1 := h.one.step
  rw [bwa_at hj] at h1
  exact ⟨h1, h.oth.other (Ne.symm h.ne) _ _, h.ne, h.bel.setCell h.one.lo _⟩
theorem On19.step2 (h : On19 w5 wr go gt k r j1 j2 u) (hj : j2 < r + 1) : On19 w5 (wr.setCell ⟨gt, j2, none⟩ (.int .u16 ((u (k + r + j2) : Nat) : Int))) go gt k r j1 (j2 + 1) u := by
  have h1 := h.oth.step
  rw [bwb_at hj] at h1
  exact ⟨h.one.other h.ne _ _, h1, h.ne, h.bel.setCell h.oth.lo _⟩
end
/-- what is near, told by the quotient. -/
structure Qu19 (n k r : Nat) (p y : Nat → Nat) (Lq Lm : List Nat) : Prop where
  only : ∀ f, Gf2.El 8 f → Dg f k → Nr19 p y n r f → co Lq = f ∧ co Lm = pz
  nq : Neat Lq
  nm : Neat Lm
  el : Gf2.El 8 (co Lq)
section
variable {n k r : Nat} {p y u : Nat → Nat} {Lq Lm : List Nat}
theorem Nv0.qu {W : Nat} {Q M : Nat → Nat} (h : Nv0 n W k r p y u) (h1 : 1 ≤ k) (hr : k + 2 * r ≤ n) (hp : ∀ i, i < n → p i < 256) (up : Up8 n p) (h0 : nzl (lf (r + 1) (bwb k r u)) ≠ 0) (pQ : Pol 8 Q) (dM : Dg M (nzl (lf (r + 1) (bwb k r u)) - 1))
    (he : co (lf (k + r) (bwa k r u)) = pa (pm 285 Q (co (lf (r + 1) (bwb k r u)))) M) (nq : Neat Lq) (nm : Neat Lm) (eq : co Lq = Q) (em : co Lm = M) : Qu19 n k r p y Lq Lm := by
  rw [bw_one, bw_other] at he
  exact ⟨fun f ef df hf => by rw [eq, em]; exact bw_div h1 hr hp up h.byt h.nul h0 pQ dM he ef df hf, nq, nm, by rw [eq]; exact pQ.1⟩
theorem Nv0.zero {W : Nat} (h : Nv0 n W k r p y u) (h1 : 1 ≤ k) (hr : k + 2 * r ≤ n) (hp : ∀ i, i < n → p i < 256) (up : Up8 n p) (h0 : nzl (lf (r + 1) (bwb k r u)) = 0) (hr2 : (n - k) / 2 = r) : ∀ f, Gf2.El 8 f → Dg f k → ¬ Nr19 p y n ((n - k) / 2) f := fun f ef df => by
  obtain ⟨c, hc, hc0⟩ := h.ne
  rw [hr2]
  exact bw_zero h1 hr hp up h.byt h.nul hc hc0 h0 ef df
theorem neat_pz {L : List Nat} (h : Neat L) (e : co L = pz) : L.length = 0 := by
  rcases h with h | h
  · exact h
  · rw [e] at h; exact absurd rfl h
theorem Qu19.left (h : Qu19 n k r p y Lq Lm) (hr2 : (n - k) / 2 = r) (hl : 0 < Lm.length) : ∀ f, Gf2.El 8 f → Dg f k → ¬ Nr19 p y n ((n - k) / 2) f := fun f ef df hf => by
  rw [hr2] at hf
  have := neat_pz h.nm (h.only f ef df hf).2
  omega
theorem Qu19.long (h : Qu19 n k r p y Lq Lm) (hr2 : (n - k) / 2 = r) (hl : k < Lq.length) : ∀ f, Gf2.El 8 f → Dg f k → ¬ Nr19 p y n ((n - k) / 2) f := fun f ef df hf => by
  rw [hr2] at hf
  have e := (h.only f ef df hf).1
  have := neat_le h.nq (by rw [e]; exact df)
  omega
/-- where the quotient differs. -/
def Dq19 (p y : Nat → Nat) (L : List Nat) (i : Nat) : Bool := decide (pe 285 (p i) L.length (co L) ≠ y i)
theorem dq_nr (hl : Lq.length ≤ n) {e : Nat} : Nr19 p y n e (co Lq) ↔ cnb (Dq19 p y Lq) n ≤ e := by
  unfold Nr19
  rw [cnb_congr (P' := Dq19 p y Lq) (fun i _ => by
    unfold Dq19
    rw [fld8.pe_cut (p i) (co_dg Lq) hl])]
theorem Qu19.fin {w w' : World} {v : Value} (h : Qu19 n k r p y Lq Lm) (hr2 : (n - k) / 2 = r) (hk : k ≤ n) (hl : Lq.length ≤ k) (hs : Sl w' v Lq) (hb : Below w.heap.size w w') : Nq19 w w' v (decide (cnb (Dq19 p y Lq) n ≤ r)) k n p y := by
  refine ⟨fun h9 => ⟨Lq, hs, hl, mem_of_el (wide := false) h.el, h.el, ?_⟩, fun h9 f ef df hf => ?_, hb⟩
  · rw [hr2, dq_nr (by omega)]
    exact of_decide_eq_true h9
  · rw [hr2] at hf
    have e := (h.only f ef df hf).1
    rw [← e, dq_nr (by omega)] at hf
    exact (of_decide_eq_false h9) hf
end
end Go.Proofs.Ytfhgamaakkoplaa
