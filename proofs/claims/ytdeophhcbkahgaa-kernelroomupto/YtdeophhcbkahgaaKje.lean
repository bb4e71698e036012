import Derived.Test.YtdeophhcbkahgaaKjc
import Derived.Test.YtdeophhcbkahgaaKj5
namespace Go.Proofs.Ytdeophhcbkahgaa
open Go.RowKit Gf2
set_option linter.unusedVariables false

-- layer 9: KernelRoom: laid
theorem Own8.app9 {W w2 : World} {g C L : Nat} {T : Nat → Nat} (h : Own8 W w2 g C L T) {x : Option Addr} {n cx : Nat} {S : Nat → Nat} (hv : Rb W (.slice x n cx) n S) (hn : L + n ≤ 140737488355328) :
    ∃ w' g' C', (Builtin.append_ #[22, 22] 22 #[.slice (some ⟨g, 0, none⟩) L C, .slice x n cx]).run Try.prog w2 = .ok (.slice (some ⟨g', 0, none⟩) (L + n) C') w' ∧
      Own8 W w' g' C' (L + n) (fun i => if i < L then T i else S (i - L)) := by
  obtain ⟨h1, h2, h3, F, h4, h5⟩ := h
  obtain ⟨b1, b2, a, c', b3, b5, b6, b4⟩ := hv
  cases b3
  obtain ⟨w', g', C', F', hrun, hC, hR, hF1, hF2, hcase⟩ := app8 w2 (g := g) (C := C) (L := L) h4 h1 (x := x) (n := n) (cx := cx) (S := S) b2 (fun h0 => by
    obtain ⟨b, o, e, hl, hcl⟩ := b4 h0
    exact ⟨b, o, e, fun i hi => (h3.cell (p := ⟨b, o + i, none⟩) hl).trans (hcl i hi)⟩) hn
  refine ⟨w', g', C', hrun, hC, ?_, ?_, F', hR, fun i hi => ?_⟩
  · rcases hcase with ⟨rfl, ho⟩ | ⟨rfl, -, hb⟩
    · exact h2
    · exact h3.size
  · rcases hcase with ⟨rfl, ho⟩ | ⟨rfl, -, hb⟩
    · exact h3.trans (ho.below h2)
    · exact h3.trans (hb.mono h3.size)
  · dsimp only
    by_cases e : i < L
    · rw [if_pos e, hF1 i e, h5 i e]
    · rw [if_neg e, ← hF2 (i - L) (by omega), show L + (i - L) = i by omega]
theorem wrap_add9 {a b : Nat} (h : a + b ≤ 140737488355328) : wrap64 ((a : Int) + (b : Int)) = (a : Int) + (b : Int) := by unfold wrap64; omega
theorem wrap_add39 {a b c : Nat} (h : a + b + c ≤ 140737488355328) : wrap64 ((a : Int) + wrap64 ((b : Int) + (c : Int))) = ((a + b + c : Nat) : Int) := by
  have e1 : wrap64 ((b : Int) + (c : Int)) = (b : Int) + (c : Int) := wrap_add9 (by omega)
  rw [e1]
  have e2 := wrap_add9 (a := a) (b := b + c) (by omega)
  rw [Int.natCast_add] at e2
  rw [e2, Int.natCast_add, Int.natCast_add, Int.add_assoc]
/-- where a piece begins. -/
def ca9 (g C lo : Nat) : Option Addr := if C = lo then some ⟨g, 0, none⟩ else some ⟨g, lo, none⟩
theorem cut9 (g L C lo n : Nat) (hb : lo + n ≤ C) : ∀ W : World, (Instr.slice 22 (.slice (some ⟨g, 0, none⟩) L C) (some (.int .i64 (lo : Int))) (some (.int .i64 ((lo : Int) + (n : Int)))) none).run Try.prog W = .ok (.slice (ca9 g C lo) n (C - lo)) W := by
  have he : Try.prog.elem 22 = 5 := by kernel_rfl
  have hsz : ∀ W : World, (sizeOf 5).run Try.prog W = .ok 1 W := fun W => by
    obtain ⟨i, hi, -, hs, -⟩ := info_u8a
    simp [sizeOf, typeInfo, hi, hs]
  suffices H : ∀ W : World, (Instr.slice 22 (.slice (some ⟨g, 0, none⟩) L C) (some (.int .i64 (lo : Int))) (some (.int .i64 ((lo : Int) + (n : Int)))) none).run Try.prog W = .ok (.slice (if C = lo then some ⟨g, 0, none⟩ else some ⟨g, lo, none⟩) n (C - lo)) W from H
  intro W
  have h := run_slice_lh (P := Try.prog) (w := W) 22 (some ⟨g, 0, none⟩) L C (by rw [he]; exact Try.underlying22) .i64 .i64 (lo : Int) ((lo : Int) + (n : Int)) (by omega) (by omega) (by omega)
  rw [h, he, hsz]
  have e1 : ((lo : Int) + (n : Int)).toNat = lo + n := by omega
  have e2 : (lo : Int).toNat = lo := by omega
  rw [Result.andThen_ok]
  simp only [sliced, e1, e2, Nat.add_sub_cancel_left, Nat.mul_one]
  have e3 : Option.map (fun x => x.add lo) (some (⟨g, 0, none⟩ : Addr)) = some ⟨g, lo, none⟩ := by
    show some ((⟨g, 0, none⟩ : Addr).add lo) = _
    rw [Addr.add_lit, Nat.zero_add]
  rw [e3]
/-- the length of the first m lists with the gaps; also the place of the next list. -/
def ls9 (k : Nat) (n : Nat → Nat) : Nat → Nat
  | 0 => k
  | m + 1 => ls9 k n m + n m + k
/-- the bytes of the first m lists with the gaps. -/
def ld9 (k : Nat) (n G : Nat → Nat) (S : Nat → Nat → Nat) : Nat → Nat → Nat
  | 0, p => G p
  | m + 1, p => if p < ls9 k n m then ld9 k n G S m p else if p < ls9 k n m + n m then S m (p - ls9 k n m) else G (p - (ls9 k n m + n m))
theorem ls9_le {k : Nat} {n : Nat → Nat} {M : Nat} (hn : ∀ i, i < M → n i ≤ 1048576) (hk : k ≤ 1048576) : ∀ m, m ≤ M → ls9 k n m ≤ 1048576 + m * 2097152
  | 0, _ => by unfold ls9; omega
  | m + 1, h => by
    unfold ls9
    have h1 := ls9_le hn hk m (by omega)
    have h2 := hn m (by omega)
    rw [Nat.add_mul]
    omega
theorem ls9_mono {k : Nat} {n : Nat → Nat} {r : Nat} : ∀ m, r < m → ls9 k n r + n r + k ≤ ls9 k n m
  | 0, h => absurd h (Nat.not_lt_zero _)
  | m + 1, h => by
    by_cases e : r = m
    · subst e; exact Nat.le_refl _
    · have := ls9_mono (k := k) (n := n) m (show r < m by omega)
      have e2 : ls9 k n (m + 1) = ls9 k n m + n m + k := rfl
      omega
/-- an array of lists with gaps, and its pieces. -/
structure La9 (w w' : World) (gA C : Nat) (F : Nat → Nat) (vp : Value) (m k : Nat) (n G : Nat → Nat) (S : Nat → Nat → Nat) : Prop where
  bel : Below w.heap.size w w'
  alo : w.heap.size ≤ gA
  row : Rw w' gA C F
  hC : ls9 k n m ≤ C
  eq : ∀ p, p < ls9 k n m → F p = ld9 k n G S m p
  pl : Lv (fun b => b = gA ∨ b < w.heap.size) w' vp m (fun r => .slice (ca9 gA C (ls9 k n r)) (n r) (C - ls9 k n r))
set_option maxHeartbeats 1000000 in
set_option maxRecDepth 100000 in
theorem laid9_any (u vg : Value) (m k : Nat) (n G : Nat → Nat) (S : Nat → Nat → Nat) (w : World) (h : Lb w u m n S) (hg : Rb w vg k G) (hm : m ≤ 1048576) (hk : k ≤ 1048576) (hn : ∀ i, i < m → n i ≤ 1048576) :
    Calls Try.prog 16 #[u, vg] w fun e w' => ∃ gA C F vp, e = .returned (.tuple #[.slice (some ⟨gA, 0, none⟩) (ls9 k n m) C, vp]) ∧ La9 w w' gA C F vp m k n G S := by
  have hG := hg
  obtain ⟨xg, cg, rfl⟩ := Rb.form9 hg
  obtain ⟨V, ⟨hmb, a, cap, rfl, -, -, h4⟩, hV⟩ := h
  have cC := copied9_any (.slice xg k cg) k G w hg (by omega)
  have HB : Hid (Rb w (.slice xg k cg) k G ∧ (∀ i, i < m → Re (fun _ => False) w (V i) (n i) (S i)) ∧ m ≤ 1048576 ∧ k ≤ 1048576 ∧ (∀ i, i < m → n i ≤ 1048576)) := ⟨hG, hV, hm, hk, hn⟩
  have H4 : Hid (0 < m → ∃ b o, a = some ⟨b, o, none⟩ ∧ (b < w.heap.size ∧ ¬ False) ∧ ∀ i, i < m → w.cell? ⟨b, o + i, none⟩ = some (V i)) := h4
  clear hG hg hV h4 hm hk hn hmb
  go_enter Try.func16, Try.ntmps16
  go_wp2_with (go_at_call 8; (with_reducible refine cC.mono ?_); rintro e w1 ⟨rfl, r1, b1, -⟩; clear cC)
  go_loopw [6, 17] (fun o iv wr => ∃ i g C : Nat, i ≤ m ∧ iv = .int .i64 (i : Nat) ∧ o = .slice (some ⟨g, 0, none⟩) (ls9 k n i) C ∧ Own8 w wr g C (ls9 k n i) (ld9 k n G S i)) (fun _ iv _ => m - (intOf iv).toNat)
  case atStart => exact ⟨0, w.heap.size, k, Nat.zero_le _, rfl, rfl, Nat.le_refl _, Nat.le_refl _, b1, G, r1, fun _ _ => rfl⟩
  case round =>
    obtain ⟨i, g, C, hi, rfl, rfl, hO⟩ := hrel
    clear r1 b1
    by_cases hlt : i < m
    case pos =>
      obtain ⟨b, o', rfl, hbl, hc⟩ := H4.out (by omega)
      have q1 : wr.cell? ⟨b, o' + i, none⟩ = some (V i) := (hO.2.2.1.cell (p := ⟨b, o' + i, none⟩) hbl.1).trans (hc i hlt)
      have hr1 := (HB.out.2.1 i hlt).rb
      obtain ⟨x1, y1, e1⟩ := hr1.form9
      rw [e1] at q1 hr1
      have hls := ls9_le HB.out.2.2.2.2 HB.out.2.2.2.1 (i + 1) hlt
      have hmm := HB.out.2.2.1
      have els : ls9 k n (i + 1) = ls9 k n i + n i + k := rfl
      obtain ⟨w2, g2, C2, run2, hO2⟩ := hO.app9 hr1 (by omega)
      obtain ⟨w3, g3, C3, run3, hO3⟩ := hO2.app9 HB.out.1 (by omega)
      have HO : Hid (Own8 w w3 g3 C3 (ls9 k n (i + 1)) (ld9 k n G S (i + 1))) := by
        obtain ⟨a1, a2, a3, F, a4, a5⟩ := hO3
        refine ⟨a1, a2, a3, F, a4, fun p hp => (a5 p hp).trans ?_⟩
        show (if p < ls9 k n i + n i then (if p < ls9 k n i then ld9 k n G S i p else S i (p - ls9 k n i)) else G (p - (ls9 k n i + n i))) = (if p < ls9 k n i then ld9 k n G S i p else if p < ls9 k n i + n i then S i (p - ls9 k n i) else G (p - (ls9 k n i + n i)))
        by_cases e2 : p < ls9 k n i + n i
        · rw [if_pos e2]
          by_cases e3 : p < ls9 k n i
          · rw [if_pos e3, if_pos e3]
          · rw [if_neg e3, if_neg e3, if_pos e2]
        · rw [if_neg e2, if_neg (by omega), if_neg e2]
      have H3 : Hid _ := run3
      have ib : ((i : Nat) : Int) < (m : Int) := by omega
      have W1 := wrap_succ8 (j := i) (by unfold big; omega)
      clear hO hO2 hO3 run3 hr1 e1 hls hmm hc hbl els
      have HL : Hid (ls9 k n (i + 1) = ls9 k n i + n i + k) := rfl
      generalize ls9 k n i = Li at *
      go_wp2_with (first
        | (at_builtin; refine Lib.wpList_append_run _ rfl _ _ _ _ rfl _ _ rfl rfl _ _ run2 ?_; clear run2; have run3 := H3.out)
        | (at_builtin; refine Lib.wpList_append_run _ rfl _ _ _ _ rfl _ _ rfl rfl _ _ run3 ?_; clear run3))
      go_roundw
      case rel => exact ⟨i + 1, g3, C3, hlt, by first | rfl | (rw [W1]; rfl), by rw [HL.out], HO.out⟩
      case measure => first | exact meas_lt8 hlt | (rw [W1]; exact meas_lt8 hlt)
    case neg =>
    generalize wr = wz at hO ⊢
    obtain rfl : m = i := by omega
    have ib : ¬ ((m : Nat) : Int) < (m : Int) := Int.lt_irrefl _
    have HO : Hid _ := hO
    have hOC : ls9 k n m ≤ C := hO.1
    clear hO hlt hi
    go_wp2
    go_loopw [9, 10, 32] (fun pv av iv wr => ∃ i : Nat, i ≤ m ∧ iv = .int .i64 (i : Nat) ∧ av = .int .i64 (ls9 k n i : Nat) ∧ Below wz.heap.size wz wr ∧ Gx 22 wr wz.heap.size pv i (fun r => .slice (ca9 g C (ls9 k n r)) (n r) (C - ls9 k n r))) (fun _ _ iv _ => m - (intOf iv).toNat)
    case atStart => exact ⟨0, Nat.zero_le _, rfl, rfl, Below.refl _ _, Gx.zero _ _ _ _⟩
    case round =>
      obtain ⟨i, hi, rfl, rfl, hb, hG⟩ := hrel
      obtain ⟨oa, oC, rfl, oc1, oc2, hof⟩ := hG.form
      by_cases hlt : i < m
      case pos =>
        obtain ⟨b, o', rfl, hbl, hc⟩ := H4.out (by omega)
        have hb0 : Below w.heap.size w wr := bta9 HO.out.2.2.1 hb
        have q1 : wr.cell? ⟨b, o' + i, none⟩ = some (V i) := (hb0.cell (p := ⟨b, o' + i, none⟩) hbl.1).trans (hc i hlt)
        obtain ⟨x1, y1, e1⟩ := (HB.out.2.1 i hlt).rb.form9
        rw [e1] at q1
        have hls := ls9_le HB.out.2.2.2.2 HB.out.2.2.2.1 (i + 1) hlt
        have hmm := HB.out.2.2.1
        have els : ls9 k n (i + 1) = ls9 k n i + n i + k := rfl
        have hle := ls9_mono (k := k) (n := n) m hlt
        have hcut := cut9 g (ls9 k n m) C (ls9 k n i) (n i) (by omega)
        obtain ⟨g5, c5, w5, run5, G5, -, -, b5, s5⟩ := gx_one ely_l8 hG hb.size rfl (by omega) (by omega)
        have hsz : ls9 k n i + n i + k ≤ 140737488355328 := by omega
        have him : i < big := by unfold big; omega
        have HV : Hid (Below wz.heap.size wz w5 ∧ Gx 22 w5 wz.heap.size (.slice (some ⟨g5, 0, none⟩) (i + 1) c5) (i + 1) (fun r => .slice (ca9 g C (ls9 k n r)) (n r) (C - ls9 k n r))) := ⟨hb.trans b5, G5⟩
        have ib : ((i : Nat) : Int) < (m : Int) := by omega
        rw [← wrap_add9 (a := ls9 k n i) (b := n i) (Nat.le_trans (Nat.le_add_right _ _) hsz)] at hcut
        have HE : Hid (wrap64 ((ls9 k n i : Int) + wrap64 ((n i : Int) + (k : Int))) = (ls9 k n (i + 1) : Int)) := wrap_add39 hsz
        have W1 := wrap_succ8 (j := i) him
        clear hsz him hG hb hb0 G5 b5 s5 hls hmm els hle hc hbl e1 hof oc1 oc2
        generalize hL1 : ls9 k n (i + 1) = L1 at *
        generalize ls9 k n i = Li at *
        go_wp2_with (at_builtin; refine Lib.wpList_append_run _ rfl _ _ _ _ rfl _ _ rfl rfl _ _ run5 ?_; clear run5)
        go_roundw
        case rel => exact ⟨i + 1, hlt, by first | rfl | (rw [W1]; rfl), by rw [hL1]; first | exact congrArg _ HE.out | (rw [HE.out]), HV.out.1, HV.out.2⟩
        case measure => first | exact meas_lt8 hlt | (rw [W1]; exact meas_lt8 hlt)
      case neg =>
      obtain rfl : m = i := by omega
      have ib : ¬ ((m : Nat) : Int) < (m : Int) := Int.lt_irrefl _
      obtain ⟨o1, o2, o3, F, o4, o5⟩ := HO.out
      have HV : Hid (La9 w wr g C F (.slice oa m oC) m k n G S) := by
        refine ⟨bta9 o3 hb, o2, rw_below o4 hb, o1, o5, by unfold big; unfold maxLen at oc2; omega, _, _, rfl, oc1, by unfold big; unfold maxLen at oc2; omega, fun h0 => ?_⟩
        obtain ⟨g', e1, g1, g2, -, g4⟩ := hof h0
        have h7 := o4.lt
        have h8 := o3.size
        exact ⟨g', 0, e1, ⟨g2, fun e => by omega⟩, fun i hi => by rw [Nat.zero_add]; exact g4 i hi⟩
      clear hG hb hof o1 o2 o3 o4 o5 oc1 oc2 HO
      generalize hLm : ls9 k n m = Lm at *
      go_wp2
      go_ret2
      exact ⟨_, _, F, _, rfl, HV.out⟩
end Go.Proofs.Ytdeophhcbkahgaa
namespace Go.Proofs.Ytdeophhcbkahgaa
open Go.RowKit Gf2
set_option linter.unusedVariables false

-- layer 9: KernelRoom: what Apply and Spread make of an array of lists with gaps
section
variable {k : Nat} {n G : Nat → Nat} {S D T V : Nat → Nat → Nat}
theorem ls9_up {r : Nat} : ∀ M, r ≤ M → ls9 k n r ≤ ls9 k n M
  | 0, h => by rw [show r = 0 by omega]; exact Nat.le_refl _
  | M + 1, h => by
    by_cases e : r = M + 1
    · rw [e]; exact Nat.le_refl _
    · have := ls9_up (r := r) M (by omega)
      have e2 : ls9 k n (M + 1) = ls9 k n M + n M + k := rfl
      omega
theorem ld9_pre {r p : Nat} : ∀ M, r ≤ M → p < ls9 k n r → ld9 k n G S M p = ld9 k n G S r p
  | 0, h, _ => by rw [show r = 0 by omega]
  | M + 1, h, hp => by
    by_cases e : r = M + 1
    · rw [e]
    · have h1 := ls9_up (k := k) (n := n) (r := r) M (by omega)
      show (if p < ls9 k n M then ld9 k n G S M p else _) = _
      rw [if_pos (by omega)]
      exact ld9_pre M (by omega) hp
theorem ld9_at {r j M : Nat} (hr : r < M) (hj : j < n r) : ld9 k n G S M (ls9 k n r + j) = S r j := by
  have e2 : ls9 k n (r + 1) = ls9 k n r + n r + k := rfl
  rw [ld9_pre M (r := r + 1) hr (by omega)]
  show (if ls9 k n r + j < ls9 k n r then _ else if ls9 k n r + j < ls9 k n r + n r then S r (ls9 k n r + j - ls9 k n r) else _) = _
  rw [if_neg (by omega), if_pos (by omega), Nat.add_sub_cancel_left]
theorem ld9_congr : ∀ M, (∀ r, r < M → ∀ j, j < n r → S r j = T r j) → ∀ p, p < ls9 k n M → ld9 k n G S M p = ld9 k n G T M p
  | 0, _, p, _ => rfl
  | M + 1, h, p, hp => by
    show (if p < ls9 k n M then ld9 k n G S M p else if p < ls9 k n M + n M then S M (p - ls9 k n M) else _) = (if p < ls9 k n M then ld9 k n G T M p else if p < ls9 k n M + n M then T M (p - ls9 k n M) else _)
    by_cases e : p < ls9 k n M
    · rw [if_pos e, if_pos e]
      exact ld9_congr M (fun r hr => h r (by omega)) p e
    · rw [if_neg e, if_neg e]
      by_cases e2 : p < ls9 k n M + n M
      · rw [if_pos e2, if_pos e2]
        exact h M (Nat.lt_succ_self _) _ (by omega)
      · rw [if_neg e2, if_neg e2]
theorem apb_ld {g f t L M : Nat} {F0 : Nat → Nat} (hL : ∀ r, r < M → n r = L) (ht : t ≤ L) (h0 : ∀ p, p < ls9 k n M → F0 p = ld9 k n G D M p) (hT : ∀ r, r < M → ∀ j, j < n r → T r j = if f ≤ j ∧ j < t then V r j else D r j) :
    ∀ m, m ≤ M → ∀ p, p < ls9 k n m → apb (fun _ => g) (ls9 k n) f t V (fun _ => F0) m g p = ld9 k n G T m p
  | 0, hm, p, hp => by
    show F0 p = G p
    have := ls9_up (k := k) (n := n) M hm
    rw [h0 p (by omega), ld9_pre M hm hp]
    rfl
  | m + 1, hm, p, hp => by
    have hu := ls9_up (k := k) (n := n) M hm
    have e2 : ls9 k n (m + 1) = ls9 k n m + n m + k := rfl
    have hnm := hL m (by omega)
    show (if g = g ∧ ls9 k n m + f ≤ p ∧ p < ls9 k n m + t then V m (p - ls9 k n m) else apb (fun _ => g) (ls9 k n) f t V (fun _ => F0) m g p) = (if p < ls9 k n m then ld9 k n G T m p else if p < ls9 k n m + n m then T m (p - ls9 k n m) else G (p - (ls9 k n m + n m)))
    by_cases e : p < ls9 k n m
    · rw [if_neg (by omega), if_pos e]
      exact apb_ld hL ht h0 hT m (by omega) p e
    · rw [if_neg e]
      have hb : apb (fun _ => g) (ls9 k n) f t V (fun _ => F0) m g p = F0 p := apb_none m (fun r hr => by
        have h1 := ls9_mono (k := k) (n := n) m hr
        have h2 := hL r (by omega)
        omega)
      have hF : F0 p = if p < ls9 k n m + n m then D m (p - ls9 k n m) else G (p - (ls9 k n m + n m)) := by
        rw [h0 p (by omega), ld9_pre M hm hp]
        show (if p < ls9 k n m then _ else _) = _
        rw [if_neg e]
      rw [hb, hF]
      by_cases e3 : p < ls9 k n m + n m
      · rw [if_pos e3, if_pos e3, hT m (by omega) (p - ls9 k n m) (by omega)]
        by_cases e4 : f ≤ p - ls9 k n m ∧ p - ls9 k n m < t
        · rw [if_pos (by omega), if_pos e4]
        · rw [if_neg (by omega), if_neg e4]
      · rw [if_neg (by omega), if_neg e3, if_neg e3]
theorem spb_ld {g f t L M : Nat} {F0 : Nat → Nat} (hL : ∀ r, r < M → n r = L) (ht : t ≤ L) (h0 : ∀ p, p < ls9 k n M → F0 p = ld9 k n G D M p) (hT : ∀ r, r < M → ∀ j, j < n r → T r j = if f ≤ j ∧ j < t then D r j ^^^ V r j else D r j) :
    ∀ m, m ≤ M → ∀ p, p < ls9 k n m → spb (fun _ => g) (ls9 k n) f t V (fun _ => F0) m g p = ld9 k n G T m p
  | 0, hm, p, hp => by
    show F0 p = G p
    have := ls9_up (k := k) (n := n) M hm
    rw [h0 p (by omega), ld9_pre M hm hp]
    rfl
  | m + 1, hm, p, hp => by
    have hu := ls9_up (k := k) (n := n) M hm
    have e2 : ls9 k n (m + 1) = ls9 k n m + n m + k := rfl
    have hnm := hL m (by omega)
    show (if g = g ∧ ls9 k n m + f ≤ p ∧ p < ls9 k n m + t then spb (fun _ => g) (ls9 k n) f t V (fun _ => F0) m g p ^^^ V m (p - ls9 k n m) else spb (fun _ => g) (ls9 k n) f t V (fun _ => F0) m g p) = (if p < ls9 k n m then ld9 k n G T m p else if p < ls9 k n m + n m then T m (p - ls9 k n m) else G (p - (ls9 k n m + n m)))
    by_cases e : p < ls9 k n m
    · rw [if_neg (by omega), if_pos e]
      exact spb_ld hL ht h0 hT m (by omega) p e
    · rw [if_neg e]
      have hb : spb (fun _ => g) (ls9 k n) f t V (fun _ => F0) m g p = F0 p := spb_none m (fun r hr => by
        have h1 := ls9_mono (k := k) (n := n) m hr
        have h2 := hL r (by omega)
        omega)
      have hF : F0 p = if p < ls9 k n m + n m then D m (p - ls9 k n m) else G (p - (ls9 k n m + n m)) := by
        rw [h0 p (by omega), ld9_pre M hm hp]
        show (if p < ls9 k n m then _ else _) = _
        rw [if_neg e]
      rw [hb, hF]
      by_cases e3 : p < ls9 k n m + n m
      · rw [if_pos e3, if_pos e3, hT m (by omega) (p - ls9 k n m) (by omega)]
        by_cases e4 : f ≤ p - ls9 k n m ∧ p - ls9 k n m < t
        · rw [if_pos (by omega), if_pos e4]
        · rw [if_neg (by omega), if_neg e4]
      · rw [if_neg (by omega), if_neg e3, if_neg e3]
end
theorem Lv.congr9 {E : Nat → Prop} {w : World} {v : Value} {m : Nat} {V V' : Nat → Value} (h : Lv E w v m V) (e : ∀ i, i < m → V i = V' i) : Lv E w v m V' := by
  obtain ⟨h1, a, cap, h3, h5, h6, h4⟩ := h
  refine ⟨h1, a, cap, h3, h5, h6, fun h0 => ?_⟩
  obtain ⟨b, o, e', hl, hc⟩ := h4 h0
  exact ⟨b, o, e', hl, fun i hi => by rw [← e i hi]; exact hc i hi⟩
section
variable {w x x' : World} {gA C : Nat} {F : Nat → Nat} {vp : Value} {m k : Nat} {n G : Nat → Nat} {S : Nat → Nat → Nat}
theorem La9.up (h : La9 w x gA C F vp m k n G S) (hb : Below x.heap.size x x') : La9 w x' gA C F vp m k n G S :=
  ⟨bta9 h.bel hb, h.alo, rw_below h.row hb, h.hC, h.eq, h.pl.ke (ke_below hb _)⟩
/-- the pieces as lists. -/
theorem La9.lb (h : La9 w x gA C F vp m k n G S) : Lb x vp m n S := by
  refine ⟨_, h.pl.mono (fun _ _ e => e.elim), fun r hr => ?_⟩
  have h1 := ls9_mono (k := k) (n := n) m hr
  have h2 := h.hC
  have hC := h.row.1
  refine ⟨by omega, fun j hj => ?_, _, _, rfl, by omega, by omega, fun h0 => ⟨gA, ls9 k n r, ?_, ⟨h.row.lt, fun e => e⟩, fun j hj => ?_⟩⟩
  · rw [← ld9_at (k := k) (n := n) (G := G) (S := S) hr hj, ← h.eq _ (by omega)]
    exact h.row.2.1 _ (by omega)
  · unfold ca9
    rw [if_neg (by omega)]
  · rw [h.row.2.2.cell (by omega), h.eq _ (by omega), ld9_at hr hj]
/-- the whole array. -/
theorem La9.rb (h : La9 w x gA C F vp m k n G S) : Rb x (.slice (some ⟨gA, 0, none⟩) (ls9 k n m) C) (ls9 k n m) (ld9 k n G S m) :=
  (h.row.re (E := fun _ => False) h.hC h.hC h.row.1 (fun e => e)).rb.congr h.eq
/-- lists to be written, in one array. -/
theorem La9.dl (h : La9 w x gA C F vp m k n G S) {L : Nat} (hL : ∀ r, r < m → n r = L) : Dl x vp m L (fun _ => gA) (ls9 k n) (fun _ => C) (fun _ => F) := by
  have hC := h.row.1
  have h2 := h.hC
  refine ⟨⟨fun r => ca9 gA C (ls9 k n r), fun r => C - ls9 k n r, (h.pl.mono (fun x _ ⟨r, hr, e⟩ => .inl e)).congr9 (fun r hr => by rw [hL r hr]), fun r hr => ?_⟩, fun r hr => ?_, fun r s hr hs hne => .inr ?_⟩
  · have h1 := ls9_mono (k := k) (n := n) m hr
    have h3 := hL r hr
    refine ⟨by show L ≤ C - ls9 k n r; omega, by show C - ls9 k n r ≤ big; omega, fun h0 => ?_⟩
    show ca9 gA C (ls9 k n r) = _
    unfold ca9
    rw [if_neg (by omega)]
  · have h1 := ls9_mono (k := k) (n := n) m hr
    have h3 := hL r hr
    exact ⟨h.row, by omega⟩
  · have h3 := hL r hr
    have h4 := hL s hs
    rcases Nat.lt_or_ge r s with e | e
    · have := ls9_mono (k := k) (n := n) s e
      left; omega
    · have := ls9_mono (k := k) (n := n) r (show s < r by omega)
      right; omega
variable {p : Addr} {bk klo khi : Nat} {mR kS : Nat} {nr ns R' : Nat → Nat} {RR SS : Nat → Nat → Nat} {rows srcs : Value}
theorem room_apply (h : La9 w x gA C F vp m k n G S) (hr : Ll (fun b => b = gA) x rows mR nr RR) (hs : Ll (fun b => b = gA) x srcs kS ns SS) (hk : Ks x p bk klo khi) (hkl : khi ≤ gA) (fr to : Int) (hm : 24 * mR ≤ 140737488351232) (hkb : 24 * kS ≤ 140737488351232) (hd : 24 * m ≤ 140737488351232) :
    Calls Try.prog 12 #[.pointer (some p), rows, srcs, vp, .agg #[.int .i64 fr, .int .i64 to]] x fun e x' => e = .returned (.int .i64 (fit9 mR kS m nr ns n fr to : Nat)) ∧ Kp gA x x' ∧ Rb x' (.slice (some ⟨gA, 0, none⟩) (ls9 k n m) C) (ls9 k n m) (ld9 k n G (ap9 mR kS m nr ns n fr to RR SS S) m) := by
  by_cases hf : fit9 mR kS m nr ns n fr to = 0
  · obtain ⟨⟨rfl, hnr, hns, hnd⟩, r1, r2, r3⟩ := fit9_split hf
    generalize hL : len9 kS mR ns n = L at hns hnd r3
    obtain ⟨f, rfl⟩ : ∃ f : Nat, fr = (f : Int) := ⟨fr.toNat, by omega⟩
    obtain ⟨t, rfl⟩ : ∃ t : Nat, to = (t : Int) := ⟨to.toNat, by omega⟩
    have eL : len9 kS mR ns n = len9 kS mR (fun _ => L) (fun _ => L) := by
      unfold len9
      by_cases h1 : 0 < kS
      · rw [if_pos h1, if_pos h1, hns 0 h1]
      · rw [if_neg h1, if_neg h1]
        by_cases h2 : 0 < mR
        · rw [if_pos h2, if_pos h2, hnd 0 h2]
        · rw [if_neg h2, if_neg h2]
    refine (kapply_ok p bk klo khi mR kS L f t (fun _ => gA) _ _ RR SS _ rows srcs vp x hk (by omega) (by omega) (fun r _ => .inr hkl) ((hr.lens hnr).mono (fun x _ ⟨r, hr', e⟩ => e)) ((hs.lens hns).mono (fun x _ ⟨r, hr', e⟩ => e)) (h.dl hnd) (by omega) (by rw [← eL, hL]; omega)).mono ?_
    rintro e x' ⟨rfl, hke, hrw⟩
    have hkp : Kp gA x x' := (hke.mono (fun x _ ⟨r, hr', e⟩ => e)).kp
    refine ⟨by rw [hf]; rfl, hkp, ?_⟩
    by_cases h0 : 0 < mR
    · have hR := hrw 0 h0
      refine ((hR.re (E := fun _ => False) h.hC h.hC hR.1 (fun e => e)).rb.congr (fun q hq => ?_))
      exact apb_ld hnd (by omega) h.eq (fun r hr' j hj => by
        unfold ap9
        by_cases e : f ≤ j ∧ j < t
        · rw [if_pos e, if_pos ⟨hf, by omega, by omega⟩]
        · rw [if_neg e, if_neg (fun h => e ⟨by omega, by omega⟩)]) mR (Nat.le_refl _) q hq
    · obtain rfl : mR = 0 := by omega
      have hR : Rw x' gA C F := hke.rw_ h.row (fun ⟨r, hr', e⟩ => absurd hr' (Nat.not_lt_zero _))
      exact (hR.re (E := fun _ => False) h.hC h.hC hR.1 (fun e => e)).rb.congr (fun q hq => h.eq q hq)
  · refine (kapply_fit p bk klo khi mR kS m nr ns n RR SS S fr to rows srcs vp x hk (by omega) (by omega) (by omega) hr.lb hs.lb h.lb hf).mono ?_
    rintro e x' ⟨rfl, hb⟩
    refine ⟨rfl, kp_below hb _, (h.rb.below hb).congr (fun q hq => ld9_congr m (fun r hr' j hj => ?_) q hq)⟩
    unfold ap9
    rw [if_neg (fun h => hf h.1)]
theorem room_spread {c L : Nat} {K Fd : Nat → Nat} {col diff : Value} (h : La9 w x gA C F vp m k n G S) (hc : Re (fun b => b = gA) x col c K) (hs : Re (fun b => b = gA) x diff L Fd) (hk : Ks x p bk klo khi) (hkl : khi ≤ gA) (fr to : Int) (hcb : c ≤ 140737488351232) (hd : 24 * m ≤ 140737488351232) :
    Calls Try.prog 13 #[.pointer (some p), col, diff, vp, .agg #[.int .i64 fr, .int .i64 to]] x fun e x' => e = .returned (.int .i64 (sf9 c m L n fr to : Nat)) ∧ Kp gA x x' ∧ Rb x' (.slice (some ⟨gA, 0, none⟩) (ls9 k n m) C) (ls9 k n m) (ld9 k n G (sp9 c m L n fr to K Fd S) m) := by
  by_cases hf : sf9 c m L n fr to = 0
  · obtain ⟨⟨rfl, hnd⟩, r1, r2, r3⟩ := sf9_split hf
    obtain ⟨f, rfl⟩ : ∃ f : Nat, fr = (f : Int) := ⟨fr.toNat, by omega⟩
    obtain ⟨t, rfl⟩ : ∃ t : Nat, to = (t : Int) := ⟨to.toNat, by omega⟩
    refine (kspread_ok p bk klo khi c L f t (fun _ => gA) _ _ K Fd _ col diff vp x hk (by omega) (fun r _ => .inr hkl) (hc.mono (fun x _ ⟨r, hr', e⟩ => e)) (hs.mono (fun x _ ⟨r, hr', e⟩ => e)) (h.dl hnd) (by omega) (by omega)).mono ?_
    rintro e x' ⟨rfl, hke, hrw⟩
    have hkp : Kp gA x x' := (hke.mono (fun x _ ⟨r, hr', e⟩ => e)).kp
    refine ⟨by rw [hf]; rfl, hkp, ?_⟩
    by_cases h0 : 0 < c
    · have hR := hrw 0 h0
      refine ((hR.re (E := fun _ => False) h.hC h.hC hR.1 (fun e => e)).rb.congr (fun q hq => ?_))
      exact spb_ld hnd (by omega) h.eq (fun r hr' j hj => by
        unfold sp9
        by_cases e : f ≤ j ∧ j < t
        · rw [if_pos e, if_pos ⟨hf, by omega, by omega⟩]
        · rw [if_neg e, if_neg (fun h => e ⟨by omega, by omega⟩)]) c (Nat.le_refl _) q hq
    · obtain rfl : c = 0 := by omega
      have hR : Rw x' gA C F := hke.rw_ h.row (fun ⟨r, hr', e⟩ => absurd hr' (Nat.not_lt_zero _))
      exact (hR.re (E := fun _ => False) h.hC h.hC hR.1 (fun e => e)).rb.congr (fun q hq => h.eq q hq)
  · refine (kspread_fit p bk klo khi c L m n K Fd S fr to col diff vp x hk (by omega) (by omega) hc.rb hs.rb h.lb hf).mono ?_
    rintro e x' ⟨rfl, hb⟩
    refine ⟨rfl, kp_below hb _, (h.rb.below hb).congr (fun q hq => ld9_congr m (fun r hr' j hj => ?_) q hq)⟩
    unfold sp9
    rw [if_neg (fun h => hf h.1)]
end
end Go.Proofs.Ytdeophhcbkahgaa
namespace Go.Proofs.Ytdeophhcbkahgaa
open Go.RowKit Gf2
set_option linter.unusedVariables false

-- layer 9: KernelRoom: its calls in two chains
/-- what a room came in with, and a set. -/
structure Ir9 (y : World) (c : Nat) (vr vR vS vD vd vs : Value) (nr : Nat) (R : Nat → Nat) (mR : Nat) (nR : Nat → Nat) (RR : Nat → Nat → Nat) (mS : Nat) (nS : Nat → Nat) (SS : Nat → Nat → Nat) (mD : Nat) (nD : Nat → Nat) (DD : Nat → Nat → Nat) (nd : Nat) (D : Nat → Nat) (ns : Nat) (S : Nat → Nat) (vg : Value) (kg : Nat) (G : Nat → Nat) (p : Addr) (bk klo khi : Nat) : Prop where
  iq : Iq9 y c vr vR vS vD vd vs nr R mR nR RR mS nS SS mD nD DD nd D ns S
  gap : Rb y vg kg G
  kgl : kg ≤ 1048576
  mSl : mS ≤ 1048576
  nSl : ∀ i, i < mS → nS i ≤ 1048576
  mDl : mD ≤ 1048576
  nDl : ∀ i, i < mD → nD i ≤ 1048576
  ks : Ks y p bk klo khi
section
variable {y0 x : World} {c : Nat} {vr vR vS vD vd vs : Value} {nr : Nat} {R : Nat → Nat} {mR : Nat} {nR : Nat → Nat} {RR : Nat → Nat → Nat} {mS : Nat} {nS : Nat → Nat} {SS : Nat → Nat → Nat} {mD : Nat} {nD : Nat → Nat} {DD : Nat → Nat → Nat} {nd : Nat} {D : Nat → Nat} {ns : Nat} {S : Nat → Nat} {vg : Value} {kg : Nat} {G : Nat → Nat} {p : Addr} {bk klo khi : Nat}
theorem bdr9 (x : World) : Below x.heap.size x x.drew := (Below.refl _ _).drew
/-- the first half. -/
theorem rm_first (H : Ir9 y0 c vr vR vS vD vd vs nr R mR nR RR mS nS SS mD nD DD nd D ns S vg kg G p bk klo khi) (hb : Below y0.heap.size y0 x) (fr to : Int) :
    Calls Try.prog 16 #[vS, vg] x fun e x1 => ∃ gF CF vF, e = .returned (.tuple #[.slice (some ⟨gF, 0, none⟩) (ls9 kg nS mS) CF, vF]) ∧ Below y0.heap.size y0 x1 ∧
    Calls Try.prog 16 #[vD, vg] x1 fun e x2 => ∃ gI CI vI, e = .returned (.tuple #[.slice (some ⟨gI, 0, none⟩) (ls9 kg nD mD) CI, vI]) ∧ Below y0.heap.size y0 x2 ∧
    Calls Try.prog 8 #[.slice (some ⟨gF, 0, none⟩) (ls9 kg nS mS) CF] x2 fun e x3 => ∃ gW, e = .returned (.slice (some ⟨gW, 0, none⟩) (ls9 kg nS mS) (ls9 kg nS mS)) ∧ Below y0.heap.size y0 x3 ∧
    Calls Try.prog 9 #[vR] x3.drew fun e x4 => ∃ u4, e = .returned u4 ∧ Below y0.heap.size y0 x4 ∧
    Calls Try.prog 12 #[.pointer (some p), u4, vF, vI, .agg #[.int .i64 fr, .int .i64 to]] x4 fun e x5 => e = .returned (.int .i64 (fit9 mR mS mD nR nS nD fr to : Nat)) ∧ Below y0.heap.size y0 x5 ∧
    Calls Try.prog 17 #[vR, vS, vD, .int .i64 fr, .int .i64 to] x5 fun e x6 => ∃ vw, e = .returned (.tuple #[vw, .int .i64 (fit9 mR mS mD nR nS nD fr to : Nat)]) ∧ Below y0.heap.size y0 x6 ∧
    Calls Try.prog 16 #[vw, vg] x6 fun e x7 => ∃ gV CV vV, e = .returned (.tuple #[.slice (some ⟨gV, 0, none⟩) (ls9 kg nD mD) CV, vV]) ∧ Below y0.heap.size y0 x7 ∧
    Calls Try.prog 18 #[.slice (some ⟨gI, 0, none⟩) (ls9 kg nD mD) CI, .slice (some ⟨gV, 0, none⟩) (ls9 kg nD mD) CV] x7 fun e x8 => e = .returned (.bool true) ∧ Below y0.heap.size y0 x8 ∧
    Calls Try.prog 18 #[.slice (some ⟨gF, 0, none⟩) (ls9 kg nS mS) CF, .slice (some ⟨gW, 0, none⟩) (ls9 kg nS mS) (ls9 kg nS mS)] x8 fun e x9 => e = .returned (.bool true) ∧ Below y0.heap.size y0 x9 := by
  have hlS := ls9_le H.nSl H.kgl mS (Nat.le_refl _)
  have hlD := ls9_le H.nDl H.kgl mD (Nat.le_refl _)
  have hmS := H.mSl
  have hmD := H.mDl
  refine (laid9_any vS vg mS kg nS G SS x (Lb.below H.iq.srcs hb) (H.gap.below hb) H.mSl H.kgl H.nSl).mono fun e x1 ⟨gF, CF, FF, vF, he, LF⟩ => ⟨gF, CF, vF, he, bta9 hb LF.bel, ?_⟩
  have hb1 := bta9 hb LF.bel
  refine (laid9_any vD vg mD kg nD G DD x1 (Lb.below H.iq.dsts hb1) (H.gap.below hb1) H.mDl H.kgl H.nDl).mono fun e x2 ⟨gI, CI, FI, vI, he, LI⟩ => ⟨gI, CI, vI, he, bta9 hb1 LI.bel, ?_⟩
  have hb2 := bta9 hb1 LI.bel
  refine (cd9 _ _ _ x2 ((LF.up LI.bel).rb) (by omega)).mono fun e x3 ⟨gW, he, rW, lW, b3⟩ => ⟨gW, he, bta9 hb2 b3, ?_⟩
  have hb3 := bta9 hb2 b3
  refine (copies9_any vR mR nR RR x3.drew (Lb.below H.iq.rows (bta9 hb3 (bdr9 _))) H.iq.rowsl H.iq.rowsn).mono fun e x4 ⟨u4, B4, he, r4, b4⟩ => ⟨u4, he, bta9 (bta9 hb3 (bdr9 _)) b4, ?_⟩
  have b24 : Below x2.heap.size x2 x4 := bta9 (bta9 b3 (bdr9 _)) b4
  have hb4 := bta9 hb2 b24
  have s12 := LI.bel.size
  have s24 := b24.size
  have lI := LI.row.lt
  have aI := LI.alo
  have fF := LF.row.lt
  have s0 := hb1.size
  have hs : Ll (fun b => b = gI) x4 vF mS nS SS := ((LF.lb.ll (E := fun b => b = gI) (fun q hq e => by omega)).ke (ke_below (bta9 LI.bel b24) _))
  have hr : Ll (fun b => b = gI) x4 u4 mR nR RR := r4.ll (fun q e1 e2 e => by have := b3.size; have : x3.drew.heap.size = x3.heap.size := rfl; omega)
  have hk4 := H.ks.below hb4
  refine (room_apply (LI.up b24) hr hs hk4 (by have := H.ks.hi; omega) fr to H.iq.rowsl H.iq.srcsl H.iq.dstsl).mono fun e x5 ⟨he, k5, r5⟩ => ⟨he, hb4.trans (k5.below (by omega) hb4.size), ?_⟩
  have hb5 : Below y0.heap.size y0 x5 := hb4.trans (k5.below (by omega) hb4.size)
  refine (refApply9_any vR vS vD mR mS mD nR nS nD RR SS DD fr to x5 (Lb.below H.iq.rows hb5) (Lb.below H.iq.srcs hb5) (Lb.below H.iq.dsts hb5) H.iq.rowsl H.iq.srcsl H.iq.dstsl H.iq.dstsn H.iq.srcsn).mono fun e x6 ⟨vw, B6, C6, T6, he, r6, b6, h6⟩ => ⟨vw, he, bta9 hb5 b6, ?_⟩
  have hb6 := bta9 hb5 b6
  refine (laid9_any vw vg mD kg nD G T6 x6 r6.lb (H.gap.below hb6) H.mDl H.kgl H.nDl).mono fun e x7 ⟨gV, CV, FV, vV, he, LV⟩ => ⟨gV, CV, vV, he, bta9 hb6 LV.bel, ?_⟩
  have hb7 := bta9 hb6 LV.bel
  have q1 : Rb x7 (.slice (some ⟨gI, 0, none⟩) (ls9 kg nD mD) CI) (ls9 kg nD mD) (ld9 kg nD G T6 mD) := ((r5.below b6).below LV.bel).congr (fun q hq => ld9_congr mD (fun r hr j hj => (h6 r hr j hj).symm) q hq)
  refine (equal9_true _ _ _ _ x7 q1 LV.rb).mono fun e x8 ⟨he, m8, h8⟩ => ⟨he, ?_⟩
  have b8 : Below x7.heap.size x7 x8 := by rw [h8]; exact below_drewN (Below.refl _ _) m8
  have hb8 := bta9 hb7 b8
  refine ⟨hb8, ?_⟩
  have b78 := bta9 (bta9 b6 LV.bel) b8
  have w4 := rw_below (rw_below (rW) (bdr9 _)) b4
  have q2 : Rb x8 (.slice (some ⟨gF, 0, none⟩) (ls9 kg nS mS) CF) (ls9 kg nS mS) (ld9 kg nS G SS mS) := by
    have rF := k5.ke.rw_ (rw_below LF.row (bta9 LI.bel b24)) (by omega)
    exact ((rF.re (E := fun _ => False) LF.hC LF.hC rF.1 (fun e => e)).rb.congr LF.eq).below b78
  have q3 : Rb x8 (.slice (some ⟨gW, 0, none⟩) (ls9 kg nS mS) (ls9 kg nS mS)) (ls9 kg nS mS) (ld9 kg nS G SS mS) := by
    have rW5 := k5.ke.rw_ w4 (by omega)
    exact ((rW5.re (E := fun _ => False) (Nat.le_refl _) (Nat.le_refl _) rW5.1 (fun e => e)).rb).below b78
  exact (equal9_true _ _ _ _ x8 q2 q3).mono fun e x9 ⟨he, m9, h9⟩ => ⟨he, bta9 hb8 (by rw [h9]; exact below_drewN (Below.refl _ _) m9)⟩
/-- the second half. -/
theorem rm_second (H : Ir9 y0 c vr vR vS vD vd vs nr R mR nR RR mS nS SS mD nD DD nd D ns S vg kg G p bk klo khi) (hb : Below y0.heap.size y0 x) (fr to : Int) :
    Calls Try.prog 16 #[vD, vg] x fun e x2 => ∃ gI CI vI, e = .returned (.tuple #[.slice (some ⟨gI, 0, none⟩) (ls9 kg nD mD) CI, vI]) ∧ Below y0.heap.size y0 x2 ∧
    Calls Try.prog 8 #[vr] x2.drew fun e x3 => ∃ g3, e = .returned (.slice (some ⟨g3, 0, none⟩) nr nr) ∧ Below y0.heap.size y0 x3 ∧
    Calls Try.prog 8 #[vs] x3 fun e x4 => ∃ g4, e = .returned (.slice (some ⟨g4, 0, none⟩) ns ns) ∧ Below y0.heap.size y0 x4 ∧
    Calls Try.prog 13 #[.pointer (some p), .slice (some ⟨g3, 0, none⟩) nr nr, .slice (some ⟨g4, 0, none⟩) ns ns, vI, .agg #[.int .i64 fr, .int .i64 to]] x4 fun e x5 => e = .returned (.int .i64 (sf9 nr mD ns nD fr to : Nat)) ∧ Below y0.heap.size y0 x5 ∧
    Calls Try.prog 19 #[vr, vs, vD, .int .i64 fr, .int .i64 to] x5 fun e x6 => ∃ vw, e = .returned (.tuple #[vw, .int .i64 (sf9 nr mD ns nD fr to : Nat)]) ∧ Below y0.heap.size y0 x6 ∧
    Calls Try.prog 16 #[vw, vg] x6 fun e x7 => ∃ gV CV vV, e = .returned (.tuple #[.slice (some ⟨gV, 0, none⟩) (ls9 kg nD mD) CV, vV]) ∧ Below y0.heap.size y0 x7 ∧
    Calls Try.prog 18 #[.slice (some ⟨gI, 0, none⟩) (ls9 kg nD mD) CI, .slice (some ⟨gV, 0, none⟩) (ls9 kg nD mD) CV] x7 fun e x8 => e = .returned (.bool true) ∧ Below y0.heap.size y0 x8 := by
  have hlD := ls9_le H.nDl H.kgl mD (Nat.le_refl _)
  have hmD := H.mDl
  refine (laid9_any vD vg mD kg nD G DD x (Lb.below H.iq.dsts hb) (H.gap.below hb) H.mDl H.kgl H.nDl).mono fun e x2 ⟨gI, CI, FI, vI, he, LI⟩ => ⟨gI, CI, vI, he, bta9 hb LI.bel, ?_⟩
  have hb2 := bta9 hb LI.bel
  have hb2' := bta9 hb2 (bdr9 x2)
  refine (cd9 vr nr R x2.drew (H.iq.row.below hb2') H.iq.rowl).mono fun e x3 ⟨g3, he, r3, l3, b3⟩ => ⟨g3, he, bta9 hb2' b3, ?_⟩
  have hb3 := bta9 hb2' b3
  refine (cd9 vs ns S x3 (H.iq.src.below hb3) H.iq.srcl).mono fun e x4 ⟨g4, he, r4, l4, b4⟩ => ⟨g4, he, bta9 hb3 b4, ?_⟩
  have hb4 := bta9 hb3 b4
  have b24 : Below x2.heap.size x2 x4 := bta9 (bta9 (bdr9 _) b3) b4
  have lI := LI.row.lt
  have aI := LI.alo
  have s0 := hb.size
  have s3 := b3.size
  have e0 : x2.drew.heap.size = x2.heap.size := rfl
  have r3' := rw_below r3 b4
  refine (room_spread (LI.up b24) (r3'.re (Nat.le_refl _) (Nat.le_refl _) r3'.1 (fun e => by omega)) (r4.re (Nat.le_refl _) (Nat.le_refl _) r4.1 (fun e => by omega)) (H.ks.below hb4) (by have := H.ks.hi; omega) fr to H.iq.rowl H.iq.dstsl).mono fun e x5 ⟨he, k5, r5⟩ => ⟨he, hb4.trans (k5.below (by omega) hb4.size), ?_⟩
  have hb5 : Below y0.heap.size y0 x5 := hb4.trans (k5.below (by omega) hb4.size)
  refine (refSpread9_any vr vs vD nr ns mD nD R S DD fr to x5 (H.iq.row.below hb5) (H.iq.src.below hb5) (Lb.below H.iq.dsts hb5) H.iq.rowl H.iq.srcl H.iq.dstsl H.iq.dstsn).mono fun e x6 ⟨vw, B6, C6, T6, he, r6, b6, h6⟩ => ⟨vw, he, bta9 hb5 b6, ?_⟩
  have hb6 := bta9 hb5 b6
  refine (laid9_any vw vg mD kg nD G T6 x6 r6.lb (H.gap.below hb6) H.mDl H.kgl H.nDl).mono fun e x7 ⟨gV, CV, FV, vV, he, LV⟩ => ⟨gV, CV, vV, he, bta9 hb6 LV.bel, ?_⟩
  have hb7 := bta9 hb6 LV.bel
  have q1 : Rb x7 (.slice (some ⟨gI, 0, none⟩) (ls9 kg nD mD) CI) (ls9 kg nD mD) (ld9 kg nD G T6 mD) := ((r5.below b6).below LV.bel).congr (fun q hq => ld9_congr mD (fun r hr j hj => (h6 r hr j hj).symm) q hq)
  exact (equal9_true _ _ _ _ x7 q1 LV.rb).mono fun e x8 ⟨he, m8, h8⟩ => ⟨he, bta9 hb7 (by rw [h8]; exact below_drewN (Below.refl _ _) m8)⟩
end
end Go.Proofs.Ytdeophhcbkahgaa
