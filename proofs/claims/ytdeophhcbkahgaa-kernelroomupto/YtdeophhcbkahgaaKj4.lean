import Derived.Test.YtdeophhcbkahgaaKzb
import Derived.Test.YtdeophhcbkahgaaKzd
import Derived.Lib.SliceRun
namespace Go.Proofs.Ytdeophhcbkahgaa
open Go.RowKit Gf2
set_option linter.unusedVariables false

set_option maxHeartbeats 2000000 in
set_option maxRecDepth 100000 in
theorem allof9 (L : Nat) (v : Value) (m : Nat) (n : Nat → Nat) (S : Nat → Nat → Nat) (w : World) (hv : Lb w v m n S) (hmb : m ≤ 140737488355328) :
    Calls Try.prog 27 #[.int .i64 (L : Int), v] w fun e w' => (∃ b : Bool, e = .returned (.bool b) ∧ (b = true ↔ ∀ i, i < m → n i = L)) ∧ w' = w := by
  obtain ⟨V, ⟨hmb2, a, cap, rfl, -, -, h4⟩, hV⟩ := hv
  go_enter Try.func27, Try.ntmps27
  go_wp2
  go_loopw [9] (fun i wr => ∃ j : Nat, j ≤ m ∧ i = .int .i64 j ∧ w = wr ∧ ∀ i, i < j → n i = L) (fun i _ => m - (intOf i).toNat)
  case atStart => exact ⟨0, Nat.zero_le _, rfl, rfl, fun i hi => absurd hi (Nat.not_lt_zero _)⟩
  case round =>
    obtain ⟨j, hj, rfl, rfl, hE⟩ := hrel
    by_cases hlt : j < m
    · obtain ⟨b', o', rfl, hbl, hc'⟩ := h4 (by omega)
      have q2 := hc' j hlt
      obtain ⟨s1, s2, x1, y1, e1, -, -, s4⟩ := hV j hlt
      rw [e1] at q2
      have ib : ((j : Nat) : Int) < (m : Int) := by omega
      have W1 := wrap_succ8 (j := j) (by unfold big; omega)
      by_cases hjL : n j = L
      · rw [hjL] at q2
        have HV : Hid ((∀ i, i < j → n i = L) ∧ n j = L) := ⟨hE, hjL⟩
        clear hE hjL s1 s2 s4 e1 hc' h4 hV hmb hmb2 hbl
        go_wp2
        go_roundw
        case rel =>
          refine ⟨j + 1, hlt, by first | rfl | (rw [W1]; rfl), by first | rfl | trivial, fun i hi => ?_⟩
          by_cases e : i = j
          · rw [e]; exact HV.out.2
          · exact HV.out.1 i (by omega)
        case measure => first | exact meas_lt8 hlt | (rw [W1]; exact meas_lt8 hlt)
      · have hI : ¬ ((n j : Int) = (L : Int)) := fun e => hjL (Int.ofNat.inj e)
        have H6 : Hid (¬ ∀ i, i < m → n i = L) := fun h => hjL (h j hlt)
        clear hE hjL s1 s2 s4 e1 hc' h4 hV hmb hmb2 hbl
        go_wp2
        go_ret
        exact ⟨⟨false, rfl, ⟨fun h => absurd h (by decide), fun h => absurd h H6.out⟩⟩, by first | rfl | trivial⟩
    · have hjm : j = m := by omega
      subst hjm
      clear h4 hV hmb hlt hj
      go_wp2
      go_ret
      exact ⟨⟨true, rfl, ⟨fun _ => hE, fun _ => rfl⟩⟩, by first | rfl | trivial⟩
theorem allof9_yes (L : Nat) (v : Value) (m : Nat) (n : Nat → Nat) (S : Nat → Nat → Nat) (w : World) (hv : Lb w v m n S) (hmb : m ≤ 140737488355328) (h : ∀ i, i < m → n i = L) :
    Calls Try.prog 27 #[.int .i64 (L : Int), v] w fun e w' => e = .returned (.bool true) ∧ w' = w :=
  (allof9 L v m n S w hv hmb).mono fun e w' ⟨⟨b, e1, hb⟩, h2⟩ => ⟨by rw [e1, hb.2 h], h2⟩
theorem allof9_no (L : Nat) (v : Value) (m : Nat) (n : Nat → Nat) (S : Nat → Nat → Nat) (w : World) (hv : Lb w v m n S) (hmb : m ≤ 140737488355328) (h : ¬ ∀ i, i < m → n i = L) :
    Calls Try.prog 27 #[.int .i64 (L : Int), v] w fun e w' => e = .returned (.bool false) ∧ w' = w :=
  (allof9 L v m n S w hv hmb).mono fun e w' ⟨⟨b, e1, hb⟩, h2⟩ => ⟨by rw [e1]; cases b with | false => rfl | true => exact absurd (hb.1 rfl) h, h2⟩
set_option maxHeartbeats 2000000 in
set_option maxRecDepth 100000 in
theorem first9 (srcs dsts : Value) (k d : Nat) (ns nd : Nat → Nat) (S D : Nat → Nat → Nat) (w : World) (hs : Lb w srcs k ns S) (hd : Lb w dsts d nd D) :
    Calls Try.prog 42 #[srcs, dsts] w fun e w' => e = .returned (.int .i64 (len9 k d ns nd : Nat)) ∧ w' = w := by
  obtain ⟨V, ⟨hmb2, a, cap, rfl, -, -, h4⟩, hV⟩ := hs
  obtain ⟨V2, ⟨hmb3, a2, cap2, rfl, -, -, h42⟩, hV2⟩ := hd
  by_cases hk : 0 < k
  · obtain ⟨b, o, rfl, -, hc⟩ := h4 hk
    have q := hc 0 hk
    rw [Nat.add_zero] at q
    obtain ⟨s1, s2, x1, y1, e1, -, -, s4⟩ := hV 0 hk
    rw [e1] at q
    have ib : (0 : Int) < (k : Int) := by omega
    have HL : len9 k d ns nd = ns 0 := by unfold len9; rw [if_pos hk]
    clear hc h4 hV h42 hV2 s1 s2 s4 e1 hmb2 hmb3
    go_enter Try.func42, Try.ntmps42
    go_wp2
    go_ret
    exact ⟨by rw [HL]; rfl, rfl⟩
  · have hk0 : k = 0 := by omega
    subst hk0
    by_cases hd : 0 < d
    · obtain ⟨b, o, rfl, -, hc⟩ := h42 hd
      have q := hc 0 hd
      rw [Nat.add_zero] at q
      obtain ⟨s1, s2, x1, y1, e1, -, -, s4⟩ := hV2 0 hd
      rw [e1] at q
      have ib : (0 : Int) < (d : Int) := by omega
      have HL : len9 0 d ns nd = nd 0 := by unfold len9; rw [if_neg (by decide), if_pos hd]
      clear hc h4 hV h42 hV2 s1 s2 s4 e1 hmb2 hmb3
      go_enter Try.func42, Try.ntmps42
      go_wp2
      go_ret
      exact ⟨by rw [HL]; rfl, rfl⟩
    · have hd0 : d = 0 := by omega
      subst hd0
      clear h4 hV h42 hV2 hmb2 hmb3
      go_enter Try.func42, Try.ntmps42
      go_wp2
      go_ret
      exact ⟨rfl, rfl⟩
set_option maxHeartbeats 2000000 in
set_option maxRecDepth 100000 in
theorem within9_yes (fr to : Int) (L : Nat) (w : World) (h : FitR fr to L) :
    Calls Try.prog 28 #[.agg #[.int .i64 fr, .int .i64 to], .int .i64 (L : Int)] w fun e w' => e = .returned (.bool true) ∧ Below w.heap.size w w' := by
  obtain ⟨h1, h2, h3⟩ := h
  go_enter Try.func28, Try.ntmps28
  go_wp2
  go_ret
  exact ⟨rfl, (Below.refl _ _).alloc (Nat.le_refl _) _⟩
set_option maxHeartbeats 2000000 in
set_option maxRecDepth 100000 in
theorem within9_no (fr to : Int) (L : Nat) (w : World) (h : ¬ FitR fr to L) :
    Calls Try.prog 28 #[.agg #[.int .i64 fr, .int .i64 to], .int .i64 (L : Int)] w fun e w' => e = .returned (.bool false) ∧ Below w.heap.size w w' := by
  by_cases h1 : 0 ≤ fr
  · by_cases h2 : fr ≤ to
    · have h3 : ¬ (to ≤ (L : Int)) := fun h3 => h ⟨h1, h2, h3⟩
      clear h
      go_enter Try.func28, Try.ntmps28
      go_wp2
      go_ret
      exact ⟨rfl, (Below.refl _ _).alloc (Nat.le_refl _) _⟩
    · clear h
      go_enter Try.func28, Try.ntmps28
      go_wp2
      go_ret
      exact ⟨rfl, (Below.refl _ _).alloc (Nat.le_refl _) _⟩
  · clear h
    go_enter Try.func28, Try.ntmps28
    go_wp2
    go_ret
    exact ⟨rfl, (Below.refl _ _).alloc (Nat.le_refl _) _⟩
theorem ll_form {E : Nat → Prop} {w : World} {v : Value} {m : Nat} {n : Nat → Nat} {S : Nat → Nat → Nat} (h : Ll E w v m n S) : ∃ a c, v = .slice a m c := by
  obtain ⟨V, ⟨_, a, c, h, _⟩, _⟩ := h
  exact ⟨a, c, h⟩
theorem Ks.under {w w' : World} {p : Addr} {b lo hi : Nat} (h : Ks w p b lo hi) (hb : Below w.heap.size w w') : Ks w' p b lo hi :=
  h.keep (Nat.le_trans h.hi hb.size) (fun x _ hx => hb.block x (Nat.lt_of_lt_of_le hx h.hi))
set_option maxHeartbeats 2000000 in
set_option maxRecDepth 100000 in
theorem unfit9 (p : Addr) (bk lo hi m k d : Nat) (nr ns nd : Nat → Nat) (R S D : Nat → Nat → Nat) (fr to : Int) (rows srcs dsts : Value) (w : World) (hk : Ks w p bk lo hi) (hmb : m ≤ 140737488355328) (hkb : k ≤ 140737488355328) (hdb : d ≤ 140737488355328)
    (hr : Lb w rows m nr R) (hs : Lb w srcs k ns S) (hd : Lb w dsts d nd D) :
    Calls Try.prog 25 #[.pointer (some p), rows, srcs, dsts, .agg #[.int .i64 fr, .int .i64 to]] w fun e w' => e = .returned (.int .i64 (fit9 m k d nr ns nd fr to : Nat)) ∧ Below w.heap.size w w' := by
  obtain ⟨ar, cr, er⟩ := ll_form hr
  obtain ⟨as_, cs, es⟩ := ll_form hs
  obtain ⟨ad, cd, ed⟩ := ll_form hd
  subst er es ed
  have b1 : Below w.heap.size w (w.alloc (.cells #[.int .i64 fr, .int .i64 to] 30)) := (Below.refl _ _).alloc (Nat.le_refl _) _
  have c0 := isnil9_no p bk lo hi _ (hk.under b1)
  have c1 := first9 _ _ k d ns nd S D _ (hs.below b1) (hd.below b1)
  by_cases hmd : m = d
  case neg =>
    have hI : ¬ ((m : Int) = (d : Int)) := fun e => hmd (Int.ofNat.inj e)
    have H := fit9_six (m := m) (k := k) (d := d) (nr := nr) (ns := ns) (nd := nd) (fr := fr) (to := to) (fun h => hmd h.1)
    clear hr hs hd hk hmd
    go_enter Try.func25, Try.ntmps25
    go_wp2_with (first | (go_at_call 24; (with_reducible refine c0.mono ?_); rintro e w9 ⟨rfl, hw9⟩; have hw9 := hw9.symm; subst hw9) | (go_at_call 42; (with_reducible refine c1.mono ?_); rintro e w9 ⟨rfl, hw9⟩; have hw9 := hw9.symm; subst hw9))
    go_ret
    exact ⟨by rw [H]; rfl, b1⟩
  case pos =>
  subst hmd
  by_cases h1 : ∀ i, i < m → nr i = k
  case neg =>
    have H := fit9_six (m := m) (k := k) (d := m) (nr := nr) (ns := ns) (nd := nd) (fr := fr) (to := to) (fun h => h1 h.2.1)
    have c2 := allof9_no k _ m nr R _ (hr.below b1) hmb h1
    clear hr hs hd hk h1
    go_enter Try.func25, Try.ntmps25
    go_wp2_with (first | (go_at_call 24; (with_reducible refine c0.mono ?_); rintro e w9 ⟨rfl, hw9⟩; have hw9 := hw9.symm; subst hw9) | (go_at_call 42; (with_reducible refine c1.mono ?_); rintro e w9 ⟨rfl, hw9⟩; have hw9 := hw9.symm; subst hw9) | (go_at_call 27; first | ((with_reducible refine c2.mono ?_); rintro e w9 ⟨rfl, hw9⟩; have hw9 := hw9.symm; subst hw9)))
    go_ret
    exact ⟨by rw [H]; rfl, b1⟩
  case pos =>
  have c2 := allof9_yes k _ m nr R _ (hr.below b1) hmb h1
  by_cases h2 : ∀ i, i < k → ns i = len9 k m ns nd
  case neg =>
    have H := fit9_six (m := m) (k := k) (d := m) (nr := nr) (ns := ns) (nd := nd) (fr := fr) (to := to) (fun h => h2 h.2.2.1)
    have c3 := allof9_no (len9 k m ns nd) _ k ns S _ (hs.below b1) hkb h2
    clear hr hs hd hk h1 h2
    go_enter Try.func25, Try.ntmps25
    go_wp2_with (first | (go_at_call 24; (with_reducible refine c0.mono ?_); rintro e w9 ⟨rfl, hw9⟩; have hw9 := hw9.symm; subst hw9) | (go_at_call 42; (with_reducible refine c1.mono ?_); rintro e w9 ⟨rfl, hw9⟩; have hw9 := hw9.symm; subst hw9) | (go_at_call 27; first | ((with_reducible refine c2.mono ?_); rintro e w9 ⟨rfl, hw9⟩; have hw9 := hw9.symm; subst hw9) | ((with_reducible refine c3.mono ?_); rintro e w9 ⟨rfl, hw9⟩; have hw9 := hw9.symm; subst hw9)))
    go_ret
    exact ⟨by rw [H]; rfl, b1⟩
  case pos =>
  have c3 := allof9_yes (len9 k m ns nd) _ k ns S _ (hs.below b1) hkb h2
  by_cases h3 : ∀ i, i < m → nd i = len9 k m ns nd
  case neg =>
    have H := fit9_six (m := m) (k := k) (d := m) (nr := nr) (ns := ns) (nd := nd) (fr := fr) (to := to) (fun h => h3 h.2.2.2)
    have c4 := allof9_no (len9 k m ns nd) _ m nd D _ (hd.below b1) hmb h3
    clear hr hs hd hk h1 h2 h3
    go_enter Try.func25, Try.ntmps25
    go_wp2_with (first | (go_at_call 24; (with_reducible refine c0.mono ?_); rintro e w9 ⟨rfl, hw9⟩; have hw9 := hw9.symm; subst hw9) | (go_at_call 42; (with_reducible refine c1.mono ?_); rintro e w9 ⟨rfl, hw9⟩; have hw9 := hw9.symm; subst hw9) | (go_at_call 27; first | ((with_reducible refine c2.mono ?_); rintro e w9 ⟨rfl, hw9⟩; have hw9 := hw9.symm; subst hw9) | ((with_reducible refine c3.mono ?_); rintro e w9 ⟨rfl, hw9⟩; have hw9 := hw9.symm; subst hw9) | ((with_reducible refine c4.mono ?_); rintro e w9 ⟨rfl, hw9⟩; have hw9 := hw9.symm; subst hw9)))
    go_ret
    exact ⟨by rw [H]; rfl, b1⟩
  case pos =>
  have c4 := allof9_yes (len9 k m ns nd) _ m nd D _ (hd.below b1) hmb h3
  by_cases h4 : FitR fr to (len9 k m ns nd)
  case neg =>
    have H := fit9_seven (m := m) (k := k) (d := m) (nr := nr) (ns := ns) (nd := nd) (fr := fr) (to := to) ⟨rfl, h1, h2, h3⟩ h4
    have c5 := within9_no fr to (len9 k m ns nd) (w.alloc (.cells #[.int .i64 fr, .int .i64 to] 30)) h4
    clear hr hs hd hk h1 h2 h3 h4
    go_enter Try.func25, Try.ntmps25
    go_wp2_with (first | (go_at_call 24; (with_reducible refine c0.mono ?_); rintro e w9 ⟨rfl, hw9⟩; have hw9 := hw9.symm; subst hw9) | (go_at_call 42; (with_reducible refine c1.mono ?_); rintro e w9 ⟨rfl, hw9⟩; have hw9 := hw9.symm; subst hw9) | (go_at_call 27; first | ((with_reducible refine c2.mono ?_); rintro e w9 ⟨rfl, hw9⟩; have hw9 := hw9.symm; subst hw9) | ((with_reducible refine c3.mono ?_); rintro e w9 ⟨rfl, hw9⟩; have hw9 := hw9.symm; subst hw9) | ((with_reducible refine c4.mono ?_); rintro e w9 ⟨rfl, hw9⟩; have hw9 := hw9.symm; subst hw9)) | (go_at_call 28; (with_reducible refine c5.mono ?_); rintro e w5 ⟨rfl, hb5⟩))
    go_ret
    exact ⟨by rw [H]; rfl, b1.trans (hb5.mono b1.size)⟩
  case pos =>
  have H := fit9_zero (m := m) (k := k) (d := m) (nr := nr) (ns := ns) (nd := nd) (fr := fr) (to := to) ⟨rfl, h1, h2, h3⟩ h4
  have c5 := within9_yes fr to (len9 k m ns nd) (w.alloc (.cells #[.int .i64 fr, .int .i64 to] 30)) h4
  clear hr hs hd hk h1 h2 h3 h4
  go_enter Try.func25, Try.ntmps25
  go_wp2_with (first | (go_at_call 24; (with_reducible refine c0.mono ?_); rintro e w9 ⟨rfl, hw9⟩; have hw9 := hw9.symm; subst hw9) | (go_at_call 42; (with_reducible refine c1.mono ?_); rintro e w9 ⟨rfl, hw9⟩; have hw9 := hw9.symm; subst hw9) | (go_at_call 27; first | ((with_reducible refine c2.mono ?_); rintro e w9 ⟨rfl, hw9⟩; have hw9 := hw9.symm; subst hw9) | ((with_reducible refine c3.mono ?_); rintro e w9 ⟨rfl, hw9⟩; have hw9 := hw9.symm; subst hw9) | ((with_reducible refine c4.mono ?_); rintro e w9 ⟨rfl, hw9⟩; have hw9 := hw9.symm; subst hw9)) | (go_at_call 28; (with_reducible refine c5.mono ?_); rintro e w5 ⟨rfl, hb5⟩))
  go_ret
  exact ⟨by rw [H]; rfl, b1.trans (hb5.mono b1.size)⟩
end Go.Proofs.Ytdeophhcbkahgaa
namespace Go.Proofs.Ytdeophhcbkahgaa
open Go.RowKit Gf2
set_option linter.unusedVariables false

/-- a set adds the products. -/
theorem addp9 (p : Addr) (bk lo hi k L f t g o N : Nat) (F R : Nat → Nat) (S : Nat → Nat → Nat) (a : Option Addr) (ca : Nat) (row srcs : Value) (w : World) (hk : Ks w p bk lo hi)
    (hg : g < lo ∨ hi ≤ g) (hR : Rw w g N F) (hd : 0 < t - f → a = some ⟨g, o, none⟩) (hoN : o + (t - f) ≤ N) (hca : t - f ≤ ca) (hn : t - f ≤ big) (hr : Re (fun x => x = g) w row k R) (hs : Ll (fun x => x = g) w srcs k (fun _ => L) S) (hft : f ≤ t) (htL : 0 < k → t ≤ L) (hkb : k ≤ 140737488355328) :
    Calls Try.prog 26 #[.pointer (some p), row, srcs, .slice a (t - f : Nat) ca, .agg #[.int .i64 (f : Int), .int .i64 (t : Int)]] w fun e w' => (∃ v, e = .returned v) ∧ Kp g w w' ∧ Rw w' g N (pl F o (t - f) (fun x => F (o + x) ^^^ ks R (fun i j => S i (f + j)) k x)) := by
  obtain ⟨g0, T, q, mid, rfl, h1, h2, h3, h4, h5, i0, i1⟩ := hk
  rcases h5 with ⟨rfl, rfl, h5⟩ | ⟨rfl, rfl, h5⟩ | ⟨rfl, rfl, h5⟩
  · exact addp9_table q lo mid hi g0 k L f t g o N F R S a ca row srcs w h5 i0 h1 h2 h3 h4 hg hR hd hoN hca hn hr hs hft htL hkb
  · exact addp9_nibble q lo mid hi g0 k L f t g o N F R S a ca row srcs w h5 i0 h1 h2 h3 h4 hg hR hd hoN hca hn hr hs hft htL hkb
  · exact addp9_sliced q lo mid hi g0 k L f t g o N F R S a ca row srcs w h5 i0 h1 h2 h3 h4 hg hR hd hoN hca hn hr hs hft htL hkb

theorem zeros9 {g N : Nat} : ∀ (n o : Nat) (w : World) (F : Nat → Nat), Rw w g N F → o + n ≤ N →
    Rw (w.setCells g o (List.replicate n (.int .u8 0))) g N (pl F o n (fun _ => 0)) ∧ Only g w (w.setCells g o (List.replicate n (.int .u8 0)))
  | 0, o, w, F, h, _ => ⟨h.congr (fun i _ => (pl_out (by omega)).symm), Only.refl _ _⟩
  | n + 1, o, w, F, h, hn => by
    obtain ⟨h1, h2⟩ := zeros9 n (o + 1) (w.setCell ⟨g, o, none⟩ (.int .u8 0)) (fun i => if i = o then 0 else F i) (h.set o 0 (by decide)) (by omega)
    refine ⟨h1.congr (fun i hi => ?_), ((Only.refl g w).setCell o _).trans h2⟩
    unfold pl
    by_cases e : o + 1 ≤ i ∧ i < o + 1 + n
    · rw [if_pos e, if_pos (by omega)]
    · rw [if_neg e]
      show (if i = o then 0 else F i) = _
      by_cases e2 : i = o
      · rw [if_pos e2, if_pos (by omega)]
      · rw [if_neg e2, if_neg (by omega)]
theorem zero_u8k (w : World) : (zeroValue 5).run Try.prog w = .ok (.int .u8 0) w := by kernel_rfl
/-- clear of a list that lies in a row. -/
theorem clear9 {w : World} {g N o n ca : Nat} {F : Nat → Nat} {a : Option Addr} (hR : Rw w g N F) (hd : 0 < n → a = some ⟨g, o, none⟩) (hoN : o + n ≤ N) :
    ∃ w1, (∀ ty, (Builtin.clear_ #[22] ty #[.slice a n ca]).run Try.prog w = .ok (.tuple #[]) w1) ∧ Only g w w1 ∧ Rw w1 g N (pl F o n (fun _ => 0)) := by
  by_cases h0 : 0 < n
  · obtain ⟨h1, h2⟩ := zeros9 n o w F hR hoN
    rw [hd h0]
    exact ⟨_, fun ty => Lib.run_clear_slice w 22 5 ty _ Try.underlying22 zero_u8k rfl rfl g o n ca h0 (fun j hj => by rw [hR.2.2.cell (i := o + j) (by omega)]; rfl) (fun j hj => hR.2.2.frozen (o + j)), h2, h1⟩
  · have hn0 : n = 0 := by omega
    subst hn0
    refine ⟨w, fun ty => ?_, Only.refl _ _, hR.congr (fun i _ => (pl_out (by omega)).symm)⟩
    cases a <;> simp [Builtin.clear_, run_underlying Try.underlying22]
/-- what the lists that are written hold. -/
theorem Dl.lb {w : World} {v : Value} {m L : Nat} {B o Nn : Nat → Nat} {G : Nat → Nat → Nat} (h : Dl w v m L B o Nn G) : Lb w v m (fun _ => L) (fun r j => G (B r) (o r + j)) := by
  obtain ⟨A, C, hv, hA⟩ := h.lv
  refine ⟨_, hv.mono (fun x _ e => e.elim), fun r hr => ?_⟩
  obtain ⟨h1, h2, h3⟩ := hA r hr
  obtain ⟨h4, h5⟩ := h.row r hr
  have hNb := h4.1
  show Re (fun _ => False) w (.slice (A r) L (C r)) L _
  exact ⟨by omega, fun i hi => h4.2.1 _ (by omega), A r, C r, rfl, h1, h2, fun h0 => ⟨B r, o r, h3 h0, ⟨h4.lt, fun e => e⟩, fun i hi => h4.2.2.cell (by omega)⟩⟩
/-- the rows behind one more sum. -/
theorem apb_more {w : World} {N r f t : Nat} {B o : Nat → Nat} {V G : Nat → Nat → Nat} (hft : f ≤ t) {T : Nat → Nat}
    (h : Rw w (B r) N (pl (pl (apb B o f t V G r (B r)) (o r + f) (t - f) (fun _ => 0)) (o r + f) (t - f) (fun x => pl (apb B o f t V G r (B r)) (o r + f) (t - f) (fun _ => 0) (o r + f + x) ^^^ T x))) (hT : ∀ x, x < t - f → T x = V r (f + x)) :
    Rw w (B r) N (apb B o f t V G (r + 1) (B r)) :=
  h.congr (fun i hi => by
    show _ = if B r = B r ∧ o r + f ≤ i ∧ i < o r + t then V r (i - o r) else apb B o f t V G r (B r) i
    by_cases e : o r + f ≤ i ∧ i < o r + f + (t - f)
    · rw [if_pos (by omega)]
      obtain ⟨x, hx, rfl⟩ : ∃ x, x < t - f ∧ i = o r + f + x := ⟨i - (o r + f), by omega, by omega⟩
      rw [pl_in hx, pl_in hx, Nat.zero_xor, hT _ hx, show o r + f + x - o r = f + x by omega]
    · rw [if_neg (by omega), pl_out (by omega), pl_out (by omega)])
theorem apb_other {r f t b : Nat} {B o : Nat → Nat} {V G : Nat → Nat → Nat} (h : b ≠ B r) (i : Nat) : apb B o f t V G (r + 1) b i = apb B o f t V G r b i := by
  show (if b = B r ∧ o r + f ≤ i ∧ i < o r + t then V r (i - o r) else apb B o f t V G r b i) = _
  rw [if_neg (fun e => h e.1)]
theorem len9_of {k m L : Nat} (h : 0 < k ∨ 0 < m) : len9 k m (fun _ => L) (fun _ => L) = L := by
  unfold len9
  by_cases h1 : 0 < k
  · rw [if_pos h1]
  · rw [if_neg h1, if_pos (by omega)]
theorem fit9_ok {m k L f t : Nat} (hft : f ≤ t) (htL : t ≤ len9 k m (fun _ => L) (fun _ => L)) : fit9 m k m (fun _ => k) (fun _ => L) (fun _ => L) (f : Int) (t : Int) = 0 :=
  fit9_zero ⟨rfl, fun _ _ => rfl, fun i hi => (len9_of (.inl (by omega))).symm, fun i hi => (len9_of (.inr (by omega))).symm⟩ ⟨by omega, by omega, by omega⟩
theorem ks_shift (R : Nat → Nat) (S : Nat → Nat → Nat) (f x : Nat) : ∀ k, ks R (fun i j => S i (f + j)) k x = ks R S k (f + x)
  | 0 => rfl
  | k + 1 => by unfold ks; rw [ks_shift R S f x k]
theorem Ks.held {E : Nat → Prop} {w w' : World} {p : Addr} {b lo hi : Nat} (h : Ks w p b lo hi) (hk : Ke E w w') (hE : ∀ x, E x → x < lo ∨ hi ≤ x) : Ks w' p b lo hi :=
  h.keep (Nat.le_trans h.hi hk.size) (fun x h1 hx => hk.2 x (Nat.lt_of_lt_of_le hx h.hi) (fun e => by have := hE x e; omega))
theorem Ke.drew9 {E : Nat → Prop} {a b : World} (h : Ke E a b) : Ke E a b.drew := ⟨h.1.drew, h.2⟩
theorem Rw.drew9 {w : World} {g N : Nat} {F : Nat → Nat} (h : Rw w g N F) : Rw w.drew g N F := ⟨h.1, h.2.1, h.2.2.drew⟩
end Go.Proofs.Ytdeophhcbkahgaa
namespace Go.Proofs.Ytdeophhcbkahgaa
open Go.RowKit Gf2
set_option linter.unusedVariables false

set_option maxHeartbeats 4000000 in
set_option maxRecDepth 100000 in
theorem kapply_ok (p : Addr) (bk lo hi m k L f t : Nat) (B o Nn : Nat → Nat) (R S G : Nat → Nat → Nat) (rows srcs dsts : Value) (w : World) (hk : Ks w p bk lo hi) (hmb : 24 * m ≤ 140737488355328) (hkb : 24 * k ≤ 140737488355328) (hg : ∀ r, r < m → B r < lo ∨ hi ≤ B r)
    (hr : Ll (Eb m B) w rows m (fun _ => k) R) (hs : Ll (Eb m B) w srcs k (fun _ => L) S) (hd : Dl w dsts m L B o Nn G) (hft : f ≤ t) (htL : t ≤ len9 k m (fun _ => L) (fun _ => L)) :
    Calls Try.prog 12 #[.pointer (some p), rows, srcs, dsts, .agg #[.int .i64 (f : Int), .int .i64 (t : Int)]] w fun e w' => e = .returned (.int .i64 0) ∧ Ke (Eb m B) w w' ∧ ∀ r, r < m → Rw w' (B r) (Nn (B r)) (apb B o f t (fun r j => ks (R r) S k j) G m (B r)) := by
  have b1 : Below w.heap.size w (w.alloc (.cells #[.int .i64 (f : Int), .int .i64 (t : Int)] 30)) := (Below.refl _ _).alloc (Nat.le_refl _) _
  have cU := unfit9 p bk lo hi m k m (fun _ => k) (fun _ => L) (fun _ => L) R S _ (f : Int) (t : Int) rows srcs dsts _ (hk.under b1) (by omega) (by omega) (by omega) (hr.lb.below b1) (hs.lb.below b1) (hd.lb.below b1)
  rw [fit9_ok hft htL] at cU
  have htL2 : 0 < m → t ≤ L := fun h => by rw [len9_of (.inr h)] at htL; exact htL
  have htL3 : 0 < k → t ≤ L := fun h => by rw [len9_of (.inl h)] at htL; exact htL
  clear htL
  obtain ⟨as_, cs, es⟩ := ll_form hs
  obtain ⟨Ad, Cd, hdv, hdA⟩ := hd.lv
  have hdr := hd.row
  obtain ⟨Vr, hrv, hVr⟩ := hr
  clear hd
  obtain ⟨hmb2, ar, cr, er, -, -, r4⟩ := id hrv
  obtain ⟨hmb3, ad, cd, ed, -, -, d4⟩ := id hdv
  subst er ed es
  have HE : Hid (∀ r, r < m → B r < w.heap.size) := fun r h => (hdr r h).1.lt
  go_enter Try.func12, Try.ntmps12
  go_wp2_with (go_at_call 25; (with_reducible refine cU.mono ?_); rintro e w2 ⟨rfl, b2⟩)
  have y1 : w2.cell? ⟨w.heap.size, 0, none⟩ = some (.int .i64 (f : Int)) := (b2.cell (p := ⟨w.heap.size, 0, none⟩) (by simp)).trans (by simp)
  have y2 : w2.cell? ⟨w.heap.size, 1, none⟩ = some (.int .i64 (t : Int)) := (b2.cell (p := ⟨w.heap.size, 1, none⟩) (by simp)).trans (by simp)
  have z2 : w.heap.size < w2.heap.size := Nat.lt_of_lt_of_le (by simp) b2.size
  have B2 : Below w.heap.size w w2 := b1.trans (b2.mono b1.size)
  have K2 : Ke (Eb m B) w w2 := ke_below B2 _
  clear b1 b2 cU
  go_loopw [26] (fun i wr => ∃ r : Nat, r ≤ m ∧ i = .int .i64 r ∧ Ke (Eb m B) w2 wr ∧ ∀ s, s < m → Rw wr (B s) (Nn (B s)) (apb B o f t (fun r j => ks (R r) S k j) G r (B s))) (fun i _ => m - (intOf i).toNat)
  case atStart => exact ⟨0, Nat.zero_le _, rfl, Ke.refl _ _, fun s hs' => rw_below (hdr s hs').1 B2⟩
  case round =>
    obtain ⟨r, hrm, rfl, hke, hrw⟩ := hrel
    by_cases hlt : r < m
    · obtain ⟨br, orr, rfl, hbr, hcr⟩ := r4 (by omega)
      obtain ⟨bd, od, rfl, hbd, hcd⟩ := d4 (by omega)
      clear r4 d4
      have K3 : Ke (Eb m B) w wr := K2.trans hke
      have q1 := (K3.cell hbr.1 hbr.2).trans (hcr r hlt)
      have q2 := (K3.cell hbd.1 hbd.2).trans (hcd r hlt)
      have nE : ¬ Eb m B w.heap.size := fun ⟨s, hs', e⟩ => Nat.lt_irrefl _ (e ▸ HE.out s hs')
      have q4 := (hke.cell z2 nE).trans y1
      have q5 := (hke.cell z2 nE).trans y2
      obtain ⟨hd1, hd2, hd3⟩ := hdA r hlt
      have hN := (hdr r hlt).2
      have tL := htL2 (by omega)
      obtain ⟨a9, ha9, hcut⟩ := cut_pl9 (f := f) (t := t) hd3 hd1 hft tL
      obtain ⟨w3, hclr, o3, r3⟩ := clear9 (n := t - f) (o := o r + f) (ca := Cd r - f) (hrw r hlt) ha9 (by omega)
      have K4 : Ke (Eb m B) w2 w3.drew := (hke.trans (o3.kp.ke.mono (fun x _ e => ⟨r, hlt, e⟩))).drew9
      have K5 : Ke (Eb m B) w w3.drew := K2.trans K4
      have c5 := addp9 p bk lo hi k L f t (B r) (o r + f) (Nn (B r)) _ (R r) S a9 (Cd r - f) (Vr r) _ w3.drew (hk.held K5 (fun x ⟨s, hs', e⟩ => e ▸ hg s hs')) (hg r hlt) r3.drew9 ha9 (by omega) (by omega) (by have := (hrw r hlt).1; omega) (((hVr r hlt).ke K5).mono (fun x _ e => ⟨r, hlt, e⟩)) ((hs.ke K5).mono (fun x _ e => ⟨r, hlt, e⟩)) hft htL3 (by omega)
      have q6 := (K5.cell (q := orr + r) hbr.1 hbr.2).trans (hcr r hlt)
      have q7 := (K4.cell (q := 0) z2 nE).trans y1
      have q8 := (K4.cell (q := 1) z2 nE).trans y2
      have ib : ((r : Nat) : Int) < (m : Int) := by omega
      have W1 := wrap_succ8 (j := r) (by unfold big; omega)
      have HQ : Hid (Ke (Eb m B) w2 w3.drew ∧ Only (B r) wr w3 ∧ (∀ s, s < m → Rw wr (B s) (Nn (B s)) (apb B o f t (fun r j => ks (R r) S k j) G r (B s))) ∧ br < w3.drew.heap.size ∧ br ≠ B r ∧ w.heap.size < w3.drew.heap.size ∧ w.heap.size ≠ B r) :=
        ⟨K4, o3, hrw, Nat.lt_of_lt_of_le hbr.1 K5.size, fun e => hbr.2 ⟨r, hlt, e⟩, Nat.lt_of_lt_of_le z2 K4.size, fun e => nE ⟨r, hlt, e⟩⟩
      clear hcr hcd hrv hVr hdv hs hk hg hdr hdA hke hrw K2 K3 K4 K5 hbr hbd nE hd1 hd2 hd3 hN ha9 o3 r3 hmb2 hmb3 y1 y2 B2 HE z2 htL2 htL3
      go_wp2
      refine region_planI (fun w' => w'.cell? ⟨br, orr + r, none⟩ = some (Vr r) ∧ w'.cell? ⟨w.heap.size, 0, none⟩ = some (.int .i64 (f : Int)) ∧ w'.cell? ⟨w.heap.size, 1, none⟩ = some (.int .i64 (t : Int))) [0, 1, 2, 3, 4, 5, 6, 7, 8] [8, 0] 48 ⟨q6, q7, q8⟩ (by kernel_rfl) (by kernel_rfl) (fun _ a d v _ h => by cases d <;> exact h) ?_
      simp only [atI, List.getElem?_cons_zero, List.getElem?_cons_succ]
      refine planH_step ?A1 rfl (fun w' hS => ?s1) rfl (fun K hK => ?n1)
      case s1 =>
        obtain ⟨y0, y1, y2⟩ := hS
        simp only [List.take_succ_cons, List.take_zero]
        repeat still_step
        exact rfl
      case n1 =>
      go_simp
      go_wp2_with (go_at_call 26; (with_reducible refine c5.mono ?_); rintro e x1 ⟨⟨v5, rfl⟩, k5, r5⟩)
      clear c5
      obtain ⟨n1, n2, n3, n4, n5, n6, n7⟩ := HQ.out
      have HN : Hid (Ke (Eb m B) w2 x1 ∧ ∀ s, s < m → Rw x1 (B s) (Nn (B s)) (apb B o f t (fun r j => ks (R r) S k j) G (r + 1) (B s))) := by
        refine ⟨n1.trans (k5.ke.mono (fun x _ e => ⟨r, hlt, e⟩)), fun s hs' => ?_⟩
        by_cases e : B s = B r
        · rw [e]
          exact apb_more hft r5 (fun x _ => ks_shift _ _ _ _ _)
        · have h1 : Rw w3 (B s) (Nn (B s)) _ := (n3 s hs').of_block (n2.2.2 (B s) e)
          exact (k5.rw_ h1.drew9 e).congr (fun i _ => (apb_other e i).symm)
      refine hK _ _ ⟨(k5.cell n4 n5).trans q6, (k5.cell n6 n7).trans q7, (k5.cell n6 n7).trans q8⟩ ?_
      clear hK K n1 n2 n3 n4 n5 n6 n7 k5 r5 q1 q2 q4 q5 q6 q7 q8 HQ hcut hclr
      refine planH_last ?A2 rfl (fun w' hS => ?s2) rfl ?n2
      case s2 =>
        simp only [List.take_zero]
        exact rfl
      case n2 =>
      go_wp2
      go_roundw
      case rel => exact ⟨r + 1, hlt, by first | rfl | (rw [W1]; rfl), HN.out.1, HN.out.2⟩
      case measure => first | exact meas_lt8 hlt | (rw [W1]; exact meas_lt8 hlt)
    · have hkn : r = m := by omega
      subst hkn
      clear r4 d4
      go_wp2
      go_ret
      exact ⟨rfl, K2.trans hke, hrw⟩
end Go.Proofs.Ytdeophhcbkahgaa
namespace Go.Proofs.Ytdeophhcbkahgaa
open Go.RowKit Gf2
set_option linter.unusedVariables false

set_option maxHeartbeats 4000000 in
set_option maxRecDepth 100000 in
theorem unfit9_nil (u v x : Value) (fr to : Int) (w : World) :
    Calls Try.prog 25 #[.pointer none, u, v, x, .agg #[.int .i64 fr, .int .i64 to]] w fun e w' => e = .returned (.int .i64 1) ∧ Below w.heap.size w w' := by
  have c0 := isnil9_yes
  go_enter Try.func25, Try.ntmps25
  go_wp2_with (go_at_call 24; (with_reducible refine (c0 _).mono ?_); rintro e w9 ⟨rfl, hw9⟩; have hw9 := hw9.symm; subst hw9)
  go_ret
  exact ⟨rfl, (Below.refl _ _).alloc (Nat.le_refl _) _⟩
set_option maxHeartbeats 4000000 in
set_option maxRecDepth 100000 in
theorem kapply_fit (p : Addr) (bk lo hi m k d : Nat) (nr ns nd : Nat → Nat) (R S D : Nat → Nat → Nat) (fr to : Int) (rows srcs dsts : Value) (w : World) (hk : Ks w p bk lo hi) (hmb : 24 * m ≤ 140737488355328) (hkb : 24 * k ≤ 140737488355328) (hdb : 24 * d ≤ 140737488355328)
    (hr : Lb w rows m nr R) (hs : Lb w srcs k ns S) (hd : Lb w dsts d nd D) (hf : fit9 m k d nr ns nd fr to ≠ 0) :
    Calls Try.prog 12 #[.pointer (some p), rows, srcs, dsts, .agg #[.int .i64 fr, .int .i64 to]] w fun e w' => e = .returned (.int .i64 (fit9 m k d nr ns nd fr to : Nat)) ∧ Below w.heap.size w w' := by
  have b1 : Below w.heap.size w (w.alloc (.cells #[.int .i64 fr, .int .i64 to] 30)) := (Below.refl _ _).alloc (Nat.le_refl _) _
  have cU := unfit9 p bk lo hi m k d nr ns nd R S D fr to rows srcs dsts _ (hk.under b1) (by omega) (by omega) (by omega) (hr.below b1) (hs.below b1) (hd.below b1)
  generalize fit9 m k d nr ns nd fr to = n at hf cU ⊢
  have hI : ¬ ((n : Int) = 0) := by omega
  clear hr hs hd hk
  go_enter Try.func12, Try.ntmps12
  go_wp2_with (go_at_call 25; (with_reducible refine cU.mono ?_); rintro e w2 ⟨rfl, b2⟩)
  go_ret
  exact ⟨rfl, b1.trans (b2.mono b1.size)⟩
set_option maxHeartbeats 4000000 in
set_option maxRecDepth 100000 in
theorem kapply_nil (u v x : Value) (fr to : Int) (w : World) :
    Calls Try.prog 12 #[.pointer none, u, v, x, .agg #[.int .i64 fr, .int .i64 to]] w fun e w' => e = .returned (.int .i64 1) ∧ Below w.heap.size w w' := by
  have b1 : Below w.heap.size w (w.alloc (.cells #[.int .i64 fr, .int .i64 to] 30)) := (Below.refl _ _).alloc (Nat.le_refl _) _
  have cU := fun W => unfit9_nil u v x fr to W
  go_enter Try.func12, Try.ntmps12
  go_wp2_with (go_at_call 25; (with_reducible refine (cU _).mono ?_); rintro e w2 ⟨rfl, b2⟩)
  go_ret
  exact ⟨rfl, b1.trans (b2.mono b1.size)⟩
set_option maxHeartbeats 4000000 in
set_option maxRecDepth 100000 in
theorem kagrees_nil (u v x : Value) (fr to : Int) (w : World) :
    Calls Try.prog 14 #[.pointer none, u, v, x, .agg #[.int .i64 fr, .int .i64 to]] w fun e w' => e = .returned (.tuple #[.bool false, .int .i64 1]) ∧ Below w.heap.size w w' := by
  have b1 : Below w.heap.size w (w.alloc (.cells #[.int .i64 fr, .int .i64 to] 30)) := (Below.refl _ _).alloc (Nat.le_refl _) _
  have cU := fun W => unfit9_nil u v x fr to W
  go_enter Try.func14, Try.ntmps14
  go_wp2_with (go_at_call 25; (with_reducible refine (cU _).mono ?_); rintro e w2 ⟨rfl, b2⟩)
  go_ret2
  exact ⟨rfl, b1.trans (b2.mono b1.size)⟩
set_option maxHeartbeats 4000000 in
set_option maxRecDepth 100000 in
theorem kspread_nil (u v x : Value) (fr to : Int) (w : World) :
    Calls Try.prog 13 #[.pointer none, u, v, x, .agg #[.int .i64 fr, .int .i64 to]] w fun e w' => e = .returned (.int .i64 1) ∧ Below w.heap.size w w' := by
  have c0 := isnil9_yes
  go_enter Try.func13, Try.ntmps13
  go_wp2_with (go_at_call 24; (with_reducible refine (c0 _).mono ?_); rintro e w9 ⟨rfl, hw9⟩; have hw9 := hw9.symm; subst hw9)
  go_ret
  exact ⟨rfl, (Below.refl _ _).alloc (Nat.le_refl _) _⟩
set_option maxHeartbeats 4000000 in
set_option maxRecDepth 100000 in
theorem kspread_fit (p : Addr) (bk lo hi c L d : Nat) (nd K F : Nat → Nat) (D : Nat → Nat → Nat) (fr to : Int) (col diff dsts : Value) (w : World) (hk : Ks w p bk lo hi) (hcb : c ≤ 140737488355328) (hdb : 24 * d ≤ 140737488355328)
    (hc : Rb w col c K) (hs : Rb w diff L F) (hd : Lb w dsts d nd D) (hf : sf9 c d L nd fr to ≠ 0) :
    Calls Try.prog 13 #[.pointer (some p), col, diff, dsts, .agg #[.int .i64 fr, .int .i64 to]] w fun e w' => e = .returned (.int .i64 (sf9 c d L nd fr to : Nat)) ∧ Below w.heap.size w w' := by
  have b1 : Below w.heap.size w (w.alloc (.cells #[.int .i64 fr, .int .i64 to] 30)) := (Below.refl _ _).alloc (Nat.le_refl _) _
  have c0 := isnil9_no p bk lo hi _ (hk.under b1)
  obtain ⟨_, _, xc, cc, ec, _⟩ := hc
  obtain ⟨_, _, xs, cs, es, _⟩ := hs
  obtain ⟨ad, cd, ed⟩ := ll_form hd
  subst ec es ed
  by_cases h1 : c = d
  case neg =>
    have hI : ¬ ((c : Int) = (d : Int)) := fun e => h1 (Int.ofNat.inj e)
    have H := sf9_six (c := c) (d := d) (L := L) (nd := nd) (fr := fr) (to := to) (fun h => h1 h.1)
    clear hd hk
    go_enter Try.func13, Try.ntmps13
    go_wp2_with (first | (go_at_call 24; (with_reducible refine c0.mono ?_); rintro e w9 ⟨rfl, hw9⟩; have hw9 := hw9.symm; subst hw9))
    go_ret
    exact ⟨by rw [H]; rfl, b1⟩
  case pos =>
  subst h1
  by_cases h2 : ∀ i, i < c → nd i = L
  case neg =>
    have H := sf9_six (c := c) (d := c) (L := L) (nd := nd) (fr := fr) (to := to) (fun h => h2 h.2)
    have c2 := allof9_no L _ c nd D _ (hd.below b1) (by omega) h2
    clear hd hk h2
    go_enter Try.func13, Try.ntmps13
    go_wp2_with (first | (go_at_call 24; (with_reducible refine c0.mono ?_); rintro e w9 ⟨rfl, hw9⟩; have hw9 := hw9.symm; subst hw9) | (go_at_call 27; (with_reducible refine c2.mono ?_); rintro e w9 ⟨rfl, hw9⟩; have hw9 := hw9.symm; subst hw9))
    go_ret
    exact ⟨by rw [H]; rfl, b1⟩
  case pos =>
  have c2 := allof9_yes L _ c nd D _ (hd.below b1) (by omega) h2
  by_cases h3 : FitR fr to L
  case pos => exact absurd (sf9_zero ⟨rfl, h2⟩ h3) hf
  case neg =>
  have H := sf9_seven (c := c) (d := c) (L := L) (nd := nd) (fr := fr) (to := to) ⟨rfl, h2⟩ h3
  have c3 := within9_no fr to L (w.alloc (.cells #[.int .i64 fr, .int .i64 to] 30)) h3
  clear hd hk h2 h3
  go_enter Try.func13, Try.ntmps13
  go_wp2_with (first | (go_at_call 24; (with_reducible refine c0.mono ?_); rintro e w9 ⟨rfl, hw9⟩; have hw9 := hw9.symm; subst hw9) | (go_at_call 27; (with_reducible refine c2.mono ?_); rintro e w9 ⟨rfl, hw9⟩; have hw9 := hw9.symm; subst hw9) | (go_at_call 28; (with_reducible refine c3.mono ?_); rintro e w2 ⟨rfl, b2⟩))
  go_ret
  exact ⟨by rw [H]; rfl, b1.trans (b2.mono b1.size)⟩
end Go.Proofs.Ytdeophhcbkahgaa
namespace Go.Proofs.Ytdeophhcbkahgaa
open Go.RowKit Gf2
set_option linter.unusedVariables false

set_option maxHeartbeats 4000000 in
set_option maxRecDepth 100000 in
theorem kdot_nil (b : Option Addr) (m d : Nat) (v : Value) (a : Option Addr) (n c : Nat) (w : World) :
    Calls Try.prog 11 #[.pointer none, .slice b m d, v, .slice a n c] w fun e w' => e = .returned (.int .i64 1) ∧ Below w.heap.size w w' := by
  have c1 := fun x y W => kapply_nil x v y 0 (n : Int) W
  go_enter Try.func11, Try.ntmps11
  go_wp2_with (go_at_call 12; (with_reducible refine (c1 _ _ _).mono ?_); rintro e w2 ⟨rfl, b2⟩)
  have b1 := (((Below.refl w.heap.size w).alloc (Nat.le_refl _) (.cells #[.slice b m d] 22))).alloc (by simp) (.cells #[.slice a n c] 22)
  go_ret
  exact ⟨rfl, b1.trans (b2.mono b1.size)⟩

/-- two lists of one list each. -/
theorem two_below (w : World) (u v : Value) : Below w.heap.size w ((w.alloc (.cells #[u] 22)).alloc (.cells #[v] 22)) :=
  (((Below.refl w.heap.size w).alloc (Nat.le_refl _) _)).alloc (by simp) _
theorem one_lv {E : Nat → Prop} {w : World} {g : Nat} {u : Value} (hg : g < w.heap.size) (hE : ¬ E g) (h : w.cell? ⟨g, 0, none⟩ = some u) : Lv E w (.slice (some ⟨g, 0, none⟩) 1 1) 1 (fun _ => u) :=
  ⟨by unfold big; decide, _, _, rfl, Nat.le_refl _, by unfold big; decide, fun _ => ⟨g, 0, rfl, ⟨hg, hE⟩, fun i hi => by rw [show i = 0 by omega]; exact h⟩⟩

set_option maxHeartbeats 4000000 in
set_option maxRecDepth 100000 in
theorem kdot_ok (p : Addr) (bk lo hi k n g o N : Nat) (F R : Nat → Nat) (S : Nat → Nat → Nat) (a : Option Addr) (ca : Nat) (row srcs : Value) (w : World) (hca : n ≤ ca) (hcb : ca ≤ big) (hk : Ks w p bk lo hi) (hn : n ≤ big) (hkb : 24 * k ≤ 140737488355328) (hg : g < lo ∨ hi ≤ g)
    (hR : Rw w g N F) (hd : 0 < n → a = some ⟨g, o, none⟩) (hoN : o + n ≤ N) (hr : Re (fun x => x = g) w row k R) (hs : Ll (fun x => x = g) w srcs k (fun _ => n) S) :
    Calls Try.prog 11 #[.pointer (some p), row, srcs, .slice a n ca] w fun e w' => e = .returned (.int .i64 0) ∧ Kp g w w' ∧ Rw w' g N (pl F o n (fun j => ks R S k j)) := by
  have b1 := two_below w row (.slice a n ca)
  have hE : ∀ x, Eb 1 (fun _ => g) x → x = g := fun x ⟨r, _, e⟩ => e
  have hgl := hR.lt
  have l1 : Lv (Eb 1 (fun _ => g)) ((w.alloc (.cells #[row] 22)).alloc (.cells #[.slice a n ca] 22)) (.slice (some ⟨w.heap.size, 0, none⟩) 1 1) 1 (fun _ => row) :=
    one_lv (by simp <;> omega) (fun e => by have := hE _ e; omega) (by simp)
  have l2 : Lv (Eb 1 (fun _ => g)) ((w.alloc (.cells #[row] 22)).alloc (.cells #[.slice a n ca] 22)) (.slice (some ⟨w.heap.size + 1, 0, none⟩) 1 1) 1 (fun _ => .slice a n ca) :=
    one_lv (by simp <;> omega) (fun e => by have := hE _ e; omega) (by simp)
  have hr1 : Ll (Eb 1 (fun _ => g)) ((w.alloc (.cells #[row] 22)).alloc (.cells #[.slice a n ca] 22)) (.slice (some ⟨w.heap.size, 0, none⟩) 1 1) 1 (fun _ => k) (fun _ => R) :=
    ⟨_, l1, fun i hi => (hr.mono (fun x _ e => hE x e)).ke (ke_below b1 _)⟩
  have hd1 : Dl ((w.alloc (.cells #[row] 22)).alloc (.cells #[.slice a n ca] 22)) (.slice (some ⟨w.heap.size + 1, 0, none⟩) 1 1) 1 n (fun _ => g) (fun _ => o) (fun _ => N) (fun _ => F) :=
    ⟨⟨fun _ => a, fun _ => ca, l2, fun r hr' => ⟨hca, hcb, hd⟩⟩, fun r hr' => ⟨rw_below hR b1, hoN⟩, fun r s hr' hs' h => absurd (show r = s by omega) h⟩
  have c1 : Calls Try.prog 12 #[.pointer (some p), .slice (some ⟨w.heap.size, 0, none⟩) 1 1, srcs, .slice (some ⟨w.heap.size + 1, 0, none⟩) 1 1, .agg #[.int .i64 0, .int .i64 (n : Int)]] ((w.alloc (.cells #[row] 22)).alloc (.cells #[.slice a n ca] 22)) _ :=
    kapply_ok p bk lo hi 1 k n 0 n (fun _ => g) (fun _ => o) (fun _ => N) (fun _ => R) S (fun _ => F) _ srcs _ _ (hk.under b1) (by decide) hkb (fun _ _ => hg) hr1 ((hs.mono (fun x _ e => hE x e)).ke (ke_below b1 _)) hd1 (Nat.zero_le _) (by rw [len9_of (.inr (by decide))]; exact Nat.le_refl _)
  obtain ⟨_, _, ar, cr, er, _⟩ := hr
  subst er
  have HQ : Hid (∀ w', Ke (Eb 1 (fun _ => g)) ((w.alloc (.cells #[.slice ar k cr] 22)).alloc (.cells #[.slice a n ca] 22)) w' → (∀ r, r < 1 → Rw w' g N (apb (fun _ => g) (fun _ => o) 0 n (fun r j => ks R S k j) (fun _ => F) 1 g)) → Kp g w w' ∧ Rw w' g N (pl F o n (fun j => ks R S k j))) := by
    intro w' h1 h2
    refine ⟨((ke_below b1 (fun x => x = g)).trans (h1.mono (fun x _ e => hE x e))).kp, (h2 0 (by decide)).congr (fun i _ => ?_)⟩
    show (if g = g ∧ o + 0 ≤ i ∧ i < o + n then ks R S k (i - o) else F i) = pl F o n (fun j => ks R S k j) i
    unfold pl
    by_cases e : o ≤ i ∧ i < o + n
    · rw [if_pos ⟨rfl, by omega, by omega⟩, if_pos e]
    · rw [if_neg (by omega), if_neg e]
  clear hr1 hd1 l1 l2 hR hd hk hs b1 hE
  go_enter Try.func11, Try.ntmps11
  go_wp2_with (go_at_call 12; (with_reducible refine c1.mono ?_); rintro e w2 ⟨rfl, k2, r2⟩)
  go_ret
  exact ⟨rfl, HQ.out w2 k2 r2⟩

set_option maxHeartbeats 4000000 in
set_option maxRecDepth 100000 in
theorem kdot_lens (p : Addr) (bk lo hi k m n : Nat) (ns R D : Nat → Nat) (S : Nat → Nat → Nat) (row srcs dst : Value) (w : World) (hk : Ks w p bk lo hi) (hkb : k ≤ 140737488355328) (hmb : 24 * m ≤ 140737488355328) (hr : Rb w row k R) (hs : Lb w srcs m ns S) (hd : Rb w dst n D) (hne : ¬ (k = m ∧ ∀ i, i < m → ns i = n)) :
    Calls Try.prog 11 #[.pointer (some p), row, srcs, dst] w fun e w' => e = .returned (.int .i64 6) ∧ Below w.heap.size w w' := by
  have b1 := two_below w row dst
  have hf : fit9 1 m 1 (fun _ => k) ns (fun _ => n) 0 (n : Int) = 6 := fit9_six (fun h => hne ⟨h.2.1 0 (by decide), fun i hi => (h.2.2.1 i hi).trans (h.2.2.2 0 (by decide)).symm⟩)
  have hr1 : Lb ((w.alloc (.cells #[row] 22)).alloc (.cells #[dst] 22)) (.slice (some ⟨w.heap.size, 0, none⟩) 1 1) 1 (fun _ => k) (fun _ => R) :=
    ⟨_, one_lv (by simp <;> omega) (fun e => e) (by simp), fun i hi => (hr.re (fun _ _ e => e)).ke (ke_below b1 _)⟩
  have hd1 : Lb ((w.alloc (.cells #[row] 22)).alloc (.cells #[dst] 22)) (.slice (some ⟨w.heap.size + 1, 0, none⟩) 1 1) 1 (fun _ => n) (fun _ => D) :=
    ⟨_, one_lv (by simp <;> omega) (fun e => e) (by simp), fun i hi => (hd.re (fun _ _ e => e)).ke (ke_below b1 _)⟩
  have c1 := kapply_fit p bk lo hi 1 m 1 (fun _ => k) ns (fun _ => n) (fun _ => R) S (fun _ => D) 0 (n : Int) _ srcs _ _ (hk.under b1) (by decide) hmb (by decide) hr1 (hs.below b1) hd1 (by rw [hf]; decide)
  rw [hf] at c1
  obtain ⟨_, _, ar, cr, er, _⟩ := hr
  obtain ⟨_, _, ad, cd, ed, _⟩ := hd
  subst er ed
  have HB : Hid (Below w.heap.size w ((w.alloc (.cells #[.slice ar k cr] 22)).alloc (.cells #[.slice ad n cd] 22))) := b1
  clear hr1 hd1 hk hs b1
  go_enter Try.func11, Try.ntmps11
  go_wp2_with (go_at_call 12; (with_reducible refine c1.mono ?_); rintro e w2 ⟨rfl, b2⟩)
  go_ret
  exact ⟨rfl, HB.out.trans (b2.mono HB.out.size)⟩
end Go.Proofs.Ytdeophhcbkahgaa
namespace Go.Proofs.Ytdeophhcbkahgaa
open Go.RowKit Gf2
set_option linter.unusedVariables false

set_option maxHeartbeats 2000000 in
set_option maxRecDepth 100000 in
theorem iszero9 (v : Value) (n : Nat) (F : Nat → Nat) (w : World) (h : Rb w v n F) :
    Calls Try.prog 29 #[v] w fun e w' => (∃ b : Bool, e = .returned (.bool b) ∧ (b = true ↔ ∀ i, i < n → F i = 0)) ∧ w' = w := by
  obtain ⟨h1, h2, a, cap, rfl, -, -, h4⟩ := h
  go_enter Try.func29, Try.ntmps29
  go_wp2
  go_loopw [7] (fun i wr => ∃ j : Nat, j ≤ n ∧ i = .int .i64 j ∧ w = wr ∧ ∀ i, i < j → F i = 0) (fun i _ => n - (intOf i).toNat)
  case atStart => exact ⟨0, Nat.zero_le _, rfl, rfl, fun i hi => absurd hi (Nat.not_lt_zero _)⟩
  case round =>
    obtain ⟨j, hj, rfl, rfl, hE⟩ := hrel
    by_cases hlt : j < n
    · obtain ⟨b', o', rfl, hbl, hc'⟩ := h4 (by omega)
      have q2 := hc' j hlt
      have ib : ((j : Nat) : Int) < (n : Int) := by omega
      have W1 := wrap_succ8 (j := j) (by omega)
      by_cases hjL : F j = 0
      · rw [hjL] at q2
        have HV : Hid ((∀ i, i < j → F i = 0) ∧ F j = 0) := ⟨hE, hjL⟩
        clear hE hjL hc' h4 h1 h2 hbl
        go_wp2
        go_roundw
        case rel =>
          refine ⟨j + 1, hlt, by first | rfl | (rw [W1]; rfl), by first | rfl | trivial, fun i hi => ?_⟩
          by_cases e : i = j
          · rw [e]; exact HV.out.2
          · exact HV.out.1 i (by omega)
        case measure => first | exact meas_lt8 hlt | (rw [W1]; exact meas_lt8 hlt)
      · have hI : ¬ ((F j : Int) = 0) := by omega
        have H6 : Hid (¬ ∀ i, i < n → F i = 0) := fun h => hjL (h j hlt)
        clear hE hjL hc' h4 h1 h2 hbl
        go_wp2
        go_ret
        exact ⟨⟨false, rfl, ⟨fun h => absurd h (by decide), fun h => absurd h H6.out⟩⟩, by first | rfl | trivial⟩
    · have hjm : j = n := by omega
      subst hjm
      clear h4 h1 hlt hj
      go_wp2
      go_ret
      exact ⟨⟨true, rfl, ⟨fun _ => hE, fun _ => rfl⟩⟩, by first | rfl | trivial⟩
theorem iszero9_yes (v : Value) (n : Nat) (F : Nat → Nat) (w : World) (hv : Rb w v n F) (h : ∀ i, i < n → F i = 0) :
    Calls Try.prog 29 #[v] w fun e w' => e = .returned (.bool true) ∧ w' = w :=
  (iszero9 v n F w hv).mono fun e w' ⟨⟨b, e1, hb⟩, h2⟩ => ⟨by rw [e1, hb.2 h], h2⟩
theorem iszero9_no (v : Value) (n : Nat) (F : Nat → Nat) (w : World) (hv : Rb w v n F) (h : ¬ ∀ i, i < n → F i = 0) :
    Calls Try.prog 29 #[v] w fun e w' => e = .returned (.bool false) ∧ w' = w :=
  (iszero9 v n F w hv).mono fun e w' ⟨⟨b, e1, hb⟩, h2⟩ => ⟨by rw [e1]; cases b with | false => rfl | true => exact absurd (hb.1 rfl) h, h2⟩
/-- the first m of a list. -/
theorem run_head9 (x : Option Addr) (n cx m : Nat) (hm : m ≤ cx) (W : World) : (Instr.slice 22 (.slice x n cx) none (some (.int .i64 (m : Int))) none).run Try.prog W = .ok (.slice x m cx) W := by
  have hu : Try.prog.underlying 22 = some (.slice (Try.prog.elem 22)) := by rw [elem_u8k]; exact Try.underlying22
  have h := run_slice_h (P := Try.prog) (w := W) 22 x n cx hu .i64 (m : Int) (by omega) (by omega)
  have e : (if cx = 0 then x else x.map (·.add 0)) = x := by
    split
    · rfl
    · cases x with
      | none => rfl
      | some a =>
        show some (a.add 0) = some a
        obtain ⟨b, o, s⟩ := a
        cases s <;> simp [Addr.add]
  rw [h, elem_u8k, size_u8k]
  simp only [Result.andThen, sliced, Int.toNat_natCast, Nat.zero_mul, Nat.sub_zero]
  rw [e]
theorem xor_zero9 {a b : Nat} : a ^^^ b = 0 ↔ a = b := by
  constructor
  · intro h
    have := congrArg (· ^^^ b) h
    simp only [Nat.xor_assoc, Nat.xor_self, Nat.xor_zero, Nat.zero_xor] at this
    exact this
  · rintro rfl
    exact Nat.xor_self _
set_option maxHeartbeats 4000000 in
set_option maxRecDepth 100000 in
theorem kagrees_bad (p : Addr) (bk lo hi m k d : Nat) (nr ns nd : Nat → Nat) (R S D : Nat → Nat → Nat) (fr to : Int) (rows srcs dsts : Value) (w : World) (hk : Ks w p bk lo hi) (hmb : 24 * m ≤ 140737488355328) (hkb : 24 * k ≤ 140737488355328) (hdb : 24 * d ≤ 140737488355328)
    (hr : Lb w rows m nr R) (hs : Lb w srcs k ns S) (hd : Lb w dsts d nd D) (hf : fit9 m k d nr ns nd fr to ≠ 0) :
    Calls Try.prog 14 #[.pointer (some p), rows, srcs, dsts, .agg #[.int .i64 fr, .int .i64 to]] w fun e w' => e = .returned (.tuple #[.bool false, .int .i64 (fit9 m k d nr ns nd fr to : Nat)]) ∧ Below w.heap.size w w' := by
  have b1 : Below w.heap.size w (w.alloc (.cells #[.int .i64 fr, .int .i64 to] 30)) := (Below.refl _ _).alloc (Nat.le_refl _) _
  have cU := unfit9 p bk lo hi m k d nr ns nd R S D fr to rows srcs dsts _ (hk.under b1) (by omega) (by omega) (by omega) (hr.below b1) (hs.below b1) (hd.below b1)
  generalize fit9 m k d nr ns nd fr to = n at hf cU ⊢
  have hI : ¬ ((n : Int) = 0) := by omega
  clear hr hs hd hk
  go_enter Try.func14, Try.ntmps14
  go_wp2_with (go_at_call 25; (with_reducible refine cU.mono ?_); rintro e w2 ⟨rfl, b2⟩)
  go_ret2
  exact ⟨rfl, b1.trans (b2.mono b1.size)⟩
end Go.Proofs.Ytdeophhcbkahgaa
