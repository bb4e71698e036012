import Derived.Test.YtefhlnplegagfaaEbx
import Derived.Test.YtefhlnplegagfaaEbo
namespace Go.Proofs.Ytefhlnplegagfaa
open Go.RowKit Gf2
set_option linter.unusedVariables false

/-- a kernel and a list of n bytes in row g. -/
def BK (w W : World) (p : Addr) (hi g C n : Nat) (S : Nat → Nat) : Prop := Below w.heap.size w W ∧ Ker W p w.heap.size hi ∧ hi ≤ g ∧ n ≤ C ∧ ∃ F, Rw W g C F ∧ ∀ i, i < n → F i = S i
theorem BK.rb {w W : World} {p : Addr} {hi g C n : Nat} {S : Nat → Nat} (h : BK w W p hi g C n S) : Rb W (.slice (some ⟨g, 0, none⟩) n C) n S := by
  obtain ⟨h1, h2, h3, h4, F, h5, h6⟩ := h
  exact (h5.rb (o := 0) (by omega) h4 h5.1).congr (fun i hi => by rw [Nat.zero_add]; exact h6 i hi)
theorem BK.drewN {w W : World} {p : Addr} {hi g C n : Nat} {S : Nat → Nat} (h : BK w W p hi g C n S) (m : Nat) : BK w (W.drewN m) p hi g C n S := by
  obtain ⟨h1, h2, h3, h4, F, h5, h6⟩ := h
  exact ⟨below_drewN h1 m, h2.drewN m, h3, h4, F, h5.drewN m, h6⟩
theorem BK.below {w W W' : World} {p : Addr} {hi g C n : Nat} {S : Nat → Nat} (h : BK w W p hi g C n S) (hb : Below W.heap.size W W') : BK w W' p hi g C n S := by
  obtain ⟨h1, h2, h3, h4, F, h5, h6⟩ := h
  exact ⟨h1.trans (hb.mono h1.size), ker_below h2 hb, h3, h4, F, rw_below h5 hb, h6⟩
theorem BK.congr {w W : World} {p : Addr} {hi g C n : Nat} {S S' : Nat → Nat} (h : BK w W p hi g C n S) (e : ∀ i, i < n → S i = S' i) : BK w W p hi g C n S' := by
  obtain ⟨h1, h2, h3, h4, F, h5, h6⟩ := h
  exact ⟨h1, h2, h3, h4, F, h5, fun i hi => (h6 i hi).trans (e i hi)⟩

section
variable {w W : World} {p : Addr} {hi g C n : Nat} {S X : Nat → Nat} {x : Option Addr} {cx : Nat}
theorem bk_mul_far (h : BK w W p hi g C n S) (hx : Rb w (.slice x n cx) n X) (c : Nat) (hc : c < 256) :
    Calls Try.prog 13 #[.pointer (some p), .int .u8 (c : Int), .slice (some ⟨g, 0, none⟩) n C, .slice x n cx] W fun e w' => e = .returned (.int .i64 0) ∧ BK w w' p hi g C n (fun i => fm 285 c (X i)) := by
  obtain ⟨h1, h2, h3, h4, F, h5, h6⟩ := h
  have hlo := h2.lo
  have hx' : Far W g n x X := by
    obtain ⟨b1, b2, a, c', b3, b5, b6, b4⟩ := hx.rbb.below h1
    cases b3
    refine ⟨b2, fun h0 => ?_⟩
    obtain ⟨b, o, e, l1, l2, hcl⟩ := b4 h0
    exact ⟨b, o, e, by omega, hcl⟩
  refine (kmul_far p _ hi c n g 0 C F X _ x C cx W h2 hc hx.1 (.inr h3) h5 (fun _ => ⟨rfl, by omega⟩) hx').mono fun e w' ⟨a1, a2, a3⟩ => ⟨a1, h1.trans (a2.below (by omega)), ker_only h2 a2 (.inr h3), h3, h4, _, a3, fun i hi => ?_⟩
  have := pl_in (F := F) (o := 0) (S := fun i => fm 285 c (X i)) hi
  rwa [Nat.zero_add] at this
theorem bk_mul_same (h : BK w W p hi g C n S) (hn : n ≤ big) (c : Nat) (hc : c < 256) :
    Calls Try.prog 13 #[.pointer (some p), .int .u8 (c : Int), .slice (some ⟨g, 0, none⟩) n C, .slice (some ⟨g, 0, none⟩) n C] W fun e w' => e = .returned (.int .i64 0) ∧ BK w w' p hi g C n (fun i => fm 285 c (S i)) := by
  obtain ⟨h1, h2, h3, h4, F, h5, h6⟩ := h
  have hlo := h2.lo
  refine (kmul_same p _ hi c n g 0 C F _ C C W h2 hc hn (.inr h3) h5 (fun _ => ⟨rfl, by omega⟩)).mono fun e w' ⟨a1, a2, a3⟩ => ⟨a1, h1.trans (a2.below (by omega)), ker_only h2 a2 (.inr h3), h3, h4, _, a3, fun i hi => ?_⟩
  have := pl_in (F := F) (o := 0) (S := fun i => fm 285 c (F (0 + i))) hi
  rw [Nat.zero_add] at this
  rw [this, h6 i hi]
theorem bk_add_same (h : BK w W p hi g C n S) (hn : n ≤ big) (c : Nat) (hc : c < 256) :
    Calls Try.prog 14 #[.pointer (some p), .int .u8 (c : Int), .slice (some ⟨g, 0, none⟩) n C, .slice (some ⟨g, 0, none⟩) n C] W fun e w' => e = .returned (.int .i64 0) ∧ BK w w' p hi g C n (fun i => S i ^^^ fm 285 c (S i)) := by
  obtain ⟨h1, h2, h3, h4, F, h5, h6⟩ := h
  have hlo := h2.lo
  refine (kadd_same p _ hi c n g 0 C F _ C C W h2 hc hn (.inr h3) h5 (fun _ => ⟨rfl, by omega⟩)).mono fun e w' ⟨a1, a2, a3⟩ => ⟨a1, h1.trans (a2.below (by omega)), ker_only h2 a2 (.inr h3), h3, h4, _, a3, fun i hi => ?_⟩
  have := pl_in (F := F) (o := 0) (S := fun i => F (0 + i) ^^^ fm 285 c (F (0 + i))) hi
  rw [Nat.zero_add] at this
  rw [this, h6 i hi]
theorem bk_equal (h : BK w W p hi g C n S) (hx : Rb w (.slice x n cx) n S) :
    Calls Try.prog 15 #[.slice (some ⟨g, 0, none⟩) n C, .slice x n cx] W fun e w' => e = .returned (.bool true) ∧ BK w w' p hi g C n S :=
  (equal5_true _ _ n S W h.rb (hx.below h.1)).mono fun e w' ⟨a1, m, a2⟩ => ⟨a1, by subst a2; exact h.drewN m⟩
/-- zeros behind. -/
theorem bk_zeros (h : BK w W p hi g C n S) (hn : n ≤ 140737488355328) :
    Calls Try.prog 12 #[.int .i64 (n : Int)] W fun e w' => e = .returned (.slice (some ⟨W.heap.size, 0, none⟩) n n) ∧ BK w w' p hi g C n S ∧ Rb w' (.slice (some ⟨W.heap.size, 0, none⟩) n n) n (fun _ => 0) :=
  (zeros5_any n W hn).mono fun e w' ⟨a1, a2⟩ => ⟨a1, by
    subst a2
    exact ⟨h.below ((Below.refl _ _).alloc (Nat.le_refl _) _), (made_rw n hn W).rb0⟩⟩
theorem bk_equal0 {v : Value} (h : BK w W p hi g C n (fun _ => 0)) (hv : Rb W v n (fun _ => 0)) :
    Calls Try.prog 15 #[.slice (some ⟨g, 0, none⟩) n C, v] W fun e w' => e = .returned (.bool true) ∧ Below w.heap.size w w' :=
  (equal5_true _ _ n (fun _ => 0) W h.rb hv).mono fun e w' ⟨a1, m, a2⟩ => ⟨a1, by subst a2; exact below_drewN h.1 m⟩
end

set_option maxHeartbeats 4000000 in
set_option maxRecDepth 100000 in
theorem back_walk (c n : Nat) (x : Option Addr) (cx : Nat) (X : Nat → Nat) (w : World) (hc : c < 256) (hx : Rb w (.slice x n cx) n X) (hn : n ≤ 140737488351232) :
    Calls Try.prog 7 #[.int .u8 (c : Int), .slice x n cx] w fun e w' => e = .returned (.bool true) ∧ Below w.heap.size w w' := by
  have cA := awake5_any w
  have hnb : n ≤ 140737488355328 := by omega
  have hn2 := hx.1
  have c1 : ∀ W p hi g C S, BK w W p hi g C n S → Calls Try.prog 13 #[.pointer (some p), .int .u8 1, .slice (some ⟨g, 0, none⟩) n C, .slice x n cx] W fun e w' => e = .returned (.int .i64 0) ∧ BK w w' p hi g C n X :=
    fun W p hi g C S h => (bk_mul_far h hx 1 (by decide)).mono fun e w' ⟨a1, a2⟩ => ⟨a1, a2.congr (fun i hi => fld8.one_fm (hx.2.1 i hi))⟩
  have hL := fun W p hi (hk : Ker W p w.heap.size hi) (hb : Below w.heap.size w W) => lapped5_any p w.heap.size hi c n x cx X W hk hc (hx.below hb) hn
  have hA := fun W (h : Rb W (.slice x n cx) n X) => copy_app W h hnb
  have HA : Hid (∀ W, Rb W (.slice x n cx) n X → _) := hA
  clear hA
  by_cases h0 : c = 0
  · subst h0
    have cI := fun w => ginv_zero w
    have c2 : ∀ W p hi g C, BK w W p hi g C n X → Calls Try.prog 13 #[.pointer (some p), .int .u8 0, .slice (some ⟨g, 0, none⟩) n C, .slice (some ⟨g, 0, none⟩) n C] W fun e w' => e = .returned (.int .i64 0) ∧ BK w w' p hi g C n (fun _ => 0) :=
      fun W p hi g C h => (bk_mul_same h hn2 0 (by decide)).mono fun e w' ⟨a1, a2⟩ => ⟨a1, a2.congr (fun i hi => fld8.zero_fm _)⟩
    have hL : ∀ W p hi, Ker W p w.heap.size hi → Below w.heap.size w W → Calls Try.prog 20 #[.pointer (some p), .int .u8 0, .slice x n cx] W fun e w' => e = .returned (.bool true) ∧ Below W.heap.size W w' := hL
    have hc0 : ((0 : Nat) : Int) = 0 := rfl
    rw [hc0]
    clear hc0
    go_enter Try.func7, Try.ntmps7
    go_wp2_with (first
      | (go_at_call 10; (with_reducible refine cA.mono ?_); rintro e w1 ⟨p, hi, rfl, hk1, hb1⟩; obtain ⟨w2, g, C, F, hrun, hC, hg, hg2, hR, hF, hb2⟩ := HA.out w1 (hx.below hb1); have bk2 : BK w w2 p hi g C n X := ⟨hb1.trans (hb2.mono hb1.size), ker_below hk1 hb2, Nat.le_trans hk1.hi hg, hC, F, hR, hF⟩; have hL2 := hL w2 p hi bk2.2.1 bk2.1; clear hC hg hg2 hR hF hb2 hk1 hb1)
      | (at_builtin; refine Lib.wpList_append_run _ rfl _ _ _ _ rfl _ _ rfl rfl _ _ hrun ?_)
      | (go_at_call 20; (with_reducible refine hL2.mono ?_); rintro e w3 ⟨rfl, hb3⟩; have bk3 := bk2.below hb3; clear hb3)
      | (go_at_call 13; first | ((with_reducible refine (c1 _ _ _ _ _ _ bk3).mono ?_); rintro e w4 ⟨rfl, bk4⟩) | ((with_reducible refine (c2 _ _ _ _ _ bk5).mono ?_); rintro e w6 ⟨rfl, bk6⟩))
      | (go_at_call 15; first | ((with_reducible refine (bk_equal bk4 hx).mono ?_); rintro e w5 ⟨rfl, bk5⟩) | ((with_reducible refine (bk_equal0 bk7 rb7).mono ?_); rintro e w8 ⟨rfl, b8⟩))
      | (go_at_call 21; (with_reducible refine (cI _).mono ?_); rintro e w9 ⟨rfl, hw9⟩; have hw9 := hw9.symm; subst hw9)
      | (go_at_call 12; (with_reducible refine (bk_zeros bk6 hnb).mono ?_); rintro e w7 ⟨rfl, bk7, rb7⟩))
    go_ret
    exact ⟨rfl, b8⟩
  · have cI := fun w => ginv_nat c w hc h0
    have hi8 : fi 285 c < 256 := fi8_lt hc h0
    have ci := fld8.fi_mul hc h0
    have c2 := fun W p hi g C (h : BK w W p hi g C n X) => bk_mul_same h hn2 c hc
    have c3 : ∀ W p hi g C, BK w W p hi g C n (fun i => fm 285 c (X i)) → Calls Try.prog 13 #[.pointer (some p), .int .u8 (fi 285 c : Nat), .slice (some ⟨g, 0, none⟩) n C, .slice (some ⟨g, 0, none⟩) n C] W fun e w' => e = .returned (.int .i64 0) ∧ BK w w' p hi g C n X :=
      fun W p hi g C h => (bk_mul_same h hn2 (fi 285 c) hi8).mono fun e w' ⟨a1, a2⟩ => ⟨a1, a2.congr (fun i hi => by rw [← fld8.fm_assoc, fm_comm 285 (fi 285 c) c, ci, fld8.one_fm (hx.2.1 i hi)])⟩
    have c4 : ∀ W p hi g C, BK w W p hi g C n X → Calls Try.prog 14 #[.pointer (some p), .int .u8 1, .slice (some ⟨g, 0, none⟩) n C, .slice (some ⟨g, 0, none⟩) n C] W fun e w' => e = .returned (.int .i64 0) ∧ BK w w' p hi g C n (fun _ => 0) :=
      fun W p hi g C h => (bk_add_same h hn2 1 (by decide)).mono fun e w' ⟨a1, a2⟩ => ⟨a1, a2.congr (fun i hi => by rw [fld8.one_fm (hx.2.1 i hi), Nat.xor_self])⟩
    clear ci h0
    go_enter Try.func7, Try.ntmps7
    go_wp2_with (first
      | (go_at_call 10; (with_reducible refine cA.mono ?_); rintro e w1 ⟨p, hi, rfl, hk1, hb1⟩; obtain ⟨w2, g, C, F, hrun, hC, hg, hg2, hR, hF, hb2⟩ := HA.out w1 (hx.below hb1); have bk2 : BK w w2 p hi g C n X := ⟨hb1.trans (hb2.mono hb1.size), ker_below hk1 hb2, Nat.le_trans hk1.hi hg, hC, F, hR, hF⟩; have hL2 := hL w2 p hi bk2.2.1 bk2.1; clear hC hg hg2 hR hF hb2 hk1 hb1)
      | (at_builtin; refine Lib.wpList_append_run _ rfl _ _ _ _ rfl _ _ rfl rfl _ _ hrun ?_)
      | (go_at_call 20; (with_reducible refine hL2.mono ?_); rintro e w3 ⟨rfl, hb3⟩; have bk3 := bk2.below hb3; clear hb3)
      | (go_at_call 13; first | ((with_reducible refine (c1 _ _ _ _ _ _ bk3).mono ?_); rintro e w4 ⟨rfl, bk4⟩) | ((with_reducible refine (c2 _ _ _ _ _ bk5).mono ?_); rintro e w6 ⟨rfl, bk6⟩) | ((with_reducible refine (c3 _ _ _ _ _ bk6).mono ?_); rintro e w10 ⟨rfl, bk10⟩))
      | (go_at_call 14; (with_reducible refine (c4 _ _ _ _ _ bk11).mono ?_); rintro e w12 ⟨rfl, bk12⟩)
      | (go_at_call 15; first | ((with_reducible refine (bk_equal bk4 hx).mono ?_); rintro e w5 ⟨rfl, bk5⟩) | ((with_reducible refine (bk_equal bk10 hx).mono ?_); rintro e w11 ⟨rfl, bk11⟩) | ((with_reducible refine (bk_equal0 bk7 rb7).mono ?_); rintro e w8 ⟨rfl, b8⟩))
      | (go_at_call 21; (with_reducible refine (cI _).mono ?_); rintro e w9 ⟨rfl, hw9⟩; have hw9 := hw9.symm; subst hw9)
      | (go_at_call 12; (with_reducible refine (bk_zeros bk12 hnb).mono ?_); rintro e w7 ⟨rfl, bk7, rb7⟩))
    go_ret
    exact ⟨rfl, b8⟩

theorem back_any {w : World} (c : Nat) (hc : c < 256) (a : Option Addr) (n ca : Nat) (hu : Rbm w a n ca) :
    Calls Try.prog 7 #[.int .u8 (c : Int), .slice a n ca] w fun e w' => e = .returned (.bool true) ∧ Below w.heap.size w w' := by
  obtain ⟨hm, X, hX⟩ := hu
  exact back_walk c n a ca X w hc hX hm
end Go.Proofs.Ytefhlnplegagfaa
