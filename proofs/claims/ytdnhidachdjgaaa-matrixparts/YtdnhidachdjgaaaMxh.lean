import Derived.Test.YtdnhidachdjgaaaMxg
namespace Go.Proofs.Ytdnhidachdjgaaa
open Go.RowKit Gf2
set_option linter.unusedVariables false

theorem wrap_lt8 {j b : Nat} (h : j < b) (hb : b ≤ 1000) : wrap64 ((j : Int) + 1) = (j : Int) + 1 := wrap_succ8 (by unfold big; omega)
/-- copy of n bytes into a row. -/
theorem copy10 {w : World} {g o N dl n cap cx : Nat} {F S : Nat → Nat} {x : Option Addr} (hr : Rw w g N F) (hx : Rb w (.slice x n cx) n S) (hd : o + dl ≤ N) (hn : n ≤ dl) :
    ∃ w', (Builtin.copy_ #[38, 38] 3 #[.slice (some ⟨g, o, none⟩) dl cap, .slice x n cx]).run Try.prog w = .ok (goInt n) w' ∧ Rw w' g N (pl F o n S) ∧ Only g w w' := by
  obtain ⟨h1, h2, a, c', e, h5, h6, h4⟩ := hx
  cases e
  exact copy8_min w (g := g) (o := o) (dl := dl) (cap := cap) hr (m := n) (n := n) h2 (fun h0 => by
    obtain ⟨b, p, e, hl, hc⟩ := h4 h0
    exact ⟨b, p, e, hc⟩) hd hn (Nat.le_refl _) (Nat.min_eq_left hn)

set_option maxHeartbeats 2000000 in
set_option maxRecDepth 100000 in
theorem checkBoth10_yes (u v : Value) (m m' : Nat) (n n' : Nat → Nat) (S S' : Nat → Nat → Nat) (w : World) (h : Lb w u m n S) (h' : Lb w v m' n' S') (hf : Fm m n) (hf' : Fm m' n') :
    Calls Try.prog 57 #[u, v] w fun e w' => e = .returned (.int .i64 0) ∧ w' = w := by
  have c1 := check10_yes u m n S w h hf
  have c2 := check10_yes v m' n' S' w h' hf'
  clear h h'
  go_enter Try.func57, Try.ntmps57
  go_wp2_with (go_at_call 34; first | ((with_reducible refine c1.mono ?_); rintro e w9 ⟨rfl, hw9⟩; have hw9 := hw9.symm; subst hw9) | ((with_reducible refine c2.mono ?_); rintro e w9 ⟨rfl, hw9⟩; have hw9 := hw9.symm; subst hw9))
  go_ret
  exact ⟨rfl, rfl⟩
set_option maxHeartbeats 2000000 in
set_option maxRecDepth 100000 in
theorem checkSquare10_yes (u : Value) (m : Nat) (n : Nat → Nat) (S : Nat → Nat → Nat) (w : World) (h : Lb w u m n S) (hf : Fm m n) (hsq : n 0 = m) :
    Calls Try.prog 63 #[u] w fun e w' => e = .returned (.int .i64 0) ∧ w' = w := by
  have c1 := check10_yes u m n S w h hf
  obtain ⟨V, ⟨hn, a, cap, rfl, -, -, h4⟩, hV⟩ := h
  obtain ⟨b, o, rfl, hbl, hc⟩ := h4 (by have := hf.1; omega)
  obtain ⟨x0, y0, z0⟩ : ∃ x y, w.cell? ⟨b, o + 0, none⟩ = some (.slice x m y) := by
    obtain ⟨_, _, x, y, e, _⟩ := hV 0 (by have := hf.1; omega)
    exact ⟨x, y, by rw [hc 0 (by have := hf.1; omega), e, hsq]⟩
  rw [Nat.add_zero] at z0
  have i0 : (0 : Int) < (m : Int) := by have := hf.1; omega
  clear h4 hc hV
  go_enter Try.func63, Try.ntmps63
  go_wp2_with (go_at_call 34; ((with_reducible refine c1.mono ?_); rintro e w9 ⟨rfl, hw9⟩; have hw9 := hw9.symm; subst hw9))
  go_ret
  exact ⟨rfl, rfl⟩

/-- the list of m rows' own block. -/
def Lz (w : World) (g m : Nat) : Prop := ∃ A : Array Value, w.heap[g]? = some (.cells A 38 (0, 0)) ∧ A.size = m
theorem Lz.of_heap {w w' : World} {g m : Nat} (h : Lz w g m) (e : w'.heap[g]? = w.heap[g]?) : Lz w' g m := by
  obtain ⟨A, h1, h2⟩ := h
  exact ⟨A, e.trans h1, h2⟩
theorem Lz.lt {w : World} {g m : Nat} (h : Lz w g m) : g < w.heap.size := by
  obtain ⟨A, h1, h2⟩ := h
  obtain ⟨hlt, _⟩ := Array.getElem?_eq_some_iff.1 h1
  exact hlt
theorem Cs.ne {lo hi m g cm : Nat} {w : World} {n C B : Nat → Nat} {S : Nat → Nat → Nat} (h : Cs lo hi w (.slice (some ⟨g, 0, none⟩) m cm) m n C B S) {i : Nat} (hi' : i < m) : B i ≠ g := by
  obtain ⟨a, c, e, hc1, hc2, hf⟩ := h.form
  cases e
  obtain ⟨g', e1, g1, g2, g3, g4⟩ := hf (by omega)
  cases e1
  exact g3 i hi'
theorem Lz.kp {lo hi m g cm r : Nat} {w w' : World} {n C B : Nat → Nat} {S : Nat → Nat → Nat} (h : Lz w g m) (hC : Cs lo hi w (.slice (some ⟨g, 0, none⟩) m cm) m n C B S) (hr : r < m) (hk : Kp (B r) w w') : Lz w' g m := h.of_heap (hk.2 g h.lt (fun e => hC.ne hr e.symm))
theorem Lz.rows {lo hi m k g cm : Nat} {w : World} {B : Nat → Nat} {S : Nat → Nat → Nat} (h : Lz w g m) (hC : Cs lo hi w (.slice (some ⟨g, 0, none⟩) m cm) m (fun _ => k) (fun _ => k) B S) : w.rowIs g 38 m (fun i => .slice (some ⟨B i, 0, none⟩) k k) := by
  obtain ⟨A, h1, h2⟩ := h
  exact ⟨A, h1, h2, fun i hi' => by rw [← cell_of_row w g i A _ _ h1]; exact hC.at_ hi'⟩
/-- a matrix that is answered, with its list in block g. -/
def AnsL (w w' : World) (g m c : Nat) (S : Nat → Nat → Nat) : Prop := (∃ B, Cs w.heap.size w'.heap.size w' (.slice (some ⟨g, 0, none⟩) m m) m (fun _ => c) (fun _ => c) B S ∧ w'.rowIs g 38 m (fun i => .slice (some ⟨B i, 0, none⟩) c c)) ∧ Below w.heap.size w w'
theorem AnsL.ans {w w' : World} {g m c : Nat} {S : Nat → Nat → Nat} (h : AnsL w w' g m c S) : Ans w w' (.slice (some ⟨g, 0, none⟩) m m) m c S := by
  obtain ⟨⟨B, h1, h2⟩, h3⟩ := h
  exact ⟨⟨B, h1⟩, h3⟩
theorem Cs.ansL {lo hi m c g : Nat} {w w' : World} {B : Nat → Nat} {S : Nat → Nat → Nat} (h : Cs lo hi w' (.slice (some ⟨g, 0, none⟩) m m) m (fun _ => c) (fun _ => c) B S) (hz : Lz w' g m) (hl : w.heap.size ≤ lo) (hb : Below w.heap.size w w') : AnsL w w' g m c S :=
  ⟨⟨B, h.wide hl h.hw (Nat.le_refl _), hz.rows h⟩, hb⟩
theorem Zr.lz {w wr : World} {m c : Nat} (h : Zr w wr m c m) : Lz wr w.heap.size m := by
  obtain ⟨A, h1, h2, h3⟩ := h.list
  exact ⟨A, h1, h2⟩

set_option maxHeartbeats 2000000 in
set_option maxRecDepth 100000 in
theorem strip10s (u : Value) (m f t k : Nat) (n : Nat → Nat) (S : Nat → Nat → Nat) (w : World) (h : Lb w u m n S) (hm : 1 ≤ m) (hm2 : m ≤ 256) (hft : f + k = t) (hk1 : 1 ≤ k) (ht2 : t ≤ 768) (hn : ∀ i, i < m → t ≤ n i) :
    Calls Try.prog 59 #[u, .int .i64 (f : Int), .int .i64 (t : Int)] w fun e w' => e = .returned (.slice (some ⟨w.heap.size, 0, none⟩) m m) ∧ AnsL w w' w.heap.size m k (fun i j => S i (f + j)) := by
  obtain ⟨V, ⟨hnb, a, cap, rfl, -, -, h4⟩, hV⟩ := h
  obtain ⟨b, o, rfl, hbl, hc⟩ := h4 (by omega)
  have W0 : wrap64 ((t : Int) - (f : Int)) = (k : Int) := by unfold wrap64; omega
  have W0' : (t : Int) - (f : Int) = (k : Int) := by omega
  have c4 := zeros10_any m k w (by omega) (by omega)
  have kt : t - f = k := by omega
  have HK : Hid (f + k = t ∧ k ≤ big ∧ m ≤ big) := ⟨hft, by unfold big; omega, by unfold big; omega⟩
  have HK1 : Hid (1 ≤ k) := hk1
  clear hk1
  have ft : ((f : Nat) : Int) ≤ (t : Int) := by omega
  have HV : Hid (∀ y, Below w.heap.size w y → ∀ i, i < m → ∃ x n' cx, y.cell? ⟨b, o + i, none⟩ = some (.slice x n' cx) ∧ t ≤ n' ∧ n' ≤ cx ∧ Rb y (.slice x n' cx) n' (S i)) := fun y hy i hi => by
    obtain ⟨x, cx, e, hcx⟩ : ∃ x cx, V i = .slice x (n i) cx ∧ n i ≤ cx := by obtain ⟨_, _, x, y, e, e', _⟩ := hV i hi; exact ⟨x, y, e, e'⟩
    have hr := (hV i hi).rb.below hy
    rw [e] at hr
    exact ⟨x, n i, cx, by rw [← e, ← hc i hi]; exact hy.cell (p := ⟨b, o + i, none⟩) hbl.1, hn i hi, hcx, hr⟩
  clear h4 hc hV hn hft
  go_enter Try.func59, Try.ntmps59
  go_wp2_with (go_at_call 39; (with_reducible refine c4.mono ?_); rintro e w1 ⟨rfl, hz⟩)
  clear c4 W0
  have hC := hz.cs HK.out.2.2 HK.out.2.1
  have hb1 := hz.bel
  have hlz := hz.lz
  clear hz
  generalize hB : (fun i => w.heap.size + 1 + i) = B at hC
  clear hB
  have hm1 : m ≤ 1000 := Nat.le_trans hm2 (by decide)
  go_loopw [18] (fun i wr => ∃ r : Nat, r ≤ m ∧ i = .int .i64 r ∧ Cs w.heap.size w1.heap.size wr (.slice (some ⟨w.heap.size, 0, none⟩) m m) m (fun _ => k) (fun _ => k) B (fil (fun i j => S i (f + j)) (fun _ _ => 0) r 0) ∧ Below w.heap.size w wr ∧ Lz wr w.heap.size m) (fun i _ => m - (intOf i).toNat)
  case atStart => exact ⟨0, Nat.zero_le _, rfl, hC.fil_start _, hb1, hlz⟩
  case round =>
    obtain ⟨r, hr, rfl, hC', hb', hlz'⟩ := hrel
    clear hC hb1 hlz
    by_cases hlt : r < m
    · obtain ⟨x, n', cx, q1, ln, lc, hrb⟩ := HV.out wr hb' r hlt
      obtain ⟨bx, ox, rfl⟩ : ∃ bx ox, x = some ⟨bx, ox, none⟩ := by
        obtain ⟨_, _, a9, c9, e9, _, _, h9⟩ := id hrb
        cases e9
        obtain ⟨b9, o9, e9, _⟩ := h9 (by have := HK1.out; have := HK.out.1; omega)
        exact ⟨b9, o9, e9⟩
      have hcf : ¬ cx = f := by have := HK1.out; have := HK.out.1; omega
      have q2 := hC'.at_ hlt
      have ib : ((r : Nat) : Int) < (m : Int) := Int.ofNat_lt.2 hlt
      have W1 := wrap_lt8 hlt hm1
      have tn : ((t : Nat) : Int) ≤ (n' : Int) := Int.ofNat_le.2 ln
      have tc : ((t : Nat) : Int) ≤ (cx : Int) := Int.ofNat_le.2 (Nat.le_trans ln lc)
      have HX : Hid (r < m) := hlt
      have HD : Hid (Cs w.heap.size w1.heap.size wr (.slice (some ⟨w.heap.size, 0, none⟩) m m) m (fun _ => k) (fun _ => k) B (fil (fun i j => S i (f + j)) (fun _ _ => 0) r 0) ∧ (Below w.heap.size w wr ∧ Lz wr w.heap.size m) ∧ Rb wr.drew (.slice (some ⟨bx, ox + f, none⟩) k (cx - f)) k (fun j => S r (f + j))) := ⟨hC', ⟨hb', hlz'⟩, by
        have h8 := hrb.drop (o := f) (by have := HK.out.1; omega)
        exact (h8.cut (n := k) (by have := HK.out.1; omega) (by have := HK.out.1; omega)).drewN 1⟩
      clear hC' hb' hlz' hrb hlt hr hm hm2 hm1 ht2 hnb ln lc HV kt W0'
      go_wp2
      refine region_planT (fun w' => w'.cell? ⟨w.heap.size, r, none⟩ = some (.slice (some ⟨B r, 0, none⟩) k k)) 8 [8] 34 q2 (by kernel_rfl) (by kernel_rfl) (fun _ a d v _ h => by cases d <;> exact h) ?_
      refine planT_last ?A2x0 rfl (fun w' hS => ?s2x0) rfl ?n2x0
      case s2x0 =>
        simp only [List.take_succ_cons, List.take_zero]
        repeat still_step
        exact rfl
      case n2x0 =>
      simp only [List.drop_succ_cons, List.drop_zero]
      obtain ⟨hC', ⟨hb', hlz'⟩, hrb⟩ := HD.out
      have hC2 : Cs w.heap.size w1.heap.size wr.drew (.slice (some ⟨w.heap.size, 0, none⟩) m m) m (fun _ => k) (fun _ => k) B (fil (fun i j => S i (f + j)) (fun _ _ => 0) r 0) := hC'.drewN 1
      obtain ⟨w5, hrun, hr5, ho5⟩ := copy10 (o := 0) (dl := k) (cap := k) (hC2.row r HX.out).2.2.2 hrb (Nat.le_of_eq (Nat.zero_add k)) (Nat.le_refl k)
      have HE : Hid (Cs w.heap.size w1.heap.size w5 (.slice (some ⟨w.heap.size, 0, none⟩) m m) m (fun _ => k) (fun _ => k) B (fil (fun i j => S i (f + j)) (fun _ _ => 0) (r + 1) 0) ∧ Below w.heap.size w w5 ∧ Lz w5 w.heap.size m) := ⟨(hC2.turn1 HX.out ho5.kp hr5).congr (fun i _ j hj => by
        have hj : j < k := hj
        unfold fil
        by_cases e : i = r
        · subst e
          rw [upn_same, if_pos (by omega)]
          unfold pl
          rw [if_pos (by omega)]
          show S i (f + (j - 0)) = S i (f + j)
          rw [Nat.sub_zero]
        · rw [upn_other _ _ e]
          by_cases e2 : i < r
          · rw [if_pos (by omega), if_pos (by omega)]
          · rw [if_neg (by omega), if_neg (by omega)]), (below_drewN hb' 1).trans (ho5.kp.below (hC2.row r HX.out).1 (below_drewN hb' 1).size), Lz.kp (w := wr.drew) (hlz'.of_heap rfl) hC2 HX.out ho5.kp⟩
      have kt : t - f = k := by have := HK.out.1; omega
      rw [kt]
      clear hC' hb' hlz' hrb hC2 hr5 ho5 HD kt
      go_wp2
      go_roundw
      case rel => first | exact ⟨r + 1, HX.out, by first | rfl | (rw [W1]; rfl), HE.out.1, HE.out.2.1, HE.out.2.2⟩ | (rw [W1]; (repeat apply Exists.intro); exact ⟨⟨r + 1, HX.out, rfl, HE.out.1, HE.out.2.1, HE.out.2.2⟩, rfl⟩)
      case measure => first | exact meas_lt8 HX.out | (rw [W1]; exact meas_lt8 HX.out)
    · have hrm : r = m := Nat.le_antisymm hr (Nat.le_of_not_lt hlt)
      subst hrm
      go_wp2
      go_ret
      exact ⟨rfl, hC'.fil_end.ansL hlz' (Nat.le_refl _) hb'⟩
theorem strip10 (u : Value) (m f t k : Nat) (n : Nat → Nat) (S : Nat → Nat → Nat) (w : World) (h : Lb w u m n S) (hm : 1 ≤ m) (hm2 : m ≤ 256) (hft : f + k = t) (hk1 : 1 ≤ k) (ht2 : t ≤ 768) (hn : ∀ i, i < m → t ≤ n i) :
    Calls Try.prog 59 #[u, .int .i64 (f : Int), .int .i64 (t : Int)] w fun e w' => ∃ v, e = .returned v ∧ Ans w w' v m k (fun i j => S i (f + j)) :=
  (strip10s u m f t k n S w h hm hm2 hft hk1 ht2 hn).mono fun e w' ⟨h1, h2⟩ => ⟨_, h1, h2.ans⟩
end Go.Proofs.Ytdnhidachdjgaaa
