import Derived.Test.YtldacjpkblffbabYmb
import Derived.Test.YtldacjpkblffbabYif
import Derived.Test.YtldacjpkblffbabYih
namespace Go.Proofs.Ytldacjpkblffbab
open Go.RowKit Gf2
set_option linter.unusedVariables false

-- layer 16: what ShapeMemory holds (laid by wip/genymc.py)
set_option maxHeartbeats 4000000 in
set_option maxRecDepth 100000 in
theorem split16_fl (f : Int) (k m : Nat) (v : Value) (n : Nat) (D : Nat → Nat) (w : World) (hk : I64 k) (hv : Rb w v n D) (h : lne f k m n = 0) (hb : (k + m) * ln16 f k n ≤ 67108864) :
    Calls Try.prog 9 #[.int .i64 f, .int .i64 (k : Int), .int .i64 (m : Int), v] w fun e w' => ∃ g B, e = .returned (.tuple #[.slice (some ⟨g, 0, none⟩) (k + m) (k + m), .int .i64 0]) ∧ Fl w w' g (k + m) (k + m) (fun _ => ln16 f k n) (fun _ => ln16 f k n) B (spl (ln16 f k n) n D) := by
  have c1 := fun x => length16 f k m n x hk
  unfold lnv at c1
  rw [if_pos h, h] at c1
  obtain ⟨hp, hn1, hn2⟩ := lne_ok h
  have hv' := prm_ok.1 hp
  have hll := ln16_le f (k := k) (n := n) (by have := hv'.hk; omega)
  have c1 : ∀ x, Calls Try.prog 8 #[.int .i64 f, .int .i64 (k : Int), .int .i64 (m : Int), .int .i64 (n : Int)] x fun e w' => e = .returned (.tuple #[.int .i64 (ln16 f k n : Nat), .int .i64 0]) ∧ w' = x := c1
  obtain ⟨l, hl⟩ : ∃ l, l = ln16 f k n := ⟨_, rfl⟩
  rw [← hl] at c1 hb hll
  rw [← hl]
  obtain ⟨s, p, HS, W1, W2⟩ := split_nums (k := k) (m := m) (l := l) (by have := hv'.sum; omega) (by omega)
  have D1 : decide ((67108864 : Int) < (p : Int)) = false := by have := HS.out.2; simp; omega
  have hs6 : s ≤ 65536 := by have := HS.out.1; have := hv'.sum; omega
  have hl6 : l ≤ 67108864 := by
    have : 1 * l ≤ (k + m) * l := Nat.mul_le_mul_right _ (by have := hv'.hk; omega)
    omega
  rw [← HS.out.1]
  have hmk := make_rows s (by omega)
  have hm8 := make_u8 l (by omega)
  have HN : Hid (s ≤ 65536 ∧ l ≤ 67108864) := ⟨hs6, hl6⟩
  obtain ⟨a, cap, rfl⟩ : ∃ a cap, v = .slice a n cap := by obtain ⟨-, -, a, cap, e, -⟩ := hv; exact ⟨a, cap, e⟩
  have HV : Hid (Rb w (.slice a n cap) n D) := hv
  clear h hk hb hll hl hv' hp hn1 hn2 hv hs6 hl6
  go_enter Try.func9, Try.ntmps9
  go_wp2_with (go_at_call 8; ((with_reducible refine (c1 _).mono ?_); (rintro e w9 ⟨rfl, hw9⟩; have hw9 := hw9.symm; subst hw9)))
  clear hmk c1 W1 W2 D1
  go_loopw [3, 38] (fun d i wr => ∃ (t : Nat) (B : Nat → Nat), t ≤ s ∧ i = .int .i64 t ∧ Rb w d (n - min (t * l) n) (fun j => D (min (t * l) n + j)) ∧ Fl w wr w.heap.size s t (fun _ => l) (fun _ => l) B (spl l n D)) (fun _ i _ => s - (intOf i).toNat)
  case atStart => exact ⟨0, fun _ => 0, Nat.zero_le _, rfl, by simpa using HV.out, Fl.start _ _ _ _ _ _⟩
  case round =>
    obtain ⟨t, B, ht, rfl, hd, hF⟩ := hrel
    by_cases hlt : t < s
    · have q0 := hF.bare hlt
      have q1 := hF.froz t
      obtain ⟨x, cx, rfl⟩ : ∃ x cx, u3 = .slice x (n - min (t * l) n) cx := by obtain ⟨-, -, a, cap, e, -⟩ := hd; exact ⟨a, cap, e⟩
      have r0 := made_rw l (by have := HN.out; omega) wr
      have bA : Below wr.heap.size wr (wr.alloc (.cells (madeCells #[.int .u8 0] l) 5)) := (Below.refl _ _).alloc (Nat.le_refl _) _
      have qa : (wr.alloc (.cells (madeCells #[.int .u8 0] l) 5)).frozen? ⟨w.heap.size, t, none⟩ = false := (hF.below bA).froz t
      have qb := (hF.below bA).bare hlt
      have hF1 := hF.next hlt bA (Nat.le_refl _) r0 (Nat.le_refl _)
      obtain ⟨X, hX⟩ : ∃ X, X = (wr.alloc (.cells (madeCells #[.int .u8 0] l) 5)).setCell ⟨w.heap.size, t, none⟩ (.slice (some ⟨wr.heap.size, 0, none⟩) l l) := ⟨_, rfl⟩
      rw [← hX] at hF1
      have r1 := (hF1.rows t (Nat.lt_succ_self _)).2.2.2
      simp only [upn_same] at r1
      have q2 := hF1.cell (Nat.lt_succ_self t) hlt
      simp only [upn_same] at q2
      have hdX := hd.below hF1.bel
      obtain ⟨-, d2, x', cx', e', d5, d6, d4⟩ := hdX
      cases e'
      obtain ⟨w5, hrun, hr5, ho5⟩ := copy8_min X r1 (o := 0) (dl := l) (cap := l) (a := x) (m := n - min (t * l) n) (n := min l (n - min (t * l) n)) (cap' := cx) (S := fun j => D (min (t * l) n + j)) (fun i hi => d2 i (by omega)) (fun h0 => by
        obtain ⟨b, o, e, hbl, hc⟩ := d4 (by omega)
        exact ⟨b, o, e, fun i hi => hc i (by omega)⟩) (by omega) (by omega) (by omega) (Nat.min_comm _ _)
      obtain ⟨a2, ha2, hsl⟩ := from8 x (n - min (t * l) n) cx (min l (n - min (t * l) n)) (by omega) d5
      have hd2 := rb_from8 hd (by omega) ha2
      have e9 : n - min (t * l) n - min l (n - min (t * l) n) = n - min ((t + 1) * l) n := by have := split_step (l := l) (n := n) (i := t); omega
      have HD : Hid (Rb w (.slice a2 (n - min (t * l) n - min l (n - min (t * l) n)) (cx - min l (n - min (t * l) n))) (n - min ((t + 1) * l) n) (fun j => D (min ((t + 1) * l) n + j))) := by
        show Rb _ _ _ _
        rw [← e9]
        exact hd2.congr (fun i hi => by rw [← split_step (l := l) (n := n) (i := t), Nat.add_assoc])
      have k5 : Kp (upn B t wr.heap.size t) X w5 := by rw [upn_same]; exact ho5.kp
      have hF5 := hF1.turn (Nat.lt_succ_self t) k5 (by simp only [upn_same]; exact hr5)
      have HF : Hid (Fl w w5 w.heap.size s (t + 1) (fun _ => l) (fun _ => l) (upn B t wr.heap.size) (spl l n D)) := by
        refine hF5.congr (fun i _ => ?_) (fun i _ => ?_) (fun _ _ => rfl) (fun i hi j hj => ?_)
        · unfold upn; split <;> rfl
        · unfold upn; split <;> rfl
        · by_cases e : i = t
          · subst e
            rw [upn_same] at hj ⊢
            unfold spl pl
            dsimp only
            simp only [Nat.zero_le, Nat.zero_add, Nat.sub_zero, true_and]
            by_cases h1 : i * l + j < n
            · rw [if_pos h1, if_pos (by omega), Nat.min_eq_left (by omega)]
            · rw [if_neg h1, if_neg (by omega)]
          · rw [upn_other _ _ e, upn_other _ _ e]
      have ib : ((t : Nat) : Int) < (s : Int) := by omega
      have W1 := wrap_succ8 (j := t) (by have := HN.out; unfold big; omega)
      have HX : Hid (t < s) := hlt
      rw [hX] at hrun q2
      obtain ⟨c, hc⟩ : ∃ c, c = min l (n - min (t * l) n) := ⟨_, rfl⟩
      obtain ⟨L, hL⟩ : ∃ L, L = n - min (t * l) n := ⟨_, rfl⟩
      rw [← hL] at hc
      rw [← hL, ← hc] at hrun hsl HD
      rw [← hL]
      clear hd hF q0 r0 bA hF1 hX r1 d2 d5 d6 d4 hr5 ho5 ha2 hd2 e9 k5 hF5 hlt hc hL HN HV ht
      go_wp2
      go_roundw
      case rel => exact ⟨t + 1, upn B t wr.heap.size, HX.out, by first | rfl | (rw [W1]; rfl), HD.out, HF.out⟩
      case measure => first | exact meas_lt8 HX.out | (rw [W1]; exact meas_lt8 HX.out)
    · have htl : ¬ ((t : Nat) : Int) < (s : Int) := fun e => hlt (Int.ofNat_lt.1 e)
      obtain rfl : t = s := by omega
      clear hd
      go_wp2
      go_ret2
      exact ⟨_, rfl, B, hF⟩
/-- a list of L bytes F at the head of a block of its own between lo and hi. -/
structure Qb16 (lo hi : Nat) (W : World) (g L C : Nat) (F : Nat → Nat) : Prop where
  glo : lo ≤ g
  ghi : g < hi
  hw : hi ≤ W.heap.size
  le : L ≤ C
  row : ∃ G, Rw W g C G ∧ ∀ i, i < L → G i = F i
section
variable {E : Nat → Prop} {lo hi lo' g L C s l : Nat} {W W' : World} {F G B : Nat → Nat} {S T : Nat → Nat → Nat} {u : Value}
theorem Qb16.keep (h : Qb16 lo hi W g L C F) (hk : Ke E W W') (hE : ∀ x, lo ≤ x → x < hi → ¬ E x) : Qb16 lo hi W' g L C F := by
  obtain ⟨G, h1, h2⟩ := h.row
  exact ⟨h.glo, h.ghi, Nat.le_trans h.hw hk.size, h.le, G, hk.rw_ h1 (hE g h.glo h.ghi), h2⟩
theorem Qb16.below (h : Qb16 lo hi W g L C F) (hb : Below W.heap.size W W') : Qb16 lo hi W' g L C F := h.keep (ke_below hb (fun _ => False)) (fun _ _ _ e => e)
theorem Qb16.rb (h : Qb16 lo hi W g L C F) {n : Nat} (hn : n ≤ L) : Rb W (.slice (some ⟨g, 0, none⟩) n C) n F := by
  obtain ⟨G, h1, h2⟩ := h.row
  have := h.le
  exact (h1.rb (o := 0) (n := n) (cap := C) (by omega) (by omega) h1.1).congr (fun i hi => by rw [Nat.zero_add]; exact h2 i (by omega))
theorem Qb16.congr (h : Qb16 lo hi W g L C F) (e : ∀ i, i < L → F i = G i) : Qb16 lo hi W g L C G := by
  obtain ⟨H, h1, h2⟩ := h.row
  exact ⟨h.glo, h.ghi, h.hw, h.le, H, h1, fun i hi => (h2 i hi).trans (e i hi)⟩
theorem Qb16.wide (h : Qb16 lo hi W g L C F) (h1 : lo' ≤ lo) : Qb16 lo' hi W g L C F := ⟨Nat.le_trans h1 h.glo, h.ghi, h.hw, h.le, h.row⟩
theorem Qb16.lt (h : Qb16 lo hi W g L C F) {i : Nat} (hi : i < L) : F i < 256 := by
  obtain ⟨H, h1, h2⟩ := h.row
  have := h.le
  rw [← h2 i hi]; exact h1.2.1 i (by omega)
theorem Qb16.cell (h : Qb16 lo hi W g L C F) {i : Nat} (hi : i < L) : W.cell? ⟨g, i, none⟩ = some (.int .u8 (F i : Nat)) ∧ W.frozen? ⟨g, i, none⟩ = false := by
  obtain ⟨H, h1, h2⟩ := h.row
  have := h.le
  rw [← h2 i hi]; exact ⟨h1.2.2.cell (i := i) (by omega), h1.2.2.frozen i⟩
theorem Qb16.set (h : Qb16 lo hi W g L C F) (i v : Nat) (hv : v < 256) : Qb16 lo hi (W.setCell ⟨g, i, none⟩ (.int .u8 (v : Nat))) g L C (fun j => if j = i then v else F j) := by
  obtain ⟨H, h1, h2⟩ := h.row
  refine ⟨h.glo, h.ghi, by simpa using h.hw, h.le, _, h1.set i v hv, fun j hj => ?_⟩
  by_cases e : j = i
  · simp only [if_pos e]
  · simp only [if_neg e]; exact h2 j hj
/-- s lists of l bytes each in blocks of their own between lo and hi, and the list of them in block g. -/
structure Qs16 (lo hi : Nat) (W : World) (g s l : Nat) (B : Nat → Nat) (S : Nat → Nat → Nat) : Prop where
  hw : hi ≤ W.heap.size
  glo : lo ≤ g
  ghi : g < hi
  list : W.rowIs g 24 s (fun i => .slice (some ⟨B i, 0, none⟩) l l)
  row : ∀ i, i < s → lo ≤ B i ∧ B i < hi ∧ B i ≠ g ∧ Rw W (B i) l (S i)
  inj : ∀ i j, i < s → j < s → B i = B j → i = j
theorem Qs16.keep (h : Qs16 lo hi W g s l B S) (hk : Ke E W W') (hE : ∀ x, lo ≤ x → x < hi → ¬ E x) : Qs16 lo hi W' g s l B S :=
  ⟨Nat.le_trans h.hw hk.size, h.glo, h.ghi, h.list.of_block (hk.2 g h.list.lt (hE g h.glo h.ghi)), fun i hi' => ⟨(h.row i hi').1, (h.row i hi').2.1, (h.row i hi').2.2.1, hk.rw_ (h.row i hi').2.2.2 (hE _ (h.row i hi').1 (h.row i hi').2.1)⟩, h.inj⟩
theorem Qs16.below (h : Qs16 lo hi W g s l B S) (hb : Below W.heap.size W W') : Qs16 lo hi W' g s l B S := h.keep (ke_below hb (fun _ => False)) (fun _ _ _ e => e)
theorem Qs16.wide (h : Qs16 lo hi W g s l B S) (h1 : lo' ≤ lo) : Qs16 lo' hi W g s l B S := ⟨h.hw, Nat.le_trans h1 h.glo, h.ghi, h.list, fun i hi' => ⟨Nat.le_trans h1 (h.row i hi').1, (h.row i hi').2⟩, h.inj⟩
theorem Qs16.congr (h : Qs16 lo hi W g s l B S) (e : ∀ i, i < s → ∀ j, j < l → S i j = T i j) : Qs16 lo hi W g s l B T := ⟨h.hw, h.glo, h.ghi, h.list, fun i hi' => ⟨(h.row i hi').1, (h.row i hi').2.1, (h.row i hi').2.2.1, (h.row i hi').2.2.2.congr (e i hi')⟩, h.inj⟩
theorem Qs16.cs (h : Qs16 lo hi W g s l B S) (hs : s ≤ big) : Cs lo hi W (.slice (some ⟨g, 0, none⟩) s s) s (fun _ => l) (fun _ => l) B S :=
  ⟨hs, h.hw, ⟨_, _, rfl, Nat.le_refl _, hs, fun _ => ⟨g, rfl, h.glo, h.ghi, fun i hi' => (h.row i hi').2.2.1, fun i hi' => h.list.cell hi'⟩⟩, fun i hi' => ⟨(h.row i hi').1, (h.row i hi').2.1, Nat.le_refl _, (h.row i hi').2.2.2⟩, h.inj⟩
theorem Qs16.lb (h : Qs16 lo hi W g s l B S) (hs : s ≤ big) : Lb W (.slice (some ⟨g, 0, none⟩) s s) s (fun _ => l) S := (h.cs hs).lb
theorem Qs16.set (h : Qs16 lo hi W g s l B S) {i : Nat} (j v : Nat) (hi' : i < s) (hv : v < 256) : Qs16 lo hi (W.setCell ⟨B i, j, none⟩ (.int .u8 (v : Nat))) g s l B (fun r x => if r = i ∧ x = j then v else S r x) := by
  refine ⟨by simpa using h.hw, h.glo, h.ghi, h.list.of_block (Below.heap_setCell _ _ _ _ (fun e => (h.row i hi').2.2.1 e.symm)), fun r hr => ⟨(h.row r hr).1, (h.row r hr).2.1, (h.row r hr).2.2.1, ?_⟩, h.inj⟩
  by_cases e : r = i
  · subst e
    refine ((h.row r hr).2.2.2.set j v hv).congr (fun x _ => ?_)
    by_cases e2 : x = j <;> simp [e2]
  · refine Rw.congr ((h.row r hr).2.2.2.of_block (Below.heap_setCell _ _ _ _ (fun e2 => e (h.inj r i hr hi' e2)))) (fun x _ => ?_)
    simp [e]
/-- the same without the list's own place. -/
def Qw16 (lo hi : Nat) (W : World) (u : Value) (s l : Nat) (S : Nat → Nat → Nat) : Prop := ∃ B, Cs lo hi W u s (fun _ => l) (fun _ => l) B S
theorem Qw16.keep (h : Qw16 lo hi W u s l S) (hk : Ke E W W') (hE : ∀ x, lo ≤ x → x < hi → ¬ E x) : Qw16 lo hi W' u s l S := by
  obtain ⟨B, h⟩ := h
  exact ⟨B, h.keep hk hE⟩
theorem Qw16.below (h : Qw16 lo hi W u s l S) (hb : Below W.heap.size W W') : Qw16 lo hi W' u s l S := h.keep (ke_below hb (fun _ => False)) (fun _ _ _ e => e)
theorem Qw16.lb (h : Qw16 lo hi W u s l S) : Lb W u s (fun _ => l) S := by
  obtain ⟨B, h⟩ := h
  exact h.lb
theorem Qw16.wide (h : Qw16 lo hi W u s l S) (h1 : lo' ≤ lo) : Qw16 lo' hi W u s l S := by
  obtain ⟨B, h⟩ := h
  exact ⟨B, h.wide h1 (Nat.le_refl _) h.hw⟩
theorem Qw16.hw (h : Qw16 lo hi W u s l S) : hi ≤ W.heap.size := by
  obtain ⟨B, h⟩ := h
  exact h.hw
theorem Qw16.lt (h : Qw16 lo hi W u s l S) (hs : 0 < s) : lo < hi := by
  obtain ⟨B, h⟩ := h
  have := h.row 0 hs
  omega
end
/-- the numbers of ShapeMemory. -/
structure Fx16 (f : Int) (K M n l s : Nat) : Prop where
  p : prm f K M = 0
  e : lne f K M n = 0
  hl : l = ln16 f K n
  hs : s = K + M
  k1 : 1 ≤ K
  k2 : K ≤ 40
  m1 : 1 ≤ M
  m2 : M ≤ 40
  n1 : 1 ≤ n
  n2 : n ≤ 64
  l1 : 1 ≤ l
  l2 : l ≤ 65
  ge : n ≤ K * l
  ev : f = 2 → l % 2 = 0
section
variable {f : Int} {K M n l s lo hi g : Nat} {W : World} {D B : Nat → Nat} {S : Nat → Nat → Nat} {v : Value}
theorem Fx16.i64 (X : Fx16 f K M n l s) : I64 K := by have := X.k2; exact ⟨by omega, by omega⟩
theorem Fx16.kl (X : Fx16 f K M n l s) : K * l ≤ 2600 := by
  have := Nat.mul_le_mul X.k2 X.l2
  omega
theorem Fx16.sl (X : Fx16 f K M n l s) : s * l ≤ 5200 := by
  have h1 := X.k2; have h2 := X.m2; have h3 := X.hs
  have := Nat.mul_le_mul (show s ≤ 80 by omega) X.l2
  omega
theorem Fx16.sb (X : Fx16 f K M n l s) : s ≤ big := by have h1 := X.k2; have h2 := X.m2; have h3 := X.hs; unfold big; omega
theorem q_split (X : Fx16 f K M n l s) (hv : Rb W v n D) :
    Calls Try.prog 9 #[.int .i64 f, .int .i64 (K : Int), .int .i64 (M : Int), v] W fun e w' => ∃ g B, e = .returned (.tuple #[.slice (some ⟨g, 0, none⟩) s s, .int .i64 0]) ∧ Below W.heap.size W w' ∧ Qs16 W.heap.size w'.heap.size w' g s l B (spl l n D) := by
  have := X.sl
  rw [X.hs, X.hl] at this
  refine (split16_fl f K M v n D W X.i64 hv X.e (by omega)).mono fun e w' h => ?_
  rw [← X.hs, ← X.hl] at h
  obtain ⟨g, B, rfl, hF⟩ := h
  exact ⟨g, B, rfl, hF.bel, Nat.le_refl _, hF.lo, hF.list.lt, hF.list.congr (fun i hi => if_pos hi), fun i hi => ⟨(hF.rows i hi).1, (hF.rows i hi).2.2.2.lt, (hF.rows i hi).2.1, (hF.rows i hi).2.2.2⟩, hF.inj⟩
theorem q_rsplit (X : Fx16 f K M n l s) (hv : Rb W v n D) :
    Calls Try.prog 16 #[.int .i64 f, .int .i64 (K : Int), .int .i64 (M : Int), v] W fun e w' => ∃ u, e = .returned (.tuple #[u, .int .i64 0]) ∧ Below W.heap.size W w' ∧ Qw16 W.heap.size w'.heap.size w' u s l (spl l n D) := by
  have := X.sl
  rw [X.hs, X.hl] at this
  refine (rsplit16_yes f K M v n D W hv X.e (by omega)).mono fun e w' h => ?_
  rw [← X.hs, ← X.hl] at h
  obtain ⟨u, rfl, hc, hb⟩ := h
  exact ⟨u, rfl, hb, hc⟩
theorem mem_jne (X : Fx16 f K M n l s) : jne f K M s (fun _ => l) n = 0 := by
  have hk : 0 < K := by have := X.k1; omega
  have hl := X.l1
  have e1 : scf (some 0) (fun _ => l) K = some l := scf_uni (by omega) (fun _ _ => rfl) hk
  have ho : ¬ (f = 2 ∧ l % 2 = 1) := fun e => by have := X.ev e.1; omega
  have hs := X.hs
  have hg := X.ge
  have ha : aeb (fun _ => l) K = false := aeb_no.2 (fun _ _ => by omega)
  unfold jne
  rw [if_pos X.p, if_neg (by omega), Int.toNat_natCast, ha, if_neg (by decide), e1, ole_even ho, if_pos rfl, olv_even ho, ← Int.natCast_mul, if_neg (by omega)]
theorem q_join (X : Fx16 f K M n l s) (h : Qs16 lo hi W g s l B S) :
    Calls Try.prog 11 #[.int .i64 f, .int .i64 (K : Int), .int .i64 (M : Int), .slice (some ⟨g, 0, none⟩) s s, .int .i64 (n : Int)] W fun e w' => ∃ g', e = .returned (.tuple #[.slice (some ⟨g', 0, none⟩) n n, .int .i64 0]) ∧ Below W.heap.size W w' ∧ Qb16 W.heap.size w'.heap.size w' g' n n (jnb l S) := by
  have hk : 0 < K := by have := X.k1; omega
  have hl := X.l1
  have hl2 := X.l2
  have e1 : scf (some 0) (fun _ => l) K = some l := scf_uni (by omega) (fun _ _ => rfl) hk
  have hkl := X.kl
  have hk2 := X.k2
  have hm2 := X.m2
  have hn2 := X.n2
  have hs := X.hs
  have e0 := mem_jne X
  refine (join16 f K M n _ s _ _ W X.i64 ⟨by omega, by omega⟩ (h.lb X.sb) (by omega) (fun _ _ => by omega) (fun _ _ l' hl' => by rw [Int.toNat_natCast] at hl' ⊢; rw [e1] at hl'; cases hl'; omega)).mono fun e w' ⟨u, he, hA⟩ => ?_
  obtain ⟨l', h1, h2, hb, g, hu, hg, hr⟩ := hA.yes e0
  rw [Int.toNat_natCast, e1] at h1
  cases h1
  rw [Int.toNat_natCast] at hu hr
  subst hu
  rw [e0] at he
  exact ⟨g, he, hb, hg, hr.lt, Nat.le_refl _, Nat.le_refl _, _, hr, fun _ _ => rfl⟩
end
end Go.Proofs.Ytldacjpkblffbab
