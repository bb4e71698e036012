import Derived.Test.YtdeophhcbkahgaaKzb
import Derived.Test.YtdeophhcbkahgaaKjb
namespace Go.Proofs.Ytdeophhcbkahgaa
open Go.RowKit Gf2
set_option linter.unusedVariables false

theorem elem_u8k : Try.prog.elem 22 = 5 := by kernel_rfl
theorem size_u8k (W : World) : (sizeOf 5).run Try.prog W = .ok 1 W := by
  obtain ⟨i, hi, -, hs, -⟩ := info_u8a
  simp [sizeOf, typeInfo, hi, hs]
/-- a piece of a list. -/
theorem run_cut9 (x : Option Addr) (n cx f t : Nat) (hft : f ≤ t) (ht : t ≤ cx) (W : World) :
    (Instr.slice 22 (.slice x n cx) (some (.int .i64 (f : Int))) (some (.int .i64 (t : Int))) none).run Try.prog W = .ok (.slice (if cx = f then x else x.map (·.add f)) (t - f) (cx - f)) W := by
  have hu : Try.prog.underlying 22 = some (.slice (Try.prog.elem 22)) := by rw [elem_u8k]; exact Try.underlying22
  have h := run_slice_lh (P := Try.prog) (w := W) 22 x n cx hu .i64 .i64 (f : Int) (t : Int) (by omega) (by omega) (by omega)
  rw [h, elem_u8k, size_u8k]
  simp only [Result.andThen, sliced, Int.toNat_natCast, Nat.mul_one]
theorem cut_at9 {x : Option Addr} {cx f t L b o : Nat} (hft : f < t) (ht : t ≤ L) (hL : L ≤ cx) (hx : 0 < L → x = some ⟨b, o, none⟩) : (if cx = f then x else x.map (·.add f)) = some ⟨b, o + f, none⟩ := by
  rw [if_neg (by omega), hx (by omega)]
  show some ((⟨b, o, none⟩ : Addr).add f) = _
  rw [Addr.add_lit]
theorem cut_re9 {E : Nat → Prop} {w : World} {x : Option Addr} {n cx f t : Nat} {S : Nat → Nat} (h : Re E w (.slice x n cx) n S) (hft : f ≤ t) (ht : t ≤ n) :
    ∃ a, Re E w (.slice a (t - f) (cx - f)) (t - f) (fun j => S (f + j)) ∧ ∀ W : World, (Instr.slice 22 (.slice x n cx) (some (.int .i64 (f : Int))) (some (.int .i64 (t : Int))) none).run Try.prog W = .ok (.slice a (t - f) (cx - f)) W := by
  obtain ⟨b1, b2, a, c', b3, b5, b6, b4⟩ := h
  cases b3
  refine ⟨_, ⟨by omega, fun i hi => b2 _ (by omega), _, _, rfl, by omega, by omega, fun h0 => ?_⟩, fun W => run_cut9 x n cx f t hft (by omega) W⟩
  obtain ⟨b, o, e, hl, hc⟩ := b4 (by omega)
  exact ⟨b, o + f, cut_at9 (by omega) ht b5 (fun _ => e), hl, fun i hi => by rw [Nat.add_assoc]; exact hc _ (by omega)⟩
theorem cut_pl9 {x : Option Addr} {n cx f t b o : Nat} (hx : 0 < n → x = some ⟨b, o, none⟩) (hn : n ≤ cx) (hft : f ≤ t) (ht : t ≤ n) :
    ∃ a, (0 < t - f → a = some ⟨b, o + f, none⟩) ∧ ∀ W : World, (Instr.slice 22 (.slice x n cx) (some (.int .i64 (f : Int))) (some (.int .i64 (t : Int))) none).run Try.prog W = .ok (.slice a (t - f) (cx - f)) W :=
  ⟨_, fun h0 => cut_at9 (by omega) ht hn hx, fun W => run_cut9 x n cx f t hft (by omega) W⟩
/-- one more product. -/
theorem sum9_more {w : World} {g N o n j : Nat} {F R : Nat → Nat} {S : Nat → Nat → Nat} {T : Nat → Nat}
    (h : Rw w g N (pl (pl F o n (fun x => F (o + x) ^^^ ks R S j x)) o n (fun x => pl F o n (fun x => F (o + x) ^^^ ks R S j x) (o + x) ^^^ fm 285 (R j) (T x)))) (hT : ∀ x, x < n → T x = S j x) :
    Rw w g N (pl F o n (fun x => F (o + x) ^^^ ks R S (j + 1) x)) :=
  h.congr (fun i hi => by
    unfold pl
    by_cases e : o ≤ i ∧ i < o + n
    · simp only [if_pos e]
      rw [if_pos (by omega), show o + (i - o) - o = i - o by omega, hT _ (by omega), Nat.xor_assoc]
      rfl
    · simp only [if_neg e])
theorem sum9_none {w : World} {g N o n : Nat} {F R : Nat → Nat} {S : Nat → Nat → Nat} (h : Rw w g N F) : Rw w g N (pl F o n (fun x => F (o + x) ^^^ ks R S 0 x)) :=
  h.congr (fun i hi => by
    unfold pl
    by_cases e : o ≤ i ∧ i < o + n
    · rw [if_pos e]
      show F i = F (o + (i - o)) ^^^ ks R S 0 (i - o)
      unfold ks
      rw [Nat.xor_zero, show o + (i - o) = i by omega]
    · rw [if_neg e])
set_option maxHeartbeats 4000000 in
set_option maxRecDepth 100000 in
theorem addp9_table (q : Addr) (lo mid hi g0 k L f t g o N : Nat) (F R : Nat → Nat) (S : Nat → Nat → Nat) (a : Option Addr) (ca : Nat) (row srcs : Value) (w : World) (hK : Ker w q lo mid) (i0 : w.cell? ⟨g0, 0, none⟩ = some (.iface 83 (.pointer (some q)))) (h1 : lo ≤ g0) (h2 : g0 < hi) (h3 : hi ≤ w.heap.size) (h4 : mid ≤ hi)
    (hg : g < lo ∨ hi ≤ g) (hR : Rw w g N F) (hd : 0 < t - f → a = some ⟨g, o, none⟩) (hoN : o + (t - f) ≤ N) (hca : t - f ≤ ca) (hn : t - f ≤ big) (hr : Re (fun x => x = g) w row k R) (hs : Ll (fun x => x = g) w srcs k (fun _ => L) S) (hft : f ≤ t) (htL : 0 < k → t ≤ L) (hkb : k ≤ 140737488355328) :
    Calls Try.prog 26 #[.pointer (some ⟨g0, 0, none⟩), row, srcs, .slice a (t - f : Nat) ca, .agg #[.int .i64 (f : Int), .int .i64 (t : Int)]] w fun e w' => (∃ v, e = .returned v) ∧ Kp g w w' ∧ Rw w' g N (pl F o (t - f) (fun x => F (o + x) ^^^ ks R (fun i j => S i (f + j)) k x)) := by
  obtain ⟨r1, r2, ar, cr, rfl, -, -, r4⟩ := hr
  obtain ⟨V, ⟨hmb, as_, cs, rfl, -, -, s4⟩, hV⟩ := hs
  have hgl := hR.lt
  have hm : ∀ W, Sem.run Try.prog (method 248 83 (.pointer (some q)) "MulAdd") W = .ok (74, .pointer (some q)) W := fun _ => by kernel_rfl
  go_enter Try.func26, Try.ntmps26
  go_wp2
  obtain ⟨w1, hw1⟩ : ∃ x, x = w.alloc (.cells #[.int .i64 (f : Int), .int .i64 (t : Int)] 30) := ⟨_, rfl⟩
  rw [← hw1]
  have b1 : Below w.heap.size w w1 := by rw [hw1]; exact (Below.refl _ _).alloc (Nat.le_refl _) _
  have p1 : Kp g w w1 := kp_below b1 g
  have z1 : w1.heap.size = w.heap.size + 1 := by rw [hw1]; simp
  have y1 : w1.cell? ⟨w.heap.size, 0, none⟩ = some (.int .i64 (f : Int)) := by rw [hw1]; simp
  have y2 : w1.cell? ⟨w.heap.size, 1, none⟩ = some (.int .i64 (t : Int)) := by rw [hw1]; simp
  have e1 : g0 < w.heap.size := Nat.lt_of_lt_of_le h2 h3
  have e2 : g0 ≠ g := fun e => by rcases hg with h | h <;> omega
  have e3 : w.heap.size < w1.heap.size := by rw [z1]; exact Nat.lt_succ_self _
  have e4 : w.heap.size ≠ g := fun e => by rw [e] at hgl; exact Nat.lt_irrefl _ hgl
  have e5 : g < lo ∨ mid ≤ g := by rcases hg with h | h; exact .inl h; exact .inr (Nat.le_trans h4 h)
  clear hw1
  go_loopw [14] (fun i wr => ∃ j : Nat, j ≤ k ∧ i = .int .i64 j ∧ Kp g w1 wr ∧ Rw wr g N (pl F o (t - f) (fun x => F (o + x) ^^^ ks R (fun i j => S i (f + j)) j x))) (fun i _ => k - (intOf i).toNat)
  case atStart => exact ⟨0, Nat.zero_le _, rfl, Kp.refl _ _, sum9_none (rw_below hR b1)⟩
  case round =>
    obtain ⟨j, hj, rfl, ho, hr⟩ := hrel
    have ho' : Kp g w wr := p1.trans ho
    by_cases hlt : j < k
    · obtain ⟨br, orr, rfl, hbr, hcr⟩ := r4 (by omega)
      obtain ⟨bs, os, rfl, hbs, hcs⟩ := s4 (by omega)
      clear r4 s4
      have q1 := (ho'.cell hbr.1 hbr.2).trans (hcr j hlt)
      have q2 := (ho'.cell hbs.1 hbs.2).trans (hcs j hlt)
      have hv := hV j hlt
      obtain ⟨x1, cx, hx1, hcx⟩ : ∃ x cx, V j = .slice x L cx ∧ L ≤ cx := by obtain ⟨_, _, a, cap, h, h', _⟩ := id hv; exact ⟨a, cap, h, h'⟩
      rw [hx1] at q2 hv
      have htL' := htL (by omega)
      obtain ⟨a9, hre, hcut⟩ := cut_re9 (f := f) (t := t) hv hft htL'
      have hre' := (hre.ke ho'.ke).fk
      have hsz := ho'.size
      have q3 := (ho'.cell (q := 0) e1 e2).trans i0
      have q4 := (ho.cell e3 e4).trans y1
      have q5 := (ho.cell e3 e4).trans y2
      have hK' : Ker wr q lo mid := hK.keep (Nat.le_trans (Nat.le_trans h4 h3) hsz) (fun b hb1 hb2 => ho'.2 b (Nat.lt_of_lt_of_le hb2 (Nat.le_trans h4 h3)) (fun e => by rcases e5 with h | h <;> omega))
      have c1 := t9add_far q lo mid (R j) (t - f) g o N _ _ a a9 ca (cx - f) wr.drew hK' (r2 j hlt) hn e5 hca (Nat.sub_le_sub_right (Nat.le_trans htL' hcx) f) ⟨hr.1, hr.2.1, hr.2.2.drew⟩ hd hoN hre'
      have ib : ((j : Nat) : Int) < (k : Int) := by omega
      have W1 := wrap_succ8 (j := j) (by unfold big; omega)
      have HQ : Hid (Kp g w1 wr ∧ br < w.heap.size ∧ br ≠ g ∧ g0 < w.heap.size ∧ g0 ≠ g ∧ w.heap.size < w1.heap.size ∧ w.heap.size ≠ g ∧ Kp g w wr) := ⟨ho, hbr.1, hbr.2, e1, e2, e3, e4, ho'⟩
      clear hcr hcs hV hv hre hre' hK' hK hr ho ho' hd hR r1 r2 hmb hn htL htL' hsz hcx hbr hbs hx1 i0 y1 y2 p1 b1 hoN hca hkb
      go_wp2
      refine region_planI (fun w' => w'.cell? ⟨g0, 0, none⟩ = some (.iface 83 (.pointer (some q))) ∧ w'.cell? ⟨br, orr + j, none⟩ = some (.int .u8 (R j : Nat)) ∧ w'.cell? ⟨w.heap.size, 0, none⟩ = some (.int .i64 (f : Int)) ∧ w'.cell? ⟨w.heap.size, 1, none⟩ = some (.int .i64 (t : Int))) [0, 1, 2, 3, 4, 5, 6, 7, 8, 9, 10, 11, 12, 13, 14, 15, 16, 17, 18] [18, 0] 39 ⟨q3, q1, q4, q5⟩ (by kernel_rfl) (by kernel_rfl) (fun _ a d v _ h => by cases d <;> exact h) ?_
      simp only [atI, List.getElem?_cons_zero, List.getElem?_cons_succ]
      refine planH_step ?A1 rfl (fun w' hS => ?s1) rfl (fun K hK => ?n1)
      case s1 =>
        obtain ⟨y0, y1, y2, y3⟩ := hS
        simp only [List.take_succ_cons, List.take_zero]
        repeat still_step
        exact rfl
      case n1 =>
      go_simp
      go_wp2_with (go_at_call 74; (with_reducible refine c1.mono ?_); rintro e x1 ⟨rfl, k5, r5⟩)
      clear c1
      have k6 : Kp g wr x1 := ⟨⟨k5.1.os, k5.1.tape, k5.1.output, k5.1.size, k5.1.block⟩, k5.2⟩
      have HN : Hid (Kp g w1 x1 ∧ Rw x1 g N (pl F o (t - f) (fun x => F (o + x) ^^^ ks R (fun i j => S i (f + j)) (j + 1) x))) := ⟨HQ.out.1.trans k6, sum9_more r5 (fun x _ => rfl)⟩
      obtain ⟨n1, n2, n3, n4, n5, n6, n7, n8⟩ := HQ.out
      refine hK _ _ ⟨(k6.cell (Nat.lt_of_lt_of_le n4 n8.size) n5).trans q3, (k6.cell (Nat.lt_of_lt_of_le n2 n8.size) n3).trans q1, (k6.cell (Nat.lt_of_lt_of_le n6 n1.size) n7).trans q4, (k6.cell (Nat.lt_of_lt_of_le n6 n1.size) n7).trans q5⟩ ?_
      clear hK K n1 n2 n3 n4 n5 n6 n7 n8 k6 k5 r5 q1 q2 q3 q4 q5 HQ
      refine planH_last ?A2 rfl (fun w' hS => ?s2) rfl ?n2
      case s2 =>
        simp only [List.take_zero]
        exact rfl
      case n2 =>
      go_wp2
      go_roundw
      case rel => exact ⟨j + 1, hlt, by first | rfl | (rw [W1]; rfl), HN.out.1, HN.out.2⟩
      case measure => first | exact meas_lt8 hlt | (rw [W1]; exact meas_lt8 hlt)
    · have hkn : j = k := by omega
      subst hkn
      clear r4 s4 hV
      go_wp2
      go_end0
      exact ⟨⟨_, rfl⟩, ho', hr⟩
set_option maxHeartbeats 4000000 in
set_option maxRecDepth 100000 in
theorem addp9_nibble (q : Addr) (lo mid hi g0 k L f t g o N : Nat) (F R : Nat → Nat) (S : Nat → Nat → Nat) (a : Option Addr) (ca : Nat) (row srcs : Value) (w : World) (hK : Nk w q lo mid) (i0 : w.cell? ⟨g0, 0, none⟩ = some (.iface 85 (.pointer (some q)))) (h1 : lo ≤ g0) (h2 : g0 < hi) (h3 : hi ≤ w.heap.size) (h4 : mid ≤ hi)
    (hg : g < lo ∨ hi ≤ g) (hR : Rw w g N F) (hd : 0 < t - f → a = some ⟨g, o, none⟩) (hoN : o + (t - f) ≤ N) (hca : t - f ≤ ca) (hn : t - f ≤ big) (hr : Re (fun x => x = g) w row k R) (hs : Ll (fun x => x = g) w srcs k (fun _ => L) S) (hft : f ≤ t) (htL : 0 < k → t ≤ L) (hkb : k ≤ 140737488355328) :
    Calls Try.prog 26 #[.pointer (some ⟨g0, 0, none⟩), row, srcs, .slice a (t - f : Nat) ca, .agg #[.int .i64 (f : Int), .int .i64 (t : Int)]] w fun e w' => (∃ v, e = .returned v) ∧ Kp g w w' ∧ Rw w' g N (pl F o (t - f) (fun x => F (o + x) ^^^ ks R (fun i j => S i (f + j)) k x)) := by
  obtain ⟨r1, r2, ar, cr, rfl, -, -, r4⟩ := hr
  obtain ⟨V, ⟨hmb, as_, cs, rfl, -, -, s4⟩, hV⟩ := hs
  have hgl := hR.lt
  have hm : ∀ W, Sem.run Try.prog (method 248 85 (.pointer (some q)) "MulAdd") W = .ok (78, .pointer (some q)) W := fun _ => by kernel_rfl
  go_enter Try.func26, Try.ntmps26
  go_wp2
  obtain ⟨w1, hw1⟩ : ∃ x, x = w.alloc (.cells #[.int .i64 (f : Int), .int .i64 (t : Int)] 30) := ⟨_, rfl⟩
  rw [← hw1]
  have b1 : Below w.heap.size w w1 := by rw [hw1]; exact (Below.refl _ _).alloc (Nat.le_refl _) _
  have p1 : Kp g w w1 := kp_below b1 g
  have z1 : w1.heap.size = w.heap.size + 1 := by rw [hw1]; simp
  have y1 : w1.cell? ⟨w.heap.size, 0, none⟩ = some (.int .i64 (f : Int)) := by rw [hw1]; simp
  have y2 : w1.cell? ⟨w.heap.size, 1, none⟩ = some (.int .i64 (t : Int)) := by rw [hw1]; simp
  have e1 : g0 < w.heap.size := Nat.lt_of_lt_of_le h2 h3
  have e2 : g0 ≠ g := fun e => by rcases hg with h | h <;> omega
  have e3 : w.heap.size < w1.heap.size := by rw [z1]; exact Nat.lt_succ_self _
  have e4 : w.heap.size ≠ g := fun e => by rw [e] at hgl; exact Nat.lt_irrefl _ hgl
  have e5 : g < lo ∨ mid ≤ g := by rcases hg with h | h; exact .inl h; exact .inr (Nat.le_trans h4 h)
  clear hw1
  go_loopw [14] (fun i wr => ∃ j : Nat, j ≤ k ∧ i = .int .i64 j ∧ Kp g w1 wr ∧ Rw wr g N (pl F o (t - f) (fun x => F (o + x) ^^^ ks R (fun i j => S i (f + j)) j x))) (fun i _ => k - (intOf i).toNat)
  case atStart => exact ⟨0, Nat.zero_le _, rfl, Kp.refl _ _, sum9_none (rw_below hR b1)⟩
  case round =>
    obtain ⟨j, hj, rfl, ho, hr⟩ := hrel
    have ho' : Kp g w wr := p1.trans ho
    by_cases hlt : j < k
    · obtain ⟨br, orr, rfl, hbr, hcr⟩ := r4 (by omega)
      obtain ⟨bs, os, rfl, hbs, hcs⟩ := s4 (by omega)
      clear r4 s4
      have q1 := (ho'.cell hbr.1 hbr.2).trans (hcr j hlt)
      have q2 := (ho'.cell hbs.1 hbs.2).trans (hcs j hlt)
      have hv := hV j hlt
      obtain ⟨x1, cx, hx1, hcx⟩ : ∃ x cx, V j = .slice x L cx ∧ L ≤ cx := by obtain ⟨_, _, a, cap, h, h', _⟩ := id hv; exact ⟨a, cap, h, h'⟩
      rw [hx1] at q2 hv
      have htL' := htL (by omega)
      obtain ⟨a9, hre, hcut⟩ := cut_re9 (f := f) (t := t) hv hft htL'
      have hre' := (hre.ke ho'.ke).fk
      have hsz := ho'.size
      have q3 := (ho'.cell (q := 0) e1 e2).trans i0
      have q4 := (ho.cell e3 e4).trans y1
      have q5 := (ho.cell e3 e4).trans y2
      have hK' : Nk wr q lo mid := hK.keep (Nat.le_trans (Nat.le_trans h4 h3) hsz) (fun b hb1 hb2 => ho'.2 b (Nat.lt_of_lt_of_le hb2 (Nat.le_trans h4 h3)) (fun e => by rcases e5 with h | h <;> omega))
      have c1 := n9add_far q lo mid (R j) (t - f) g o N _ _ a a9 ca (cx - f) wr.drew hK' (r2 j hlt) hn e5 hca (Nat.sub_le_sub_right (Nat.le_trans htL' hcx) f) ⟨hr.1, hr.2.1, hr.2.2.drew⟩ hd hoN hre'
      have ib : ((j : Nat) : Int) < (k : Int) := by omega
      have W1 := wrap_succ8 (j := j) (by unfold big; omega)
      have HQ : Hid (Kp g w1 wr ∧ br < w.heap.size ∧ br ≠ g ∧ g0 < w.heap.size ∧ g0 ≠ g ∧ w.heap.size < w1.heap.size ∧ w.heap.size ≠ g ∧ Kp g w wr) := ⟨ho, hbr.1, hbr.2, e1, e2, e3, e4, ho'⟩
      clear hcr hcs hV hv hre hre' hK' hK hr ho ho' hd hR r1 r2 hmb hn htL htL' hsz hcx hbr hbs hx1 i0 y1 y2 p1 b1 hoN hca hkb
      go_wp2
      refine region_planI (fun w' => w'.cell? ⟨g0, 0, none⟩ = some (.iface 85 (.pointer (some q))) ∧ w'.cell? ⟨br, orr + j, none⟩ = some (.int .u8 (R j : Nat)) ∧ w'.cell? ⟨w.heap.size, 0, none⟩ = some (.int .i64 (f : Int)) ∧ w'.cell? ⟨w.heap.size, 1, none⟩ = some (.int .i64 (t : Int))) [0, 1, 2, 3, 4, 5, 6, 7, 8, 9, 10, 11, 12, 13, 14, 15, 16, 17, 18] [18, 0] 39 ⟨q3, q1, q4, q5⟩ (by kernel_rfl) (by kernel_rfl) (fun _ a d v _ h => by cases d <;> exact h) ?_
      simp only [atI, List.getElem?_cons_zero, List.getElem?_cons_succ]
      refine planH_step ?A1 rfl (fun w' hS => ?s1) rfl (fun K hK => ?n1)
      case s1 =>
        obtain ⟨y0, y1, y2, y3⟩ := hS
        simp only [List.take_succ_cons, List.take_zero]
        repeat still_step
        exact rfl
      case n1 =>
      go_simp
      go_wp2_with (go_at_call 78; (with_reducible refine c1.mono ?_); rintro e x1 ⟨rfl, k5, r5⟩)
      clear c1
      have k6 : Kp g wr x1 := ⟨⟨k5.1.os, k5.1.tape, k5.1.output, k5.1.size, k5.1.block⟩, k5.2⟩
      have HN : Hid (Kp g w1 x1 ∧ Rw x1 g N (pl F o (t - f) (fun x => F (o + x) ^^^ ks R (fun i j => S i (f + j)) (j + 1) x))) := ⟨HQ.out.1.trans k6, sum9_more r5 (fun x _ => rfl)⟩
      obtain ⟨n1, n2, n3, n4, n5, n6, n7, n8⟩ := HQ.out
      refine hK _ _ ⟨(k6.cell (Nat.lt_of_lt_of_le n4 n8.size) n5).trans q3, (k6.cell (Nat.lt_of_lt_of_le n2 n8.size) n3).trans q1, (k6.cell (Nat.lt_of_lt_of_le n6 n1.size) n7).trans q4, (k6.cell (Nat.lt_of_lt_of_le n6 n1.size) n7).trans q5⟩ ?_
      clear hK K n1 n2 n3 n4 n5 n6 n7 n8 k6 k5 r5 q1 q2 q3 q4 q5 HQ
      refine planH_last ?A2 rfl (fun w' hS => ?s2) rfl ?n2
      case s2 =>
        simp only [List.take_zero]
        exact rfl
      case n2 =>
      go_wp2
      go_roundw
      case rel => exact ⟨j + 1, hlt, by first | rfl | (rw [W1]; rfl), HN.out.1, HN.out.2⟩
      case measure => first | exact meas_lt8 hlt | (rw [W1]; exact meas_lt8 hlt)
    · have hkn : j = k := by omega
      subst hkn
      clear r4 s4 hV
      go_wp2
      go_end0
      exact ⟨⟨_, rfl⟩, ho', hr⟩
set_option maxHeartbeats 4000000 in
set_option maxRecDepth 100000 in
theorem addp9_sliced (q : Addr) (lo mid hi g0 k L f t g o N : Nat) (F R : Nat → Nat) (S : Nat → Nat → Nat) (a : Option Addr) (ca : Nat) (row srcs : Value) (w : World) (hK : Sk w q lo mid) (i0 : w.cell? ⟨g0, 0, none⟩ = some (.iface 87 (.pointer (some q)))) (h1 : lo ≤ g0) (h2 : g0 < hi) (h3 : hi ≤ w.heap.size) (h4 : mid ≤ hi)
    (hg : g < lo ∨ hi ≤ g) (hR : Rw w g N F) (hd : 0 < t - f → a = some ⟨g, o, none⟩) (hoN : o + (t - f) ≤ N) (hca : t - f ≤ ca) (hn : t - f ≤ big) (hr : Re (fun x => x = g) w row k R) (hs : Ll (fun x => x = g) w srcs k (fun _ => L) S) (hft : f ≤ t) (htL : 0 < k → t ≤ L) (hkb : k ≤ 140737488355328) :
    Calls Try.prog 26 #[.pointer (some ⟨g0, 0, none⟩), row, srcs, .slice a (t - f : Nat) ca, .agg #[.int .i64 (f : Int), .int .i64 (t : Int)]] w fun e w' => (∃ v, e = .returned v) ∧ Kp g w w' ∧ Rw w' g N (pl F o (t - f) (fun x => F (o + x) ^^^ ks R (fun i j => S i (f + j)) k x)) := by
  obtain ⟨r1, r2, ar, cr, rfl, -, -, r4⟩ := hr
  obtain ⟨V, ⟨hmb, as_, cs, rfl, -, -, s4⟩, hV⟩ := hs
  have hgl := hR.lt
  have hm : ∀ W, Sem.run Try.prog (method 248 87 (.pointer (some q)) "MulAdd") W = .ok (83, .pointer (some q)) W := fun _ => by kernel_rfl
  go_enter Try.func26, Try.ntmps26
  go_wp2
  obtain ⟨w1, hw1⟩ : ∃ x, x = w.alloc (.cells #[.int .i64 (f : Int), .int .i64 (t : Int)] 30) := ⟨_, rfl⟩
  rw [← hw1]
  have b1 : Below w.heap.size w w1 := by rw [hw1]; exact (Below.refl _ _).alloc (Nat.le_refl _) _
  have p1 : Kp g w w1 := kp_below b1 g
  have z1 : w1.heap.size = w.heap.size + 1 := by rw [hw1]; simp
  have y1 : w1.cell? ⟨w.heap.size, 0, none⟩ = some (.int .i64 (f : Int)) := by rw [hw1]; simp
  have y2 : w1.cell? ⟨w.heap.size, 1, none⟩ = some (.int .i64 (t : Int)) := by rw [hw1]; simp
  have e1 : g0 < w.heap.size := Nat.lt_of_lt_of_le h2 h3
  have e2 : g0 ≠ g := fun e => by rcases hg with h | h <;> omega
  have e3 : w.heap.size < w1.heap.size := by rw [z1]; exact Nat.lt_succ_self _
  have e4 : w.heap.size ≠ g := fun e => by rw [e] at hgl; exact Nat.lt_irrefl _ hgl
  have e5 : g < lo ∨ mid ≤ g := by rcases hg with h | h; exact .inl h; exact .inr (Nat.le_trans h4 h)
  clear hw1
  go_loopw [14] (fun i wr => ∃ j : Nat, j ≤ k ∧ i = .int .i64 j ∧ Kp g w1 wr ∧ Rw wr g N (pl F o (t - f) (fun x => F (o + x) ^^^ ks R (fun i j => S i (f + j)) j x))) (fun i _ => k - (intOf i).toNat)
  case atStart => exact ⟨0, Nat.zero_le _, rfl, Kp.refl _ _, sum9_none (rw_below hR b1)⟩
  case round =>
    obtain ⟨j, hj, rfl, ho, hr⟩ := hrel
    have ho' : Kp g w wr := p1.trans ho
    by_cases hlt : j < k
    · obtain ⟨br, orr, rfl, hbr, hcr⟩ := r4 (by omega)
      obtain ⟨bs, os, rfl, hbs, hcs⟩ := s4 (by omega)
      clear r4 s4
      have q1 := (ho'.cell hbr.1 hbr.2).trans (hcr j hlt)
      have q2 := (ho'.cell hbs.1 hbs.2).trans (hcs j hlt)
      have hv := hV j hlt
      obtain ⟨x1, cx, hx1, hcx⟩ : ∃ x cx, V j = .slice x L cx ∧ L ≤ cx := by obtain ⟨_, _, a, cap, h, h', _⟩ := id hv; exact ⟨a, cap, h, h'⟩
      rw [hx1] at q2 hv
      have htL' := htL (by omega)
      obtain ⟨a9, hre, hcut⟩ := cut_re9 (f := f) (t := t) hv hft htL'
      have hre' := (hre.ke ho'.ke).fk
      have hsz := ho'.size
      have q3 := (ho'.cell (q := 0) e1 e2).trans i0
      have q4 := (ho.cell e3 e4).trans y1
      have q5 := (ho.cell e3 e4).trans y2
      have hK' : Sk wr q lo mid := hK.keep (Nat.le_trans (Nat.le_trans h4 h3) hsz) (fun b hb1 hb2 => ho'.2 b (Nat.lt_of_lt_of_le hb2 (Nat.le_trans h4 h3)) (fun e => by rcases e5 with h | h <;> omega))
      have c1 := s9add_far q lo mid (R j) (t - f) g o N _ _ a a9 ca (cx - f) wr.drew hK' (r2 j hlt) hn e5 hca (Nat.sub_le_sub_right (Nat.le_trans htL' hcx) f) ⟨hr.1, hr.2.1, hr.2.2.drew⟩ hd hoN hre'
      have ib : ((j : Nat) : Int) < (k : Int) := by omega
      have W1 := wrap_succ8 (j := j) (by unfold big; omega)
      have HQ : Hid (Kp g w1 wr ∧ br < w.heap.size ∧ br ≠ g ∧ g0 < w.heap.size ∧ g0 ≠ g ∧ w.heap.size < w1.heap.size ∧ w.heap.size ≠ g ∧ Kp g w wr) := ⟨ho, hbr.1, hbr.2, e1, e2, e3, e4, ho'⟩
      clear hcr hcs hV hv hre hre' hK' hK hr ho ho' hd hR r1 r2 hmb hn htL htL' hsz hcx hbr hbs hx1 i0 y1 y2 p1 b1 hoN hca hkb
      go_wp2
      refine region_planI (fun w' => w'.cell? ⟨g0, 0, none⟩ = some (.iface 87 (.pointer (some q))) ∧ w'.cell? ⟨br, orr + j, none⟩ = some (.int .u8 (R j : Nat)) ∧ w'.cell? ⟨w.heap.size, 0, none⟩ = some (.int .i64 (f : Int)) ∧ w'.cell? ⟨w.heap.size, 1, none⟩ = some (.int .i64 (t : Int))) [0, 1, 2, 3, 4, 5, 6, 7, 8, 9, 10, 11, 12, 13, 14, 15, 16, 17, 18] [18, 0] 39 ⟨q3, q1, q4, q5⟩ (by kernel_rfl) (by kernel_rfl) (fun _ a d v _ h => by cases d <;> exact h) ?_
      simp only [atI, List.getElem?_cons_zero, List.getElem?_cons_succ]
      refine planH_step ?A1 rfl (fun w' hS => ?s1) rfl (fun K hK => ?n1)
      case s1 =>
        obtain ⟨y0, y1, y2, y3⟩ := hS
        simp only [List.take_succ_cons, List.take_zero]
        repeat still_step
        exact rfl
      case n1 =>
      go_simp
      go_wp2_with (go_at_call 83; (with_reducible refine c1.mono ?_); rintro e x1 ⟨rfl, k5, r5⟩)
      clear c1
      have k6 : Kp g wr x1 := ⟨⟨k5.1.os, k5.1.tape, k5.1.output, k5.1.size, k5.1.block⟩, k5.2⟩
      have HN : Hid (Kp g w1 x1 ∧ Rw x1 g N (pl F o (t - f) (fun x => F (o + x) ^^^ ks R (fun i j => S i (f + j)) (j + 1) x))) := ⟨HQ.out.1.trans k6, sum9_more r5 (fun x _ => rfl)⟩
      obtain ⟨n1, n2, n3, n4, n5, n6, n7, n8⟩ := HQ.out
      refine hK _ _ ⟨(k6.cell (Nat.lt_of_lt_of_le n4 n8.size) n5).trans q3, (k6.cell (Nat.lt_of_lt_of_le n2 n8.size) n3).trans q1, (k6.cell (Nat.lt_of_lt_of_le n6 n1.size) n7).trans q4, (k6.cell (Nat.lt_of_lt_of_le n6 n1.size) n7).trans q5⟩ ?_
      clear hK K n1 n2 n3 n4 n5 n6 n7 n8 k6 k5 r5 q1 q2 q3 q4 q5 HQ
      refine planH_last ?A2 rfl (fun w' hS => ?s2) rfl ?n2
      case s2 =>
        simp only [List.take_zero]
        exact rfl
      case n2 =>
      go_wp2
      go_roundw
      case rel => exact ⟨j + 1, hlt, by first | rfl | (rw [W1]; rfl), HN.out.1, HN.out.2⟩
      case measure => first | exact meas_lt8 hlt | (rw [W1]; exact meas_lt8 hlt)
    · have hkn : j = k := by omega
      subst hkn
      clear r4 s4 hV
      go_wp2
      go_end0
      exact ⟨⟨_, rfl⟩, ho', hr⟩
end Go.Proofs.Ytdeophhcbkahgaa
