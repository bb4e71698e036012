import Derived.Test.YtdnhidachdjgaaaMxm
import Derived.BigQuiet
namespace Go.Proofs.Ytdnhidachdjgaaa
open Go.RowKit Gf2
set_option linter.unusedVariables false

set_option maxHeartbeats 2000000 in
set_option maxRecDepth 100000 in
theorem same10_true (u v : Value) (m : Nat) (n : Nat → Nat) (F G : Nat → Nat → Nat) (w : World) (h : Lb w u m n F) (k : Lb w v m n G) (e : ∀ r, r < m → ∀ i, i < n r → F r i = G r i) :
    Calls Try.prog 14 #[u, v] w fun e w' => e = .returned (.bool true) ∧ ∃ q, w' = w.drewN q := by
  obtain ⟨V, ⟨hn, a, cap, rfl, -, -, h4⟩, hV⟩ := h
  obtain ⟨V', ⟨hn', a', cap', rfl, -, -, k4⟩, hV'⟩ := k
  go_enter Try.func14, Try.ntmps14
  go_wp2
  go_loopw [5] (fun i wr => ∃ k q : Nat, k ≤ m ∧ i = .int .i64 k ∧ wr = w.drewN q) (fun i _ => m - (intOf i).toNat)
  case atStart => exact ⟨0, 0, Nat.zero_le _, rfl, rfl⟩
  case round =>
    obtain ⟨k, q, hk, rfl, hw⟩ := hrel
    by_cases hlt : k < m
    · obtain ⟨b, o, rfl, -, hc⟩ := h4 (by omega)
      obtain ⟨b', o', rfl, -, hc'⟩ := k4 (by omega)
      obtain ⟨nb, lf, x1, y1, e1, -, -, r1⟩ := hV k hlt
      obtain ⟨-, -, x2, y2, e2, -, -, r2⟩ := hV' k hlt
      have Q1 : Hid (∀ q', (w.drewN q').cell? ⟨b, o + k, none⟩ = some (.slice x1 (n k) y1) ∧ (w.drewN q').cell? ⟨b', o' + k, none⟩ = some (.slice x2 (n k) y2)) := fun q' => ⟨by rw [← e1]; exact hc k hlt, by rw [← e2]; exact hc' k hlt⟩
      obtain ⟨q1, q2⟩ := Q1.out q
      rw [← hw] at q1 q2
      have ib : ((k : Nat) : Int) < (m : Int) := by omega
      have W1 := wrap_succ8 (j := k) (by omega)
      have HW : Hid (wr = w.drewN q ∧ n k ≤ big ∧ k < m) := ⟨hw, nb, hlt⟩
      have HR1 : Hid _ := r1
      have HR2 : Hid _ := r2
      have HE : Hid _ := e k hlt
      clear hc hc' hw h4 k4 hn hn' hV hV' e lf nb hlt r1 r2 e1 e2 hk
      go_wp2
      go_quiet (fail)
      go_wp2
      have HW2 : Hid (wr.drewN nq = w.drewN (q + nq)) := by show _ = _; rw [HW.out.1, World.drewN_drewN]
      clear q1 q2
      go_loopw [6] (fun j w2 => ∃ c q2 : Nat, c ≤ n k ∧ j = .int .i64 c ∧ w2 = w.drewN q2) (fun j _ => n k - (intOf j).toNat)
      case atStart => exact ⟨0, q + nq, Nat.zero_le _, rfl, HW2.out⟩
      case round =>
        obtain ⟨c, q3, hc, rfl, hw3⟩ := hrel
        obtain ⟨q1, q2⟩ := Q1.out q3
        rw [← hw3] at q1 q2
        by_cases hct : c < n k
        · obtain ⟨b1, o1, rfl, -, z1⟩ := HR1.out (by omega)
          obtain ⟨b2, o2, rfl, -, z2⟩ := HR2.out (by omega)
          have q5 : wr.cell? ⟨b1, o1 + c, none⟩ = some (.int .u8 (F k c : Nat)) := by rw [hw3]; exact z1 c hct
          have q6 : wr.cell? ⟨b2, o2 + c, none⟩ = some (.int .u8 (F k c : Nat)) := by rw [hw3, HE.out c hct]; exact z2 c hct
          have jb : ((c : Nat) : Int) < (n k : Int) := by omega
          have W2 := wrap_succ8 (j := c) (by have := HW.out.2.1; omega)
          have HX : Hid (c < n k ∧ wr = w.drewN q3) := ⟨hct, hw3⟩
          clear z1 z2 hct hw3 hc
          generalize F k c = A0 at q5 q6
          go_wp2
          go_quiet (fail)
          go_wp2
          go_roundw
          case rel => exact ⟨c + 1, q3 + nq, HX.out.1, by first | rfl | (rw [W2]; rfl), by rw [HX.out.2, World.drewN_drewN]⟩
          case measure => first | exact meas_lt8 HX.out.1 | (rw [W2]; exact meas_lt8 HX.out.1)
        · have hcn : c = n k := by omega
          have H3 : Hid (wr = w.drewN q3) := hw3
          rw [hcn]
          clear hw3 hcn hc hct
          go_wp2
          go_roundw
          case rel => exact ⟨k + 1, q3, HW.out.2.2, by first | rfl | (rw [W1]; rfl), H3.out⟩
          case measure => first | exact meas_lt8 HW.out.2.2 | (rw [W1]; exact meas_lt8 HW.out.2.2)
    · have hkm : k = m := by omega
      subst hkm
      subst hw
      go_wp2
      go_ret
      exact ⟨rfl, _, rfl⟩
/-- rows that are copied one by one. -/
structure Tw (w wr : World) (m : Nat) (n : Nat → Nat) (S : Nat → Nat → Nat) (k : Nat) : Prop where
  sz : wr.heap.size = w.heap.size + 1 + k
  list : wr.rowIs w.heap.size 38 m (fun i => if i < k then .slice (some ⟨w.heap.size + 1 + i, 0, none⟩) (n i) (n i) else .slice none 0 0)
  rows : ∀ i, i < k → Rw wr (w.heap.size + 1 + i) (n i) (S i)
  bel : Below w.heap.size w wr
theorem Tw.start (w : World) (m : Nat) (n : Nat → Nat) (S : Nat → Nat → Nat) : Tw w (w.alloc (.cells (madeCells #[.slice none 0 0] m) 38)) m n S 0 :=
  ⟨by simp, (World.rowIs_made w (.slice none 0 0) m 38).congr (fun i _ => (if_neg (Nat.not_lt_zero _)).symm), fun i hi => absurd hi (Nat.not_lt_zero _), (Below.refl _ _).alloc (Nat.le_refl _) _⟩
/-- the round's world ahead of the copy. -/
def twi (w wr : World) (k c : Nat) : World := (wr.alloc (.cells (madeCells #[.int .u8 0] c) 5)).setCell ⟨w.heap.size, k, none⟩ (.slice (some ⟨wr.heap.size, 0, none⟩) c c)
theorem Tw.mid {w wr : World} {m k : Nat} {n : Nat → Nat} {S : Nat → Nat → Nat} (h : Tw w wr m n S k) (hc : n k ≤ 140737488355328) (hk : k < m) :
    (twi w wr k (n k)).heap.size = w.heap.size + 1 + (k + 1) ∧ (twi w wr k (n k)).rowIs w.heap.size 38 m (fun i => if i < k + 1 then .slice (some ⟨w.heap.size + 1 + i, 0, none⟩) (n i) (n i) else .slice none 0 0) ∧ (∀ i, i < k → Rw (twi w wr k (n k)) (w.heap.size + 1 + i) (n i) (S i)) ∧ Rw (twi w wr k (n k)) wr.heap.size (n k) (fun _ => 0) ∧ Below w.heap.size w (twi w wr k (n k)) := by
  obtain ⟨h1, h2, h3, h4⟩ := h
  have hr := made_rw (n k) hc wr
  have ha : (wr.alloc (.cells (madeCells #[.int .u8 0] (n k)) 5)).rowIs w.heap.size 38 m (fun i => if i < k then .slice (some ⟨w.heap.size + 1 + i, 0, none⟩) (n i) (n i) else .slice none 0 0) := h2.of_block (Below.heap_alloc wr _ _ (by omega))
  have ho : Only w.heap.size (wr.alloc (.cells (madeCells #[.int .u8 0] (n k)) 5)) (twi w wr k (n k)) := (Only.refl _ _).setCell _ _
  refine ⟨by unfold twi; simp [h1]; omega, (ha.set k _).congr (fun i hi => ?_), fun i hi => ?_, ho.kp.rw_ hr (by omega), (h4.alloc (by omega) _).setCell (Nat.le_refl _) _⟩
  · by_cases e : i = k
    · rw [if_pos e, if_pos (by omega), e, h1]
    · rw [if_neg e]
      by_cases e2 : i < k
      · rw [if_pos e2, if_pos (by omega)]
      · rw [if_neg e2, if_neg (by omega)]
  · exact ho.kp.rw_ (rw_alloc (h3 i (by omega)) _) (by omega)
theorem Tw.done {w wr : World} {m k : Nat} {n : Nat → Nat} {S : Nat → Nat → Nat} {x w' : World} {sz : Nat} (hx1 : x.heap.size = w.heap.size + 1 + (k + 1)) (hx2 : x.rowIs w.heap.size 38 m (fun i => if i < k + 1 then .slice (some ⟨w.heap.size + 1 + i, 0, none⟩) (n i) (n i) else .slice none 0 0)) (hx3 : ∀ i, i < k → Rw x (w.heap.size + 1 + i) (n i) (S i)) (hx5 : Below w.heap.size w x)
    (hs : sz = w.heap.size + 1 + k) (ho : Only sz x w') (hr : Rw w' sz (n k) (S k)) : Tw w w' m n S (k + 1) := by
  refine ⟨by rw [ho.2.1]; exact hx1, hx2.of_block (ho.2.2 _ (by omega)), fun i hi => ?_, hx5.trans (ho.below (by omega))⟩
  by_cases e : i = k
  · rw [e, ← hs]; exact hr
  · exact ho.rw_ (hx3 i (by omega)) (by omega)
theorem Tw.cs {w wr : World} {m : Nat} {n : Nat → Nat} {S : Nat → Nat → Nat} (h : Tw w wr m n S m) (hm : m ≤ big) : Cs w.heap.size wr.heap.size wr (.slice (some ⟨w.heap.size, 0, none⟩) m m) m n n (fun i => w.heap.size + 1 + i) S := by
  obtain ⟨h1, h2, h3, h4⟩ := h
  refine ⟨hm, Nat.le_refl _, ⟨_, _, rfl, Nat.le_refl _, hm, fun h0 => ⟨_, rfl, Nat.le_refl _, by omega, fun i hi => by omega, fun i hi => ?_⟩⟩, fun i hi => ⟨by omega, by omega, Nat.le_refl _, h3 i hi⟩, fun i j _ _ e => by omega⟩
  rw [h2.cell hi, if_pos hi]
set_option maxHeartbeats 2000000 in
set_option maxRecDepth 100000 in
theorem twin10_any (u : Value) (m : Nat) (n : Nat → Nat) (S : Nat → Nat → Nat) (w : World) (h : Lb w u m n S) (hm : 24 * m ≤ 140737488355328) (hnb : ∀ i, i < m → n i ≤ 140737488355328) :
    Calls Try.prog 12 #[u] w fun e w' => e = .returned (.slice (some ⟨w.heap.size, 0, none⟩) m m) ∧ Tw w w' m n S m := by
  have hmk := make_rows m hm
  have hm8 : ∀ i, i < m → ∀ w, _ := fun i hi => make_u8 (n i) (hnb i hi)
  obtain ⟨V, ⟨hn, a, cap, rfl, -, -, h4⟩, hV⟩ := h
  have HV : Hid (∀ y, Below w.heap.size w y → ∀ i, i < m → ∃ b o x cx, a = some ⟨b, o, none⟩ ∧ y.cell? ⟨b, o + i, none⟩ = some (.slice x (n i) cx) ∧ Rb y (.slice x (n i) cx) (n i) (S i)) := fun y hy i hi => by
    obtain ⟨b, o, rfl, hbl, hc⟩ := h4 (by omega)
    obtain ⟨x, cx, e⟩ : ∃ x cx, V i = .slice x (n i) cx := by obtain ⟨_, _, x, y, e, _⟩ := hV i hi; exact ⟨x, y, e⟩
    have hr := (hV i hi).rb.below hy
    rw [e] at hr
    exact ⟨b, o, x, cx, rfl, by rw [← e, ← hc i hi]; exact hy.cell (p := ⟨b, o + i, none⟩) hbl.1, hr⟩
  have H8 : Hid _ := hm8
  have HN : Hid _ := hnb
  clear h4 hV hm8 hnb
  go_enter Try.func12, Try.ntmps12
  go_wp2
  clear hmk
  go_loopw [4] (fun i wr => ∃ k : Nat, k ≤ m ∧ i = .int .i64 k ∧ Tw w wr m n S k) (fun i _ => m - (intOf i).toNat)
  case atStart => exact ⟨0, Nat.zero_le _, rfl, Tw.start w m n S⟩
  case round =>
    obtain ⟨k, hk, rfl, hz⟩ := hrel
    by_cases hlt : k < m
    · obtain ⟨b, o, x, cx, rfl, q1, -⟩ := HV.out wr hz.bel k hlt
      have hm8 := H8.out k hlt
      obtain ⟨m1, m2, m3, m4, m5⟩ := hz.mid (HN.out k hlt) hlt
      have ha : (wr.alloc (.cells (madeCells #[.int .u8 0] (n k)) 5)).rowIs w.heap.size 38 m (fun i => if i < k then .slice (some ⟨w.heap.size + 1 + i, 0, none⟩) (n i) (n i) else .slice none 0 0) := hz.list.of_block (Below.heap_alloc wr _ _ (by have := hz.sz; omega))
      have q2 := ha.cell hlt
      rw [if_neg (Nat.lt_irrefl _)] at q2
      have q3 := ha.frozen k
      obtain ⟨b', o', x', cx', e', q5, hrb⟩ := HV.out (twi w wr k (n k)).drew m5.drew k hlt
      cases e'
      have hr4 : Rw (twi w wr k (n k)).drew wr.heap.size (n k) (fun _ => 0) := m4.drewN 1
      obtain ⟨w5, hrun, hr5, ho5⟩ := copy10 (o := 0) (dl := n k) (cap := n k) hr4 hrb (Nat.le_of_eq (Nat.zero_add _)) (Nat.le_refl _)
      have HD : Hid (Tw w w5 m n S (k + 1)) := Tw.done (x := (twi w wr k (n k)).drew) (wr := wr) m1 m2 (fun i hi => (m3 i hi).drewN 1) m5.drew hz.sz ho5 (hr5.congr (fun i hi => by have := pl_in (F := fun _ => 0) (o := 0) (S := S k) hi; rwa [Nat.zero_add] at this))
      have q6 : (twi w wr k (n k)).drew.cell? ⟨w.heap.size, k, none⟩ = some (.slice (some ⟨wr.heap.size, 0, none⟩) (n k) (n k)) := by
        have := m2.cell hlt
        rw [if_pos (Nat.lt_succ_self k), ← hz.sz] at this
        exact this
      have ib : ((k : Nat) : Int) < (m : Int) := by omega
      have W1 := wrap_succ8 (j := k) (by unfold big; omega)
      have HX : Hid (k < m) := hlt
      clear hz m1 m2 m3 m4 m5 ha hrb hr4 hr5 ho5 HV H8 HN hlt hk hn hm
      unfold twi at q5 q6 hrun
      go_wp2
      refine region_planT (fun w' => w'.cell? ⟨w.heap.size, k, none⟩ = some (.slice (some ⟨wr.heap.size, 0, none⟩) (n k) (n k)) ∧ w'.cell? ⟨b, o + k, none⟩ = some (.slice x' (n k) cx')) 8 [8] 33 ⟨q6, q5⟩ (by kernel_rfl) (by kernel_rfl) (fun _ a d v _ h => by cases d <;> exact h) ?_
      refine planT_last ?A2x0 rfl (fun w' hS => ?s2x0) rfl ?n2x0
      case s2x0 =>
        obtain ⟨g1, g2⟩ := hS
        simp only [List.take_succ_cons, List.take_zero]
        repeat still_step
        exact rfl
      case n2x0 =>
      simp only [List.drop_succ_cons, List.drop_zero]
      go_wp2
      go_roundw
      case rel => first | exact ⟨k + 1, HX.out, by first | rfl | (rw [W1]; rfl), HD.out⟩ | (rw [W1]; (repeat apply Exists.intro); exact ⟨⟨k + 1, HX.out, rfl, HD.out⟩, rfl⟩)
      case measure => first | exact meas_lt8 HX.out | (rw [W1]; exact meas_lt8 HX.out)
    · have hkm : k = m := by omega
      subst hkm
      go_wp2
      go_ret
      exact ⟨rfl, hz⟩
end Go.Proofs.Ytdnhidachdjgaaa
