import Derived.Test.YthfpadkihommaaaMre
namespace Go.Proofs.Ythfpadkihommaaa
open Go.RowKit Gf2
set_option linter.unusedVariables false

set_option maxHeartbeats 2000000 in
set_option maxRecDepth 100000 in
theorem nullVector10 (u v : Value) (m n f t : Nat) (P : Nat → Nat) (M : Nat → Nat → Nat) (w : World) (h : Lb w u m (fun _ => n) M) (k : Qi w v t (fun i => (P i : Int))) (h1 : 1 ≤ m) (hn : n ≤ 1000) (ht : t ≤ m) (hm : m ≤ 1000) (hP : ∀ i, i < t → P i < n) (hf : f < n) (hM : ∀ i j, M i j < 256) :
    Calls Try.prog 45 #[u, v, .int .i64 (f : Int)] w fun e w' => e = .returned (.slice (some ⟨w.heap.size, 0, none⟩) n n) ∧ Rw w' w.heap.size n (nvs P M f t) ∧ Below w.heap.size w w' := by
  obtain ⟨b, o, cap, X, CX, rfl, hU⟩ := rows10f h h1
  have z0 := (hU w (Below.refl _ _) 0 h1).1
  rw [Nat.add_zero] at z0
  obtain ⟨-, -, a', cap', rfl, -, -, k4⟩ := k
  have i0 : (0 : Int) < (m : Int) := Int.ofNat_lt.2 h1
  have i1 : ((f : Nat) : Int) < (n : Int) := Int.ofNat_lt.2 hf
  have hr0 := made_rw n (by omega) w
  have hmk := make_u8 n (by omega)
  have hb0 : Below w.heap.size w (w.alloc (.cells (madeCells #[.int .u8 0] n) 5)) := (Below.refl _ _).alloc (Nat.le_refl _) _
  have eS : (w.alloc (.cells (madeCells #[.int .u8 0] n) 5)).setCell ⟨w.heap.size, f, none⟩ (.int .u8 1) = w.alloc (.cells ((madeCells #[.int .u8 0] n).setIfInBounds f (.int .u8 1)) 5) := World.setCell_alloc_at _ _ _ _ _ rfl
  have HS : Hid (Rw (w.alloc (.cells ((madeCells #[.int .u8 0] n).setIfInBounds f (.int .u8 1)) 5)) w.heap.size n (nvs P M f 0) ∧ Below w.heap.size w (w.alloc (.cells ((madeCells #[.int .u8 0] n).setIfInBounds f (.int .u8 1)) 5))) := ⟨eS ▸ hr0.set f 1 (by decide), eS ▸ hb0.setCell (Nat.le_refl _) _⟩
  clear eS
  have hq := hr0.2.2.cell hf
  have hz := hr0.2.2.frozen f
  have H : Hid (t ≤ m ∧ m ≤ 1000 ∧ n ≤ 1000 ∧ f < n) := ⟨ht, hm, hn, hf⟩
  have HU : Hid _ := hU
  have HC : Hid (∀ y, Below w.heap.size w y → ∀ i, i < t → ∃ b o, a' = some ⟨b, o, none⟩ ∧ y.cell? ⟨b, o + i, none⟩ = some (.int .i64 (P i : Int))) := fun y hy i hi => by
    obtain ⟨b', o', e, hl, hc⟩ := k4 (by omega)
    exact ⟨b', o', e, (hy.cell (p := ⟨b', o' + i, none⟩) hl).trans (hc i hi)⟩
  have HP : Hid _ := hP
  have HM : Hid _ := hM
  clear h h1 hn ht hm hP hf hM hU k4 hr0 hb0
  go_enter Try.func45, Try.ntmps45
  go_wp2
  go_loopw [20] (fun i wr => ∃ r : Nat, r ≤ t ∧ i = .int .i64 r ∧ Hid (Rw wr w.heap.size n (nvs P M f r)) ∧ Hid (Below w.heap.size w wr)) (fun i _ => t - (intOf i).toNat)
  case atStart => exact ⟨0, Nat.zero_le _, rfl, HS.out.1, HS.out.2⟩
  case round =>
    obtain ⟨r, hr, rfl, hR, hb⟩ := hrel
    clear z0 hq hz HS hmk
    by_cases hlt : r < t
    · obtain ⟨b', o', rfl, q1⟩ := HC.out wr hb.out r hlt
      obtain ⟨q2, q3⟩ := HU.out wr hb.out r (by have := H.out; omega)
      obtain ⟨-, q4⟩ := q3 w.heap.size (Nat.le_refl _)
      obtain ⟨bx, ox, hbx, -, -, q5⟩ := q4 (by have := H.out; omega)
      have q6 := q5 f H.out.2.2.2
      rw [hbx] at q2
      have hp := HP.out r hlt
      have q7 := hR.out.2.2.cell hp
      have q8 := hR.out.2.2.frozen (P r)
      have ir : ((r : Nat) : Int) < (t : Int) := Int.ofNat_lt.2 hlt
      have irm : ((r : Nat) : Int) < (m : Int) := by have := H.out; omega
      have ip : ((P r : Nat) : Int) < (n : Int) := Int.ofNat_lt.2 hp
      have W1 := wrap_lt8 hlt (by have := H.out; omega)
      have HN : Hid (Rw (wr.setCell ⟨w.heap.size, P r, none⟩ (.int .u8 (M r f : Nat))) w.heap.size n (nvs P M f (r + 1)) ∧ Below w.heap.size w (wr.setCell ⟨w.heap.size, P r, none⟩ (.int .u8 (M r f : Nat)))) := ⟨hR.out.set (P r) (M r f) (HM.out r f), hb.out.setCell (Nat.le_refl _) _⟩
      have HX : Hid (r < t) := hlt
      generalize hpr : P r = pr at q1 q7 q8 ip HN
      generalize hmr : M r f = mr at q6 HN
      clear hR hb hlt hr HC HU HP HM H hp q3 q4 q5 hpr hmr hbx
      go_wp2
      go_roundw
      case rel => exact ⟨r + 1, HX.out, by first | rfl | (rw [W1]; rfl), HN.out.1, HN.out.2⟩
      case measure => first | exact meas_lt8 HX.out | (rw [W1]; exact meas_lt8 HX.out)
    · have hrt : r = t := Nat.le_antisymm hr (Nat.le_of_not_lt hlt)
      subst hrt
      clear HC HU HP HM hlt hr
      go_wp2
      go_ret
      exact ⟨rfl, hR.out, hb.out⟩
end Go.Proofs.Ythfpadkihommaaa
