import Derived.Test.YtefhlnplegagfaaEca
import Derived.Test.YtefhlnplegagfaaEbo
namespace Go.Proofs.Ytefhlnplegagfaa
open Go.RowKit Gf2
set_option linter.unusedVariables false

theorem ad_wrap (a b : Nat) : ((ad a b : Nat) : Int) = ((a : Int) + (b : Int)) % 256 := by unfold ad; omega
theorem ad_ad (a : Nat) : ad (ad a 3) 3 = ad a 6 := by unfold ad; omega
/-- the first k turned by f. -/
def part (f X : Nat → Nat) (k i : Nat) : Nat := if i < k then f i else X i
theorem part_zero (f X : Nat → Nat) (i : Nat) : part f X 0 i = X i := if_neg (Nat.not_lt_zero _)
theorem part_end (f X : Nat → Nat) {n i : Nat} (h : i < n) : part f X n i = f i := if_pos h
theorem part_at (f X : Nat → Nat) (k : Nat) : part f X k k = X k := if_neg (Nat.lt_irrefl _)
theorem part_up (f X : Nat → Nat) (k i : Nat) : up (part f X k) k (f k) i = part f X (k + 1) i := by
  unfold up part
  by_cases e : i = k
  · subst e; rw [if_pos rfl, if_pos (Nat.lt_succ_self _)]
  · rw [if_neg e]
    by_cases e2 : i < k
    · rw [if_pos e2, if_pos (by omega)]
    · rw [if_neg e2, if_neg (by omega)]

theorem part_upv (f X : Nat → Nat) (k : Nat) {v : Nat} (e : v = f k) (i : Nat) : up (part f X k) k v i = part f X (k + 1) i := by subst e; exact part_up f X k i

set_option maxHeartbeats 8000000 in
set_option maxRecDepth 100000 in
theorem again5_any (p : Addr) (lo hi c n : Nat) (x : Option Addr) (cx : Nat) (X : Nat → Nat) (w : World) (hk : Ker w p lo hi) (hc : c < 256) (hx : Rb w (.slice x n cx) n X) (hn : n ≤ 140737488351232) :
    Calls Try.prog 17 #[.pointer (some p), .int .u8 (c : Int), .slice x n cx] w fun e w' => e = .returned (.bool true) ∧ Below w.heap.size w w' := by
  have hnb : n ≤ 140737488355328 := by omega
  obtain ⟨w1, g, C, F, hrun, hC, hg, hg2, hR, hF, hb⟩ := copy_app w hx hnb
  have P : Pl w hi g C w1.heap.size n := ⟨hk.hi, hg, hg2, hC, hx.1⟩
  have s0 := St.start w1 (fun _ => 0) (fun _ _ => 0)
  have hM1 := fun W S A B D E (H : AG w W p lo hi g C w1.heap.size n S A B D E) => ag_mul_a H P c hc
  have hM2 := fun W S A B D E (H : AG w W p lo hi g C w1.heap.size n S A B D E) => ag_add_a H P c hc
  have hM3 := fun W S A B D E (H : AG w W p lo hi g C w1.heap.size n S A B D E) => ag_mul_b H P c hc
  have mk : ∀ W N G, St w1 4 N G W → (∀ j, j < 4 → N j = n) → AG w W p lo hi g C w1.heap.size n X (G 0) (G 1) (G 2) (G 3) := by
    intro W N G h hN
    have r0 := h.row (t := 0) (by decide)
    have r1 := h.row (t := 1) (by decide)
    have r2 := h.row (t := 2) (by decide)
    have r3 := h.row (t := 3) (by decide)
    rw [hN _ (by decide)] at r0 r1 r2 r3
    exact ⟨hb.trans (h.1.mono hb.size), ker_below (ker_below hk hb) h.1, ⟨F, rw_below hR h.1, hF⟩, r0, r1, r2, r3⟩
  have HM : Hid (∀ W N G, St w1 4 N G W → (∀ j, j < 4 → N j = n) → AG w W p lo hi g C w1.heap.size n X (G 0) (G 1) (G 2) (G 3)) := mk
  clear mk hC hg hg2 hR hF hb
  go_enter Try.func17, Try.ntmps17
  go_wp2_with (first
    | (at_builtin; refine Lib.wpList_append_run _ rfl _ _ _ _ rfl _ _ rfl rfl _ _ hrun ?_)
    | (go_at_call 12; first | ((with_reducible refine (st_zeros s0 n (plus0 _) hnb).mono ?_); rintro e w2 ⟨rfl, s1⟩) | ((with_reducible refine (st_zeros s1 n rfl hnb).mono ?_); rintro e w3 ⟨rfl, s2⟩) | ((with_reducible refine (st_zeros s2 n rfl hnb).mono ?_); rintro e w4 ⟨rfl, s3⟩) | ((with_reducible refine (st_zeros s3 n rfl hnb).mono ?_); rintro e w5 ⟨rfl, s4⟩; have H0 := HM.out w5 _ _ s4 (fun j hj => by match j, hj with | 0, _ => rfl | 1, _ => rfl | 2, _ => rfl | 3, _ => rfl)))
    | (go_at_call 13; first | ((with_reducible refine (hM1 _ _ _ _ _ _ H0).mono ?_); rintro e w6 ⟨rfl, H1⟩) | ((with_reducible refine (hM3 _ _ _ _ _ _ H2).mono ?_); rintro e w8 ⟨rfl, H3⟩))
    | (go_at_call 14; (with_reducible refine (hM2 _ _ _ _ _ _ H1).mono ?_); rintro e w7 ⟨rfl, H2⟩))
  have H3 : AG w w8 p lo hi g C w1.heap.size n X (fun i => fm 285 c (X i) ^^^ fm 285 c (X i)) (fun i => fm 285 c (X i)) (fun _ => 0) (fun _ => 0) := H3
  have H3 := H3.congrS (fun i hi => (part_zero (fun i => ad (X i) 3) X i).symm)
  clear H0 H1 H2 HM hM1 hM2 hM3 hrun s0 s1 s2 s3 s4 hk
  go_loopw [13] (fun i wr => ∃ k : Nat, k ≤ n ∧ i = .int .i64 k ∧ AG w wr p lo hi g C w1.heap.size n (part (fun i => ad (X i) 3) X k) (fun i => fm 285 c (X i) ^^^ fm 285 c (X i)) (fun i => fm 285 c (X i)) (fun _ => 0) (fun _ => 0)) (fun i _ => n - (intOf i).toNat)
  case atStart => exact ⟨0, Nat.zero_le _, rfl, H3⟩
  case round =>
    obtain ⟨k, hk, rfl, H⟩ := hrel
    clear H3
    by_cases hlt : k < n
    · obtain ⟨q1, q2, q3⟩ := H.cell P hlt
      rw [part_at] at q1 q3
      have hput := H.put P hlt (ad_lt (X k) 3)
      rw [show ((ad (X k) 3 : Nat) : Int) = ((X k : Int) + 3) % 256 from ad_wrap _ _] at hput
      have hput := hput.congrS (fun i hi => part_up (fun i => ad (X i) 3) X k i)
      have HP : Hid (AG w _ p lo hi g C w1.heap.size n _ _ _ _ _) := hput
      have ib : ((k : Nat) : Int) < (n : Int) := by omega
      have W1 := wrap_succ8 (j := k) (by have := P.nb; omega)
      clear hput H hx hn hnb
      go_wp2
      go_roundw
      case rel => exact ⟨k + 1, hlt, by first | rfl | (rw [W1]; rfl), HP.out⟩
      case measure => first | exact meas_lt8 hlt | (rw [W1]; exact meas_lt8 hlt)
    · have hkn : k = n := by omega
      subst hkn
      have H4 := H.congrS (fun i hi => part_end (fun i => ad (X i) 3) X hi)
      have hM4 := fun W S A B D E (H : AG w W p lo hi g C w1.heap.size k S A B D E) => ag_mul_d H P c hc
      have hM5 := fun W S A B D E (H : AG w W p lo hi g C w1.heap.size k S A B D E) => ag_add_e H P c hc
      clear H
      go_wp2_with (first
        | (go_at_call 13; (with_reducible refine (hM4 _ _ _ _ _ _ H4).mono ?_); rintro e w6 ⟨rfl, H5⟩)
        | (go_at_call 14; (with_reducible refine (hM5 _ _ _ _ _ _ H5).mono ?_); rintro e w7 ⟨rfl, H6⟩))
      clear H4 H5 hM4
      have H6 := H6.congrS (fun i hi => (part_zero (fun i => ad (X i) 6) (fun i => ad (X i) 3) i).symm)
      go_loopw [14] (fun i wr => ∃ j : Nat, j ≤ k ∧ i = .int .i64 j ∧ AG w wr p lo hi g C w1.heap.size k (part (fun i => ad (X i) 6) (fun i => ad (X i) 3) j) (fun i => fm 285 c (X i) ^^^ fm 285 c (X i)) (fun i => fm 285 c (X i)) (fun i => fm 285 c (ad (X i) 3)) (fun i => 0 ^^^ fm 285 c (ad (X i) 3))) (fun i _ => k - (intOf i).toNat)
      case atStart => exact ⟨0, Nat.zero_le _, rfl, H6⟩
      case round =>
        obtain ⟨j, hj, rfl, H⟩ := hrel
        clear H6
        by_cases hlt2 : j < k
        · obtain ⟨q1, q2, q3⟩ := H.cell P hlt2
          rw [part_at] at q1 q3
          have qa := H.a.2.2.cell hlt2
          have qb := H.b.2.2.cell hlt2
          have qd := H.d.2.2.cell hlt2
          have qe := H.e.2.2.cell hlt2
          dsimp only at qa qb qd qe
          rw [Nat.xor_self] at qa
          rw [Nat.zero_xor] at qe
          obtain ⟨-, hX, a', c', e', -, -, h4⟩ := hx
          cases e'
          obtain ⟨bx, ox, rfl, hbx, hcl⟩ := h4 (by omega)
          have qx := (H.bel.cell (p := ⟨bx, ox + j, none⟩) hbx).trans (hcl j hlt2)
          have cG1 := fun W => gmul_nat c (X j) W hc (hX j hlt2)
          have cG2 := fun W => gmul_nat c (ad (X j) 3) W hc (ad_lt _ _)
          have eA : ((ad (X j) 3 : Nat) : Int) = ((X j : Int) + 3) % 256 := ad_wrap _ _
          rw [eA] at cG2
          have hput := fun m => (H.drewN m).put P hlt2 (ad_lt (ad (X j) 3) 3)
          have hput := fun m => (hput m).congrS (fun i hi => part_upv (fun i => ad (X i) 6) (fun i => ad (X i) 3) j (ad_ad (X j)) i)
          have eB : ((ad (ad (X j) 3) 3 : Nat) : Int) = (((ad (X j) 3 : Nat) : Int) + 3) % 256 := ad_wrap _ _
          rw [eB] at hput
          have HP : Hid (∀ m, AG w _ p lo hi g C w1.heap.size k _ _ _ _ _) := hput
          have lX := hX j hlt2
          have lA := ad_lt (X j) 3
          have ib : ((j : Nat) : Int) < (k : Int) := by omega
          have W1 := wrap_succ8 (j := j) (by have := P.nb; omega)
          clear hput H hX h4 hcl hn hnb eB hk hlt
          go_wp2
          go_quiet ((go_at_call 18; first | with_reducible exact Calls.quiet_of_same (cG1 _) | with_reducible exact Calls.quiet_of_same (cG2 _)))
          have z1 : (wr.drewN nq).cell? ⟨g, j, none⟩ = some (.int .u8 (ad (X j) 3 : Nat)) := q1
          have z2 : (wr.drewN nq).frozen? ⟨g, j, none⟩ = false := q2
          clear eA cG1 cG2 qa qb qd qe qx q1 q2
          go_wp2
          go_roundw
          case rel => exact ⟨j + 1, hlt2, by first | rfl | (rw [W1]; rfl), HP.out nq⟩
          case measure => first | exact meas_lt8 hlt2 | (rw [W1]; exact meas_lt8 hlt2)
        · have hjk : j = k := by omega
          subst hjk
          have H7 := H.congrS (fun i hi => part_end (fun i => ad (X i) 6) (fun i => ad (X i) 3) hi)
          clear H
          go_wp2_with (go_at_call 14; (with_reducible refine (hM5 _ _ _ _ _ _ H7).mono ?_); rintro e w8 ⟨rfl, H8⟩)
          clear H7 hM5
          go_loopw [15] (fun i wr => ∃ t m : Nat, t ≤ j ∧ i = .int .i64 t ∧ wr = w8.drewN m) (fun i _ => j - (intOf i).toNat)
          case atStart => exact ⟨0, 0, Nat.zero_le _, rfl, rfl⟩
          case round =>
            obtain ⟨t, m, ht, rfl, hw⟩ := hrel
            by_cases hlt3 : t < j
            · have H := H8.drewN m
              rw [← hw] at H
              have qd := H.d.2.2.cell hlt3
              have qe := H.e.2.2.cell hlt3
              dsimp only at qd qe
              rw [Nat.zero_xor] at qe
              obtain ⟨-, hX, a', c', e', -, -, h4⟩ := hx
              cases e'
              obtain ⟨bx, ox, rfl, hbx, hcl⟩ := h4 (by omega)
              have qx := (H.bel.cell (p := ⟨bx, ox + t, none⟩) hbx).trans (hcl t hlt3)
              have cG3 := fun W => gmul_nat c (ad (X t) 6) W hc (ad_lt _ _)
              have eA : ((ad (X t) 6 : Nat) : Int) = ((X t : Int) + 6) % 256 := ad_wrap _ _
              rw [eA] at cG3
              have XX := u8_xor_nat (fm 285 c (ad (X t) 3)) (fm 285 c (ad (X t) 6)) (fm8_lt _ _) (fm8_lt _ _)
              have lX := hX t hlt3
              have ib : ((t : Nat) : Int) < (j : Int) := by omega
              have W1 := wrap_succ8 (j := t) (by have := P.nb; omega)
              have HW : Hid (wr = w8.drewN m) := hw
              clear H hX h4 hcl hn hnb eA hw hj hk hlt hlt2
              go_wp2
              go_quiet ((go_at_call 18; with_reducible exact Calls.quiet_of_same (cG3 _)))
              go_wp2
              go_roundw
              case rel => exact ⟨t + 1, m + nq, hlt3, by first | rfl | (rw [W1]; rfl), by rw [HW.out, World.drewN_drewN]⟩
              case measure => first | exact meas_lt8 hlt3 | (rw [W1]; exact meas_lt8 hlt3)
            · have htj : t = j := by omega
              subst htj
              clear hx
              go_wp2
              go_ret
              exact ⟨rfl, below_drewN H8.bel m⟩
end Go.Proofs.Ytefhlnplegagfaa
