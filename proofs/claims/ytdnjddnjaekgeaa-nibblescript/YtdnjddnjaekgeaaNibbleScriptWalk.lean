import Derived.Test.YtdnjddnjaekgeaaNse
import Derived.Test.YtdnjddnjaekgeaaNbd
import Derived.Deep.RegionHeld
namespace Go.Proofs.Ytdnjddnjaekgeaa
open Go.RowKit Gf2
set_option linter.unusedVariables false

set_option maxHeartbeats 4000000 in
set_option maxRecDepth 100000 in
theorem script_none (a : Option Addr) (cap : Nat) (v : Value) (w : World) :
    Calls Try.prog 5 #[.slice a 0 cap, v] w fun e w' => e = .returned (.bool true) ∧ Below w.heap.size w w' := by
  have c2 := fixed6_any w
  go_enter Try.func5, Try.ntmps5
  go_wp2_with (go_at_call 11; ((with_reducible refine (c2).mono ?_); (rintro e w1 ⟨rfl, hb1⟩)))
  go_ret
  exact ⟨rfl, hb1⟩

set_option maxHeartbeats 4000000 in
set_option maxRecDepth 100000 in
theorem script_walk (K cap sb so : Nat) (sa : Option Addr) (sl sc : Nat) (n : Nat → Nat) (ai : Nat → Option Addr) (ci : Nat → Nat) (S : Nat → Nat → Nat) (w : World) (hK : 0 < K) (hKm : K ≤ 5864062014634) (hsb : sb < w.heap.size)
    (hS : ∀ i, i < K → w.cell? ⟨sb, so + i, none⟩ = some (.slice (ai i) (n i) (ci i)) ∧ n i ≤ 140737488351232 ∧ Rb w (.slice (ai i) (n i) (ci i)) (n i) (S i)) (hO : IsOps6 w sa sl sc) :
    Calls Try.prog 5 #[.slice (some ⟨sb, so, none⟩) K cap, .slice sa sl sc] w fun e w' => e = .returned (.bool true) ∧ Below w.heap.size w w' := by
  have c2 := fixed6_any w
  have hK0 : ((K : Int) == 0) = false := by simp; omega
  go_enter Try.func5, Try.ntmps5
  go_wp2_with (first | (go_at_call 11; ((with_reducible refine (c2).mono ?_); (rintro e w1 ⟨rfl, hb1⟩; have c3 := nnew_any w1))) | (go_at_call 13; first | ((with_reducible refine (c3).mono ?_); (rintro e w2 ⟨p, rfl, hk2, hb2⟩; have c4 := nnew_any w2)) | ((with_reducible refine (c4).mono ?_); (rintro e w3 ⟨q, rfl, hk3, hb3⟩))))
  obtain ⟨wK, hwK⟩ : ∃ wK, wK = w3.alloc (.cells #[.pointer (some p), .pointer (some q)] 28) := ⟨_, rfl⟩
  have hb4 : Below w3.heap.size w3 wK := by rw [hwK]; exact (Below.refl _ _).alloc (Nat.le_refl _) _
  have kc0 : wK.cell? ⟨w3.heap.size, 0, none⟩ = some (.pointer (some p)) := by rw [hwK, cell_of_row _ _ _ _ _ _ (heap_alloc_new _ _)]; rfl
  have kc1 : wK.cell? ⟨w3.heap.size, 1, none⟩ = some (.pointer (some q)) := by rw [hwK, cell_of_row _ _ _ _ _ _ (heap_alloc_new _ _)]; rfl
  have kl : w3.heap.size < wK.heap.size := by rw [hwK]; simp
  have np := nk_below (nk_below hk2 hb3) hb4
  have nkq := nk_below hk3 hb4
  have hb01 := hb1.trans (hb2.mono hb1.size)
  have hb02 := hb01.trans (hb3.mono hb01.size)
  have hbK := hb02.trans (hb4.mono hb02.size)
  rw [← hwK]
  have HK : Hid (wK = w3.alloc (.cells #[.pointer (some p), .pointer (some q)] 28)) := hwK
  clear hwK c2 c3 c4 hb4 hb01 hb02 hb3 hb2 hb1 hk2 hk3
  go_loopw [6, 7, 28] (fun hv wv i wr => ∃ k : Nat, k ≤ K ∧ i = .int .i64 k ∧ ∃ Bh Bw, Pa wK wr hv wv k k n S Bh Bw) (fun _ _ i _ => K - (intOf i).toNat)
  case atStart => exact ⟨0, Nat.zero_le _, rfl, fun _ => 0, fun _ => 0, ⟨Below.refl _ _, World.ownsRow_nil _ _ _ _, World.ownsRow_nil _ _ _ _, fun r hr => absurd hr (Nat.not_lt_zero _), fun r hr => absurd hr (Nat.not_lt_zero _), fun r s hr => absurd hr (Nat.not_lt_zero _), fun r s hr => absurd hr (Nat.not_lt_zero _), fun r s hr => absurd hr (Nat.not_lt_zero _), fun r hr => absurd hr (Nat.not_lt_zero _), fun r hr => absurd hr (Nat.not_lt_zero _), fun r hr => absurd hr (Nat.not_lt_zero _), fun r hr => absurd hr (Nat.not_lt_zero _), fun k e => by cases e⟩⟩
  case round =>
    obtain ⟨k, hk, rfl, Bh, Bw, hP⟩ := hrel
    by_cases hlt : k < K
    · obtain ⟨s1, s2, s3⟩ := hS k hlt
      have hbr := hbK.trans (hP.bel.mono hbK.size)
      have q1 : wr.cell? ⟨sb, so + k, none⟩ = some (.slice (ai k) (n k) (ci k)) := (hbr.cell (p := ⟨sb, so + k, none⟩) hsb).trans s1
      have cA := copied6_any (.slice (ai k) (n k) (ci k)) (n k) (S k) wr (s3.below hbr) (by omega)
      have lA : Hid (wK.heap.size ≤ wr.heap.size) := hP.bel.size
      have ib : ((k : Nat) : Int) < (K : Int) := by omega
      have L24 : Hid ((k + 1) * 24 ≤ 140737488355328) := by exact (by omega : (k + 1) * 24 ≤ 140737488355328)
      have HN : Hid (n k ≤ 140737488355328) := by exact (by omega : n k ≤ 140737488355328)
      have W1 := wrap_succ8 (j := k) (by unfold big; omega)
      clear hS hO hKm s1 s2 kc0 kc1 kl np nkq hk hsb hK hbr
      go_wp2_with (first
        | (go_at_call 15; first
          | ((with_reducible refine cA.mono ?_); rintro e w5 ⟨rfl, r5, b5, z5⟩; obtain ⟨g5, cap5, w6, hrun5, o5, k5, bel5, l5, -⟩ := app_l6 (owns_below hP.oh b5) (Nat.le_trans lA.out b5.size) (some ⟨wr.heap.size, 0, none⟩) (n k) (n k) L24.out; have hP2 := hP.step b5 z5 r5 o5 k5 bel5 l5; have cB := copied6_any (.slice (ai k) (n k) (ci k)) (n k) (S k) w6 (s3.below (hbK.trans (hP2.bel.mono hbK.size))) HN.out; clear r5 b5 z5 o5 k5 bel5 l5 hP cA)
          | ((with_reducible refine cB.mono ?_); rintro e w7 ⟨rfl, r7, b7, z7⟩; obtain ⟨g7, cap7, w8, hrun7, o7, k7, bel7, l7, -⟩ := app_l6 (owns_below hP2.ow b7) (Nat.le_trans hP2.bel.size b7.size) (some ⟨w6.heap.size, 0, none⟩) (n k) (n k) L24.out; have hP3 := (hP2.swap.step b7 z7 r7 o7 k7 bel7 l7).swap; clear r7 b7 z7 o7 k7 bel7 l7 hP2 cB))
        | (at_builtin; refine Lib.wpList_append_run _ rfl _ _ _ _ rfl _ _ rfl rfl _ _ hrun5 ?_)
        | (at_builtin; refine Lib.wpList_append_run _ rfl _ _ _ _ rfl _ _ rfl rfl _ _ hrun7 ?_))
      go_roundw
      case rel => exact ⟨k + 1, hlt, by first | rfl | (rw [W1]; rfl), _, _, hP3⟩
      case measure => first | exact meas_lt8 hlt | (rw [W1]; exact meas_lt8 hlt)
    · have hkK : k = K := by omega
      subst hkK
      obtain ⟨hb, ch, wb, cw, rfl, rfl, hC⟩ := hP.sc hK
      clear hk hP
      go_wp2
      obtain ⟨hsl, hO⟩ := hO
      go_loopw [45] (fun i wq => ∃ j : Nat, j ≤ sl ∧ i = .int .i64 j ∧ ∃ V U, Sc wK wq hb wb k n Bh V U ∧ ∀ r, r < k → ∀ i, i < n r → V r i = U r i) (fun i _ => sl - (intOf i).toNat)
      case atStart => exact ⟨0, Nat.zero_le _, rfl, S, S, hC, fun r hr i hi => rfl⟩
      case round =>
        obtain ⟨j, hj, rfl, V, U, hQ, hVU⟩ := hrel
        by_cases hlj : j < sl
        · rcases hO with h0 | ⟨ob, oo, rfl, -, -, obl, hO⟩
          · omega
          · obtain ⟨add, c, x, y, z0, z1, z2, z3, lc, -, -⟩ := hO j hlj
            have hbq := hbK.trans (hQ.bel.mono hbK.size)
            have q0 := (hbq.cell (p := ⟨ob, oo + j * 4, none⟩) obl).trans z0
            have q1 := (hbq.cell (p := ⟨ob, oo + j * 4 + 1, none⟩) obl).trans z1
            have q2 := (hbq.cell (p := ⟨ob, oo + j * 4 + 2, none⟩) obl).trans z2
            have q3 := (hbq.cell (p := ⟨ob, oo + j * 4 + 3, none⟩) obl).trans z3
            obtain ⟨wO, hwO⟩ : ∃ wO, wO = wr.alloc (.cells #[.bool add, .int .u8 (c : Int), .int .i64 x, .int .i64 y] 41) := ⟨_, rfl⟩
            have bO : Below wr.heap.size wr wO := by rw [hwO]; exact (Below.refl _ _).alloc (Nat.le_refl _) _
            have sO := hQ.still bO
            have hO5 := heap_alloc_new wr (.cells #[.bool add, .int .u8 (c : Int), .int .i64 x, .int .i64 y] 41)
            rw [← hwO] at hO5
            have o0 : wO.cell? ⟨wr.heap.size, 0, none⟩ = some (.bool add) := by rw [cell_of_row _ _ _ _ _ _ hO5]; rfl
            have o1 : wO.cell? ⟨wr.heap.size, 1, none⟩ = some (.int .u8 (c : Int)) := by rw [cell_of_row _ _ _ _ _ _ hO5]; rfl
            have o2 : wO.cell? ⟨wr.heap.size, 2, none⟩ = some (.int .i64 x) := by rw [cell_of_row _ _ _ _ _ _ hO5]; rfl
            have o3 : wO.cell? ⟨wr.heap.size, 3, none⟩ = some (.int .i64 y) := by rw [cell_of_row _ _ _ _ _ _ hO5]; rfl
            have sOl : wr.heap.size < wO.heap.size := by rw [hwO]; simp
            obtain ⟨z, pk, lk, hk_, lz, R1, kz, nz⟩ : ∃ z pk lk hk_, z < 2 ∧ (j : Int).tmod 2 = ((z : Nat) : Int) ∧ wO.cell? ⟨w3.heap.size, z, none⟩ = some (.pointer (some pk)) ∧ Nk wK pk lk hk_ := by
              have kb := fun o => (bO.trans (Below.refl _ _)).cell (p := ⟨w3.heap.size, o, none⟩) (Nat.lt_of_lt_of_le kl hQ.bel.size)
              have kb2 := fun o => hQ.bel.cell (p := ⟨w3.heap.size, o, none⟩) kl
              rcases Nat.mod_two_eq_zero_or_one j with h2 | h2
              · exact ⟨0, p, _, _, by decide, by rw [Int.tmod_eq_emod_of_nonneg (by omega)]; omega, (kb 0).trans ((kb2 0).trans kc0), np⟩
              · exact ⟨1, q, _, _, by decide, by rw [Int.tmod_eq_emod_of_nonneg (by omega)]; omega, (kb 1).trans ((kb2 1).trans kc1), nkq⟩
            have iz : ((z : Nat) : Int) < 2 := by omega
            have kzE : (wr.alloc (.cells #[.bool add, .int .u8 (c : Int), .int .i64 x, .int .i64 y] 41)).cell? ⟨w3.heap.size, z, none⟩ = some (.pointer (some pk)) := by rw [← hwO]; exact kz
            have ib : ((j : Nat) : Int) < (sl : Int) := by omega
            have cP := fun v W => place6_int v k W hK hKm
            have lt1 : plc x k < k := plc_lt hK
            have ls1 : plc y k < k := plc_lt hK
            obtain ⟨t, ht⟩ : ∃ t, t = plc x k := ⟨_, rfl⟩
            obtain ⟨s, hs⟩ : ∃ s, s = plc y k := ⟨_, rfl⟩
            have cP1 := fun W => cP x W
            have cP2 := fun W => cP y W
            rw [← ht] at lt1 cP1
            rw [← hs] at ls1 cP2
            have HS : Hid (Sc wK wO hb wb k n Bh V U) := sO
            have HN : Hid (∀ r, r < k → n r ≤ 140737488351232) := fun r hr => (hS r hr).2.1
            have HB : Hid (∀ r, r < k → Bh r < wr.heap.size) := fun r hr => (hQ.rows r hr).2.lt
            have HL : Hid (t < k ∧ s < k ∧ c < 256) := ⟨lt1, ls1, lc⟩
            have it : ((t : Nat) : Int) < (k : Int) := by omega
            have is_ : ((s : Nat) : Int) < (k : Int) := by omega
            have HW : Hid (wO = wr.alloc (.cells #[.bool add, .int .u8 (c : Int), .int .i64 x, .int .i64 y] 41)) := hwO
            have W1 := wrap_succ8 (j := j) (by unfold maxLen at hsl; unfold big; omega)
            have HM : Hid (0 < k ∧ k ≤ 5864062014634) := ⟨hK, hKm⟩
            have HSz : Hid (wr.heap.size < wO.heap.size) := sOl
            clear hS hO hC hKm hK hsb hbq hQ z0 z1 z2 z3 hsl lc hj hlt hO5 bO sO kc0 kc1 kl lt1 ls1 ht hs cP sOl lz
            have HWO : Hid (wO = wr.alloc (.cells #[.bool add, .int .u8 (c : Int), .int .i64 x, .int .i64 y] 41)) := hwO
            clear hwO kz
            go_wp2
            rw [← HWO.out]
            go_quiet (first | (go_at_call 19; with_reducible exact Calls.quiet_of_same (cP1 _)) | (go_at_call 19; with_reducible exact Calls.quiet_of_same (cP2 _)))
            clear cP1 cP2 q0 q1 q2 q3 kzE R1 iz
            have sP : Sc wK (wO.drewN nq) hb wb k n Bh V U := HS.out.drewN nq
            have p0 : (wO.drewN nq).cell? ⟨wr.heap.size, 0, none⟩ = some (.bool add) := o0
            have p1 : (wO.drewN nq).cell? ⟨wr.heap.size, 1, none⟩ = some (.int .u8 (c : Int)) := o1
            have lP : wr.heap.size < (wO.drewN nq).heap.size := HSz.out
            obtain ⟨wP, hwP⟩ : ∃ wP, wP = wO.drewN nq := ⟨_, rfl⟩
            rw [← hwP] at sP p0 p1 lP ⊢
            clear o0 o1 o2 o3 hwP HS HSz HW HWO
            have HP : Hid (Sc wK wP hb wb k n Bh V U ∧ wr.heap.size < wP.heap.size) := ⟨sP, lP⟩
            have h1 := sP.hc t HL.out.1
            have h2 := sP.hc s HL.out.2.1
            cases add with
            | true =>
              have cM := sc_add sP.drew nz t s c HL.out.1 HL.out.2.1 HL.out.2.2
              obtain ⟨E, hE⟩ : ∃ E, E = er6 n t s := ⟨_, rfl⟩
              rw [← hE] at cM
              clear sP lP
              go_wp2
              go_region_held (fun w' => w'.cell? ⟨wr.heap.size, 1, none⟩ = some (.int .u8 (c : Int)) ∧ w'.cell? ⟨hb, t, none⟩ = some (.slice (some ⟨Bh t, 0, none⟩) (n t) (n t)) ∧ w'.cell? ⟨hb, s, none⟩ = some (.slice (some ⟨Bh s, 0, none⟩) (n s) (n s))) (go_keep) (first
                | (go_at_call 16; (with_reducible refine cM.mono ?_); rintro e wM ⟨rfl, sM, kM⟩; have m1 : wM.cell? ⟨wr.heap.size, 1, none⟩ = some (.int .u8 (c : Int)) := (kM.cell HP.out.2 (fun e => by have := HB.out t HL.out.1; omega)).trans p1; have m2 := sM.hc t HL.out.1; have m3 := sM.hc s HL.out.2.1; have HM2 : Hid (Sc wK wM hb wb k n Bh _ U ∧ wr.heap.size < wM.heap.size) := ⟨sM, Nat.lt_of_lt_of_le HP.out.2 kM.size⟩; clear sM kM))
              clear cM h1 h2 p0 p1 m2 m3
              obtain ⟨a1, C1, w1c, w1r, w1d⟩ := HM2.out.1.wc t HL.out.1
              obtain ⟨a2, C2, w2c, w2r, w2d⟩ := HM2.out.1.wc s HL.out.2.1
              have cR := sc_refAdd (W := wM.drew) (n := n) (U := U) c t s HL.out.2.2 w1r w2r (HN.out t HL.out.1)
              rw [← hE] at cR
              have H1 : Hid (Rb wM (.slice a1 (n t) C1) (n t) (U t)) := w1r
              clear w1r w2r w1d w2d
              go_wp2
              go_region_with (first
                | (go_at_call 18; (with_reducible refine cR.mono ?_); rintro e wN ⟨a3, C3, rfl, hN⟩; have sN := HM2.out.1.drew.still hN.1; obtain ⟨a4, C4, n1, -⟩ := sN.wc t HL.out.1; have n2 := sN.fz t HL.out.1; have HN3 : Hid (Sc wK (wN.setCell ⟨wb, t, none⟩ (.slice a3 (n t) C3)) hb wb k n Bh _ _) := HM2.out.1.drew.lay HL.out.1 hN; clear sN hN))
              all_goals
                clear cR n1 n2 m1 w1c w2c H1 HM2 HP
                go_wp2
                obtain ⟨wT, hwT⟩ : ∃ wT, wT = wN.setCell ⟨wb, t, none⟩ (.slice a3 (n t) C3) := ⟨_, rfl⟩
                have sT := HN3.out
                rw [← hwT] at sT ⊢
                have eqT := nx6_congr (f := fun d x => d ^^^ fm 285 c x) (n := n) HL.out.1 HL.out.2.1 hVU
                clear hwT HN3
                go_loopw [132] (fun i wq => ∃ l m : Nat, l ≤ k ∧ i = .int .i64 l ∧ wq = wT.drewN m) (fun i _ => k - (intOf i).toNat)
                case atStart => exact ⟨0, 0, Nat.zero_le _, rfl, rfl⟩
                case round =>
                  obtain ⟨l, m, hl, rfl, hw⟩ := hrel
                  by_cases hll : l < k
                  · have s2 := sT.drewN m
                    rw [← hw] at s2
                    obtain ⟨ae, Ce, e1, e2⟩ := sc_equal s2 l hll eqT
                    have e3 := s2.hc l hll
                    have il : ((l : Nat) : Int) < (k : Int) := by omega
                    have W2 := wrap_succ8 (j := l) (Nat.lt_of_lt_of_le hll (Nat.le_trans HM.out.2 (by decide)))
                    have HW2 : Hid (wr = wT.drewN m) := hw
                    have HT : Hid (Sc wK wT hb wb k n Bh _ _ ∧ ∀ r, r < k → ∀ i, i < n r → nx6 (fun d x => d ^^^ fm 285 c x) n t s V r i = nx6 (fun d x => d ^^^ fm 285 c x) n t s U r i) := ⟨sT, eqT⟩
                    clear sT eqT hVU hl W1 hw s2
                    go_wp2
                    go_quiet (first | (go_at_call 12; with_reducible exact Calls.quiet_of (e2 _)))
                    go_wp2
                    go_roundw
                    case rel => exact ⟨l + 1, m + nq, hll, by first | rfl | (rw [W2]; rfl), by rw [HW2.out, World.drewN_drewN]⟩
                    case measure => first | exact meas_lt8 hll | (rw [W2]; exact meas_lt8 hll)
                  · have hlk : l = k := by omega
                    subst hw
                    have il : ¬ ((l : Nat) : Int) < (k : Int) := by omega
                    have HT : Hid (Sc wK (wT.drewN m) hb wb k n Bh _ _ ∧ ∀ r, r < k → ∀ i, i < n r → nx6 (fun d x => d ^^^ fm 285 c x) n t s V r i = nx6 (fun d x => d ^^^ fm 285 c x) n t s U r i) := ⟨sT.drewN m, eqT⟩
                    clear sT eqT hVU hl hlk
                    go_wp2
                    go_roundw
                    case rel => exact ⟨j + 1, hlj, by first | rfl | (rw [W1]; rfl), _, _, HT.out.1, HT.out.2⟩
                    case measure => first | exact meas_lt8 hlj | (rw [W1]; exact meas_lt8 hlj)
            | false =>
              have cM := sc_mul sP.drew nz t s c HL.out.1 HL.out.2.1 HL.out.2.2
              obtain ⟨E, hE⟩ : ∃ E, E = er6 n t s := ⟨_, rfl⟩
              rw [← hE] at cM
              clear sP lP
              go_wp2
              go_region_held (fun w' => w'.cell? ⟨wr.heap.size, 1, none⟩ = some (.int .u8 (c : Int)) ∧ w'.cell? ⟨hb, t, none⟩ = some (.slice (some ⟨Bh t, 0, none⟩) (n t) (n t)) ∧ w'.cell? ⟨hb, s, none⟩ = some (.slice (some ⟨Bh s, 0, none⟩) (n s) (n s))) (go_keep) (first
                | (go_at_call 14; (with_reducible refine cM.mono ?_); rintro e wM ⟨rfl, sM, kM⟩; have m1 : wM.cell? ⟨wr.heap.size, 1, none⟩ = some (.int .u8 (c : Int)) := (kM.cell HP.out.2 (fun e => by have := HB.out t HL.out.1; omega)).trans p1; have m2 := sM.hc t HL.out.1; have m3 := sM.hc s HL.out.2.1; have HM2 : Hid (Sc wK wM hb wb k n Bh _ U ∧ wr.heap.size < wM.heap.size) := ⟨sM, Nat.lt_of_lt_of_le HP.out.2 kM.size⟩; clear sM kM))
              clear cM h1 h2 p0 p1 m2 m3
              obtain ⟨a1, C1, w1c, w1r, w1d⟩ := HM2.out.1.wc t HL.out.1
              obtain ⟨a2, C2, w2c, w2r, w2d⟩ := HM2.out.1.wc s HL.out.2.1
              have cR := sc_refMul (W := wM.drew) (n := n) (U := U) c t s HL.out.2.2 w1r w2r (HN.out t HL.out.1)
              rw [← hE] at cR
              have H1 : Hid (Rb wM (.slice a1 (n t) C1) (n t) (U t)) := w1r
              clear w1r w2r w1d w2d
              go_wp2
              go_region_with (first
                | (go_at_call 17; (with_reducible refine cR.mono ?_); rintro e wN ⟨a3, C3, rfl, hN⟩; have sN := HM2.out.1.drew.still hN.1; obtain ⟨a4, C4, n1, -⟩ := sN.wc t HL.out.1; have n2 := sN.fz t HL.out.1; have HN3 : Hid (Sc wK (wN.setCell ⟨wb, t, none⟩ (.slice a3 (n t) C3)) hb wb k n Bh _ _) := HM2.out.1.drew.lay HL.out.1 hN; clear sN hN))
              all_goals
                clear cR n1 n2 m1 w1c w2c H1 HM2 HP
                go_wp2
                obtain ⟨wT, hwT⟩ : ∃ wT, wT = wN.setCell ⟨wb, t, none⟩ (.slice a3 (n t) C3) := ⟨_, rfl⟩
                have sT := HN3.out
                rw [← hwT] at sT ⊢
                have eqT := nx6_congr (f := fun _ x => fm 285 c x) (n := n) HL.out.1 HL.out.2.1 hVU
                clear hwT HN3
                go_loopw [132] (fun i wq => ∃ l m : Nat, l ≤ k ∧ i = .int .i64 l ∧ wq = wT.drewN m) (fun i _ => k - (intOf i).toNat)
                case atStart => exact ⟨0, 0, Nat.zero_le _, rfl, rfl⟩
                case round =>
                  obtain ⟨l, m, hl, rfl, hw⟩ := hrel
                  by_cases hll : l < k
                  · have s2 := sT.drewN m
                    rw [← hw] at s2
                    obtain ⟨ae, Ce, e1, e2⟩ := sc_equal s2 l hll eqT
                    have e3 := s2.hc l hll
                    have il : ((l : Nat) : Int) < (k : Int) := by omega
                    have W2 := wrap_succ8 (j := l) (Nat.lt_of_lt_of_le hll (Nat.le_trans HM.out.2 (by decide)))
                    have HW2 : Hid (wr = wT.drewN m) := hw
                    have HT : Hid (Sc wK wT hb wb k n Bh _ _ ∧ ∀ r, r < k → ∀ i, i < n r → nx6 (fun _ x => fm 285 c x) n t s V r i = nx6 (fun _ x => fm 285 c x) n t s U r i) := ⟨sT, eqT⟩
                    clear sT eqT hVU hl W1 hw s2
                    go_wp2
                    go_quiet (first | (go_at_call 12; with_reducible exact Calls.quiet_of (e2 _)))
                    go_wp2
                    go_roundw
                    case rel => exact ⟨l + 1, m + nq, hll, by first | rfl | (rw [W2]; rfl), by rw [HW2.out, World.drewN_drewN]⟩
                    case measure => first | exact meas_lt8 hll | (rw [W2]; exact meas_lt8 hll)
                  · have hlk : l = k := by omega
                    subst hw
                    have il : ¬ ((l : Nat) : Int) < (k : Int) := by omega
                    have HT : Hid (Sc wK (wT.drewN m) hb wb k n Bh _ _ ∧ ∀ r, r < k → ∀ i, i < n r → nx6 (fun _ x => fm 285 c x) n t s V r i = nx6 (fun _ x => fm 285 c x) n t s U r i) := ⟨sT.drewN m, eqT⟩
                    clear sT eqT hVU hl hlk
                    go_wp2
                    go_roundw
                    case rel => exact ⟨j + 1, hlj, by first | rfl | (rw [W1]; rfl), _, _, HT.out.1, HT.out.2⟩
                    case measure => first | exact meas_lt8 hlj | (rw [W1]; exact meas_lt8 hlj)
        · have hjs : j = sl := by omega
          subst hjs
          have HE : Hid (Below w.heap.size w wr) := hbK.trans (hQ.bel.mono hbK.size)
          clear hS hO hC hKm hK hsb hQ hsl hj hVU hbK
          go_wp2
          go_ret
          exact ⟨rfl, HE.out⟩
theorem script_any {w : World} (a : Option Addr) (K cap : Nat) (hu : IsL6 w a K cap) (b : Option Addr) (sl sc : Nat) (hv : IsOps6 w b sl sc) :
    Calls Try.prog 5 #[.slice a K cap, .slice b sl sc] w fun e w' => e = .returned (.bool true) ∧ Below w.heap.size w w' := by
  obtain ⟨hKm, h0 | ⟨sb, so, rfl, -, hl, h⟩⟩ := hu
  · subst h0
    exact script_none a cap _ w
  · by_cases h0 : K = 0
    · subst h0
      exact script_none _ cap _ w
    · have h9 : ∀ i, ∃ ai ni ci F, i < K → w.cell? ⟨sb, so + i, none⟩ = some (.slice ai ni ci) ∧ ni ≤ 140737488351232 ∧ Rb w (.slice ai ni ci) ni F := by
        intro i
        by_cases hi : i < K
        · obtain ⟨ai, ni, ci, h1, h2, F, h3⟩ := h i hi
          exact ⟨ai, ni, ci, F, fun _ => ⟨h1, h2, h3⟩⟩
        · exact ⟨none, 0, 0, fun _ => 0, fun h => absurd h hi⟩
      exact script_walk K cap sb so b sl sc (fun i => (h9 i).choose_spec.choose) (fun i => (h9 i).choose) (fun i => (h9 i).choose_spec.choose_spec.choose) (fun i => (h9 i).choose_spec.choose_spec.choose_spec.choose) w (by omega) hKm hl (fun i hi => (h9 i).choose_spec.choose_spec.choose_spec.choose_spec hi) hv
end Go.Proofs.Ytdnjddnjaekgeaa
