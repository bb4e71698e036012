import Derived.Test.YtidcdbjhkgpjcaaDoorDhfr
import Derived.Test.YtidcdbjhkgpjcaaDoorGfp
import Derived.Below
import Derived.Laws.Tables
import Derived.Laws.CopyOwn
import Derived.Deep.OwnRows
namespace Go.Proofs.YtidcdbjhkgpjcaaDoor
open Go.RowKit Gf2

theorem zero_16 (w : World) : (zeroValue 58).run Tryd.prog w = .ok (.agg (Array.replicate 16 (Value.int .u16 0))) w := by
  kernel_rfl

theorem pow_lt16 {k : Nat} (h : k ≤ 15) : 2 ^ k < 65536 := by
  have : 2 ^ k ≤ 2 ^ 15 := Nat.pow_le_pow_right (by decide) h
  omega
theorem row_zero16 (w : World) (f : Nat → Nat) (hf : ∀ h, h < 16 → f h = 0) : (w.alloc (.cells (Array.replicate 16 (Value.int .u16 0)) 58)).rowIs w.heap.size 58 16 (fun h => .int .u16 (f h : Nat)) := by
  have h := World.rowIs_alloc w (Array.replicate 16 (Value.int .u16 0)) 58 (fun h => .int .u16 (f h : Nat)) (fun i hi => by
    rw [Array.size_replicate] at hi
    rw [Array.getElem?_replicate, if_pos hi, hf i hi]; rfl)
  rwa [Array.size_replicate] at h
theorem row_first (w : World) : ((w.alloc (.cells (Array.replicate 16 (Value.int .u16 0)) 58)).alloc (.cells (Array.replicate 16 (Value.int .u16 0)) 58)).rowIs w.heap.size 58 16 (fun h => .int .u16 (IM 0 h : Nat)) :=
  (row_zero16 w (IM 0) (fun h hh => (im_zero h hh).1)).alloc _
theorem row_second (w : World) : ((w.alloc (.cells (Array.replicate 16 (Value.int .u16 0)) 58)).alloc (.cells (Array.replicate 16 (Value.int .u16 0)) 58)).rowIs (w.heap.size + 1) 58 16 (fun h => .int .u16 (FR 0 h : Nat)) := by
  have h := row_zero16 (w.alloc (.cells (Array.replicate 16 (Value.int .u16 0)) 58)) (FR 0) (fun h hh => (im_zero h hh).2)
  simpa using h

set_option maxHeartbeats 4000000 in
set_option maxRecDepth 100000 in
theorem refRoot_nat (a : Nat) (w : World) (ha : a < 65536) :
    Calls Tryd.prog 44 #[.int .u16 (a : Int)] w fun e w' => e = .returned (.tuple #[.int .u16 (rr a : Nat), .int .i64 (re a : Nat)]) ∧ Below w.heap.size w w' := by
  have hz := fun w => zero_16 w
  go_enter Tryd.func44, Tryd.ntmps44
  go_wp2
  go_loopw [6] (fun jv wr => ∃ j : Nat, j ≤ 15 ∧ jv = .int .i64 ((j : Int) + 1) ∧ wr.rowIs w.heap.size 58 16 (fun h => .int .u16 (IM j h : Nat)) ∧ wr.rowIs (w.heap.size + 1) 58 16 (fun h => .int .u16 (FR j h : Nat)) ∧
      Below w.heap.size w wr ∧ wr.heap.size = w.heap.size + 2) (fun jv _ => 16 - (intOf jv).toNat)
  case atStart => exact ⟨0, by decide, rfl, row_first w, row_second w, ((Below.refl _ _).alloc (Nat.le_refl _) _).alloc (by simp) _, by simp⟩
  case round =>
    obtain ⟨j, hj, rfl, hI, hF, hb, hsz⟩ := hrel
    by_cases hlt : j < 15
    · obtain ⟨Y, hY⟩ : ∃ Y, Y = 2 ^ (j + 1) := ⟨_, rfl⟩
      have P1 : Y < 65536 := by rw [hY]; exact pow_lt16 (by omega)
      have E : IntKind.u16.wrap (2 ^ (j + 1)) = (Y : Int) := by
        have e : ((2 : Int) ^ (j + 1)) = ((2 ^ (j + 1) : Nat) : Int) := by simp
        rw [e, ← hY, IntKind.wrap_u16]; omega
      have c1 := fun w => refMulH_nat Y Y w P1 P1
      obtain ⟨T, hT⟩ : ∃ T, ins j 16 (hs 65581 Y) Y = T := ⟨_, rfl⟩
      have NX := ins_all j hlt
      rw [← hY, hT] at NX
      have X := u16_xor_nat (fm 65581 Y Y) Y (fm16_lt _ _) P1
      have hv0 : fm 65581 Y Y ^^^ Y < 65536 := fld16.hs_lt P1
      have HT : Hid (ins j 16 (fm 65581 Y Y ^^^ Y) Y = T) := hT
      have HN : Hid (∀ h, h < 16 → nxt j T h = (IM (j + 1) h, FR (j + 1) h)) := NX
      have HR : Hid (wr.rowIs w.heap.size 58 16 (fun h => .int .u16 (IM j h : Nat)) ∧ wr.rowIs (w.heap.size + 1) 58 16 (fun h => .int .u16 (FR j h : Nat)) ∧ Below w.heap.size w wr ∧ wr.heap.size = w.heap.size + 2) := ⟨hI, hF, hb, hsz⟩
      clear hT NX hI hF hb hsz hY
      go_wp2_with (go_at_call 33; ((with_reducible refine (c1 _).mono ?_); rintro e w' ⟨rfl, rfl⟩))
      generalize fm 65581 Y Y ^^^ Y = V0 at *
      go_loopw [7, 8, 9] (fun yv vv hv wq => ∃ y v h : Nat, h ≤ 16 ∧ y < 65536 ∧ v < 65536 ∧ ins j h v y = T ∧ yv = .int .u16 y ∧ vv = .int .u16 v ∧ hv = .int .i64 ((h : Int) - 1) ∧
          wq.rowIs w.heap.size 58 16 (fun h => .int .u16 (IM j h : Nat)) ∧ wq.rowIs (w.heap.size + 1) 58 16 (fun h => .int .u16 (FR j h : Nat)) ∧ Below w.heap.size w wq ∧ wq.heap.size = w.heap.size + 2) (fun _ _ hv _ => (intOf hv + 1).toNat)
      case atStart => exact ⟨Y, V0, 16, by decide, P1, hv0, HT.out, rfl, rfl, rfl, HR.out⟩
      case round =>
        obtain ⟨y, v, h, hh, hy, hv, hi, rfl, rfl, rfl, hI, hF, hb, hsz⟩ := hrel
        clear HR
        cases h with
        | zero =>
          have NX := HN.out
          rw [← hi] at NX
          have HR : Hid (wr.rowIs w.heap.size 58 16 (fun h => .int .u16 (IM (j + 1) h : Nat)) ∧ wr.rowIs (w.heap.size + 1) 58 16 (fun h => .int .u16 (FR (j + 1) h : Nat)) ∧ Below w.heap.size w wr ∧ wr.heap.size = w.heap.size + 2) :=
            ⟨hI.congr (fun h hh => by have := congrArg Prod.fst (NX h hh); simp only [ins, nxt] at this; rw [this]), hF.congr (fun h hh => by have := congrArg Prod.snd (NX h hh); simp only [ins, nxt] at this; rw [this]), hb, hsz⟩
          clear hI hF hb hsz NX hi
          go_wp2
          go_roundw
          case rel => exact ⟨j + 1, by omega, by go_num, HR.out⟩
          case measure => simp [intOf]; omega
        | succ k =>
          have hk1 : (((k + 1 : Nat) : Int) - 1) = (k : Int) := by omega
          rw [hk1]
          have A1 := and16 v k hv
          have q1 := hI.cell (i := k) (by omega)
          have f1 := hI.frozen k
          have q2 := hF.cell (i := k) (by omega)
          have f2 := hF.frozen k
          have kb : ((k : Nat) : Int) < 16 := by omega
          obtain ⟨m1, m2⟩ := im_lt j (by omega) k (by omega)
          have HR : Hid (wr.rowIs w.heap.size 58 16 (fun h => .int .u16 (IM j h : Nat)) ∧ wr.rowIs (w.heap.size + 1) 58 16 (fun h => .int .u16 (FR j h : Nat)) ∧ Below w.heap.size w wr ∧ wr.heap.size = w.heap.size + 2) := ⟨hI, hF, hb, hsz⟩
          clear hI hF hb hsz
          simp only [ins] at hi
          by_cases h0 : v / 2 ^ k % 2 = 0
          · rw [h0] at A1
            rw [if_pos h0] at hi
            have HI : Hid (ins j k v y = T) := hi
            clear hi h0
            go_wp2
            go_roundw
            case rel => exact ⟨y, v, k, by omega, hy, hv, HI.out, rfl, rfl, by go_num, HR.out⟩
            case measure => simp [intOf]
          · have h1 : v / 2 ^ k % 2 = 1 := by omega
            rw [h1] at A1
            rw [if_neg h0] at hi
            by_cases h2 : IM j k = 0
            · rw [if_pos h2] at hi
              rw [h2] at q1
              have HI : Hid (some (k, v, y) = T) := hi
              clear hi h0 h1 h2
              go_wp2
              go_roundw
              case rel =>
                obtain ⟨g1, g2, g3, g4⟩ := HR.out
                have NX := HN.out
                rw [← HI.out] at NX
                refine ⟨j + 1, by omega, by go_num, ?_, ?_, ((g3.setCell (by simp) _).setCell (by simp) _), by simp [g4]⟩
                · refine (World.rowIs.setOther (World.rowIs.set g1 k _) (a := ⟨w.heap.size + 1, k, none⟩) (by simp) _).congr (fun h hh => ?_)
                  have e := congrArg Prod.fst (NX h hh)
                  by_cases e2 : h = k
                  · simp only [nxt, if_pos e2] at e ⊢; rw [← e]
                  · simp only [nxt, if_neg e2] at e ⊢; rw [← e]
                · refine (World.rowIs.set (World.rowIs.setOther g2 (a := ⟨w.heap.size, k, none⟩) (by simp) _) k _).congr (fun h hh => ?_)
                  have e := congrArg Prod.snd (NX h hh)
                  by_cases e2 : h = k
                  · simp only [nxt, if_pos e2] at e ⊢; rw [← e]
                  · simp only [nxt, if_neg e2] at e ⊢; rw [← e]
              case measure => simp [intOf]; omega
            · rw [if_neg h2] at hi
              have T0 : (((IM j k : Nat) : Int) == 0) = false := by simp; omega
              have X1 := u16_xor_nat v (IM j k) hv m1
              have X2 := u16_xor_nat y (FR j k) hy m2
              have x1 : v ^^^ IM j k < 65536 := Nat.xor_lt_two_pow (n := 16) hv m1
              have x2 : y ^^^ FR j k < 65536 := Nat.xor_lt_two_pow (n := 16) hy m2
              have HI : Hid (ins j k (v ^^^ IM j k) (y ^^^ FR j k) = T) := hi
              clear hi h0 h1 h2
              go_wp2
              go_roundw
              case rel => exact ⟨_, _, k, by omega, x2, x1, HI.out, rfl, rfl, by go_num, HR.out⟩
              case measure => simp [intOf]
    · have hj15 : j = 15 := by omega
      subst hj15
      have HR : Hid (wr.rowIs w.heap.size 58 16 (fun h => .int .u16 (IM 15 h : Nat)) ∧ wr.rowIs (w.heap.size + 1) 58 16 (fun h => .int .u16 (FR 15 h : Nat)) ∧ Below w.heap.size w wr) := ⟨hI, hF, hb⟩
      obtain ⟨wA, hwA⟩ : ∃ wA : World, wA = wr := ⟨_, rfl⟩
      subst hwA
      clear hI hF hb hsz
      go_wp2
      go_loopw [0, 10, 11] (fun av rv hv wq => ∃ A R h : Nat, h ≤ 16 ∧ A < 2 ^ h ∧ R < 65536 ∧ R % 2 = 0 ∧ hs 65581 R ^^^ A = a ∧ av = .int .u16 A ∧ rv = .int .u16 R ∧ hv = .int .i64 ((h : Int) - 1) ∧ wq = wA) (fun _ _ hv _ => (intOf hv + 1).toNat)
      case atStart => exact ⟨a, 0, 16, by decide, ha, by decide, by decide, by rw [fld16.hs_zero, Nat.zero_xor], rfl, rfl, rfl, rfl⟩
      case round =>
        obtain ⟨A, R, h, hh, hA, hR, hRe, he, rfl, rfl, rfl, hwq⟩ := hrel
        obtain ⟨hI, hF, hb⟩ := HR.out
        rw [← hwq] at hI hF hb
        cases h with
        | zero =>
          have hA0 : A = 0 := by omega
          subst hA0
          rw [Nat.xor_zero] at he
          have ht : tr 65581 16 a = 0 := by rw [← he]; exact fld16.tr_hs hR
          have hw := root16_only hR hRe he
          have HW : Hid (rr a = R ∧ re a = 0) := ⟨(rr_yes ht).1.trans hw.symm, (rr_yes ht).2⟩
          have HB : Hid (Below w.heap.size w wr) := hb
          clear hI hF hb ht hw he hwq
          go_wp2
          go_ret2
          rw [HW.out.1, HW.out.2]
          exact ⟨rfl, HB.out⟩
        | succ k =>
          have hk1 : (((k + 1 : Nat) : Int) - 1) = (k : Int) := by omega
          rw [hk1]
          have hA6 : A < 65536 := by
            have : 2 ^ (k + 1) ≤ 2 ^ 16 := Nat.pow_le_pow_right (by decide) hh
            omega
          have A1 := and16 A k hA6
          have q1 := hI.cell (i := k) (by omega)
          have q2 := hF.cell (i := k) (by omega)
          have kb : ((k : Nat) : Int) < 16 := by omega
          have HB : Hid (Below w.heap.size w wr ∧ wr = wA) := ⟨hb, hwq⟩
          clear hI hF hb
          by_cases h0 : A / 2 ^ k % 2 = 0
          · have hA2 := low_half hA h0
            rw [h0] at A1
            have HE : Hid (hs 65581 R ^^^ A = a) := he
            clear he h0
            clear hwq
            go_wp2
            go_roundw
            case rel => exact ⟨A, R, k, by omega, hA2, hR, hRe, HE.out, rfl, rfl, by go_num, HB.out.2⟩
            case measure => simp [intOf]
          · have h1 : A / 2 ^ k % 2 = 1 := by omega
            rw [h1] at A1
            by_cases h11 : k = 11
            · have e0 : IM 15 k = 0 := by rw [h11]; exact im_none
              rw [e0] at q1
              have ht : tr 65581 16 a = 1 := by
                rw [h11] at hA h1
                rw [← he, fld16.tr_xor, fld16.tr_hs hR, tr_top hA h1]; rfl
              have HW : Hid (rr a = 0 ∧ re a = 30) := rr_no ht
              clear he h0 h1 ht hwq h11 e0
              go_wp2
              go_ret2
              rw [HW.out.1, HW.out.2]
              exact ⟨rfl, HB.out.1⟩
            · obtain ⟨t1, t2, t3⟩ := im_top k (by omega) h11
              obtain ⟨m1, m2⟩ := im_lt 15 (by decide) k (by omega)
              have hd := drop_top (by omega) h11 hA h1
              have T0 : (((IM 15 k : Nat) : Int) == 0) = false := by
                have : IM 15 k ≠ 0 := by intro e; rw [e, len_zero] at t1; omega
                simp; omega
              have X1 := u16_xor_nat A (IM 15 k) hA6 m1
              have X2 := u16_xor_nat R (FR 15 k) hR m2
              have x2 : R ^^^ FR 15 k < 65536 := Nat.xor_lt_two_pow (n := 16) hR m2
              have x3 : (R ^^^ FR 15 k) % 2 = 0 := by rw [odd_xor, hRe, t3]
              have HE : Hid (hs 65581 (R ^^^ FR 15 k) ^^^ (A ^^^ IM 15 k) = a) := by
                show hs 65581 (R ^^^ FR 15 k) ^^^ (A ^^^ IM 15 k) = a
                rw [fld16.hs_xor, t2, ← he]
                have : hs 65581 R ^^^ IM 15 k ^^^ (A ^^^ IM 15 k) = hs 65581 R ^^^ A ^^^ (IM 15 k ^^^ IM 15 k) := by ac_rfl
                rw [this, Nat.xor_self, Nat.xor_zero]
              clear he h0 h1 hwq t1 t2 t3
              go_wp2
              go_roundw
              case rel => exact ⟨_, _, k, by omega, hd, x2, x3, HE.out, rfl, rfl, by go_num, HB.out.2⟩
              case measure => simp [intOf]
end Go.Proofs.YtidcdbjhkgpjcaaDoor
