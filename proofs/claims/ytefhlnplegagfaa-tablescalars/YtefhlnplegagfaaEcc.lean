import Derived.Test.YtefhlnplegagfaaEcb
namespace Go.Proofs.Ytefhlnplegagfaa
open Go.RowKit Gf2
set_option linter.unusedVariables false

/-- what stands at the end of TableScalars' beginning. -/
def ZS (w W : World) (p : Addr) (hi g1 g2 n c : Nat) (X : Nat → Nat) : Prop := Below w.heap.size w W ∧ Ker W p w.heap.size hi ∧ Rw W g1 256 (fun i => fm 285 c i) ∧ Rw W g2 n (fun i => fm 285 c (X i))
theorem ZS.drewN {w W : World} {p : Addr} {hi g1 g2 n c : Nat} {X : Nat → Nat} (h : ZS w W p hi g1 g2 n c X) (m : Nat) : ZS w (W.drewN m) p hi g1 g2 n c X := ⟨below_drewN h.1 m, h.2.1.drewN m, h.2.2.1.drewN m, h.2.2.2.drewN m⟩

theorem scal_mul {w w1 w2 w3 w4 : World} {p : Addr} {hi n c cx : Nat} {x : Option Addr} {X : Nat → Nat} (hc : c < 256) (hx : Rb w (.slice x n cx) n X) (hk1 : Ker w1 p w.heap.size hi) (b1 : Below w.heap.size w w1) (r2 : Rw w2 w1.heap.size 256 (fun i => fm 285 c i)) (b2 : Below w1.heap.size w1 w2)
    (r3 : Rw w3 w2.heap.size n (fun _ => 0)) (b3 : Below w2.heap.size w2 w3) (b4 : Below w3.heap.size w3 w4) :
    Calls Try.prog 13 #[.pointer (some p), .int .u8 (c : Int), .slice (some ⟨w2.heap.size, 0, none⟩) n n, .slice x n cx] w4 fun e w' => e = .returned (.int .i64 0) ∧ ZS w w' p hi w1.heap.size w2.heap.size n c X := by
  have l1 := b1.size
  have l2 := b2.size
  have l3 := b3.size
  have lr := r2.lt
  have hh := hk1.hi
  have hlo := hk1.lo
  have b14 : Below w1.heap.size w1 w4 := (b2.trans (b3.mono l2)).trans (b4.mono (by omega))
  have b04 := b1.trans (b14.mono l1)
  have k4 := ker_below hk1 b14
  have hx' : Far w4 w2.heap.size n x X := by
    obtain ⟨q1, q2, a, c', q3, q5, q6, q4⟩ := hx.rbb.below b04
    cases q3
    refine ⟨q2, fun h0 => ?_⟩
    obtain ⟨b, o, e, m1, m2, hcl⟩ := q4 h0
    exact ⟨b, o, e, by omega, hcl⟩
  refine (kmul_far p _ hi c n w2.heap.size 0 n _ X _ x n cx w4 k4 hc hx.1 (.inr (by omega)) (rw_below r3 b4) (fun _ => ⟨rfl, by omega⟩) hx').mono fun e w' ⟨a1, a2, a3⟩ => ⟨a1, b04.trans (a2.below (by omega)), ker_only k4 a2 (.inr (by omega)), a2.rw_ (rw_below (rw_below r2 b3) b4) (by omega), a3.congr (fun i hi => ?_)⟩
  have := pl_in (F := fun _ => 0) (o := 0) (S := fun i => fm 285 c (X i)) hi
  rwa [Nat.zero_add] at this

set_option maxHeartbeats 4000000 in
set_option maxRecDepth 100000 in
theorem scal_walk (c n : Nat) (x : Option Addr) (cx : Nat) (X : Nat → Nat) (w : World) (hc : c < 256) (hx : Rb w (.slice x n cx) n X) (hn : n ≤ 140737488351232) :
    Calls Try.prog 6 #[.int .u8 (c : Int), .slice x n cx] w fun e w' => e = .returned (.bool true) ∧ Below w.heap.size w w' := by
  have cA := awake5_any w
  have hnb : n ≤ 140737488355328 := by omega
  have hrow := fun p hi W (hk : Ker W p w.heap.size hi) => krow_any p w.heap.size hi c W hk hc
  have hz := fun W => zeros5_any n W hnb
  have hag := fun p hi W (hk : Ker W p w.heap.size hi) (hb : Below w.heap.size w W) => again5_any p w.heap.size hi c n x cx X W hk hc (hx.below hb) hn
  have hm := fun w1 w2 w3 w4 p hi (hk1 : Ker w1 p w.heap.size hi) b1 r2 b2 r3 b3 b4 => scal_mul (w := w) (w1 := w1) (w2 := w2) (w3 := w3) (w4 := w4) hc hx hk1 b1 r2 b2 r3 b3 b4
  have hb8 := hx.1
  go_enter Try.func6, Try.ntmps6
  go_wp2_with (first
    | (go_at_call 10; (with_reducible refine cA.mono ?_); rintro e w1 ⟨p, hi, rfl, hk1, hb1⟩; have hrow1 := hrow p hi w1 hk1)
    | (go_at_call 16; (with_reducible refine hrow1.mono ?_); rintro e w2 ⟨rfl, r2, b2, s2⟩; clear s2)
    | (go_at_call 12; (with_reducible refine (hz _).mono ?_); rintro e w3 ⟨rfl, hw3⟩; have r3 : Rw w3 w2.heap.size n (fun _ => 0) := hw3 ▸ made_rw n hnb w2; have b3 : Below w2.heap.size w2 w3 := hw3 ▸ ((Below.refl _ _).alloc (Nat.le_refl _) _); have l3 := hb1.size; have l4 := b2.size; have k3 := ker_below (ker_below hk1 b2) b3; have b03 := (hb1.trans (b2.mono hb1.size)).trans (b3.mono (Nat.le_trans l3 l4)); have hag1 := hag p hi w3 k3 b03; clear hw3 l3 l4)
    | (go_at_call 17; (with_reducible refine hag1.mono ?_); rintro e w4 ⟨rfl, b4⟩; have hm1 := hm w1 w2 w3 w4 p hi hk1 hb1 r2 b2 r3 b3 b4)
    | (go_at_call 13; (with_reducible refine hm1.mono ?_); rintro e w5 ⟨rfl, hZ⟩))
  obtain ⟨G1, hG1⟩ : ∃ G, G = w1.heap.size := ⟨_, rfl⟩
  clear hm1 hag1 r2 r3 b2 b3 b4 k3 b03 hrow1 hrow hz hag hm hk1 hb1 cA
  go_loopw [9] (fun i wr => ∃ k m : Nat, k ≤ n ∧ i = .int .i64 k ∧ wr = w5.drewN m) (fun i _ => n - (intOf i).toNat)
  case atStart => exact ⟨0, 0, Nat.zero_le _, rfl, rfl⟩
  case round =>
    obtain ⟨k, m, hk, rfl, hw⟩ := hrel
    by_cases hlt : k < n
    · have H := hZ.drewN m
      rw [← hw] at H
      obtain ⟨-, hX, a', c', e', -, -, h4⟩ := hx
      cases e'
      obtain ⟨bx, ox, rfl, hbx, hcl⟩ := h4 (by omega)
      have lX := hX k hlt
      have qx := (H.1.cell (p := ⟨bx, ox + k, none⟩) hbx).trans (hcl k hlt)
      have qd := H.2.2.2.2.2.cell hlt
      have qr := H.2.2.1.2.2.cell (i := X k) lX
      dsimp only at qd qr
      have cG := fun W => gmul_nat c (X k) W hc lX
      have cP := kprod_any p w.heap.size hi c (X k) wr H.2.1 hc lX
      have ib : ((k : Nat) : Int) < (n : Int) := by omega
      have ix : ((X k : Nat) : Int) < 256 := by omega
      have W1 := wrap_succ8 (j := k) (by omega)
      have HW : Hid (wr = w5.drewN m) := hw
      clear H hX h4 hcl hn hnb hb8 hw lX
      go_wp2_with (first | (go_at_call 18; ((with_reducible refine (cG _).mono ?_); (rintro e w9 ⟨rfl, hw9⟩; have hw9 := hw9.symm; subst hw9))) | (go_at_call 19; ((with_reducible refine (cP).mono ?_); (rintro e w9 ⟨rfl, m9, hw9⟩; rw [HW.out, World.drewN_drewN] at hw9))))
      go_roundw
      case rel => exact ⟨k + 1, m + m9, hlt, by first | rfl | (rw [W1]; rfl), by first | rfl | exact hw9⟩
      case measure => first | exact meas_lt8 hlt | (rw [W1]; exact meas_lt8 hlt)
    · have hkn : k = n := by omega
      subst hkn
      clear hx
      go_wp2
      go_ret
      exact ⟨rfl, below_drewN hZ.1 m⟩

theorem scal_any {w : World} (c : Nat) (hc : c < 256) (a : Option Addr) (n ca : Nat) (hu : Rbm w a n ca) :
    Calls Try.prog 6 #[.int .u8 (c : Int), .slice a n ca] w fun e w' => e = .returned (.bool true) ∧ Below w.heap.size w w' := by
  obtain ⟨hm, X, hX⟩ := hu
  exact scal_walk c n a ca X w hc hX hm
end Go.Proofs.Ytefhlnplegagfaa
