import Derived.Test.YtidcdbjhkgpjcaaDoorLtn
import Derived.Test.YtidcdbjhkgpjcaaDoorTj3
namespace Go.Proofs.YtidcdbjhkgpjcaaDoor
open Gf2
set_option linter.unusedVariables false

-- the product over the zeros, in powers of x, is the subspace polynomial
theorem fp_qp (x : Nat) (hx : x < 65536) : ∀ t, fp 65581 x (2 ^ t) = qp t x := by
  intro t
  induction t with
  | zero => show fp 65581 x 1 = x; exact fld16.fp_one hx
  | succ t ih =>
    rw [Nat.pow_succ, Nat.mul_two, fld16.fp_add, ih]
    rfl
/-- its value at x. -/
theorem pe_sp (i x : Nat) (hx : x < 65536) : pe 65581 x (2 ^ i + 1) (sp i) = ls i (i + 1) x := by
  show sx (2 ^ i + 1) (fun a => fm 65581 (sp i a) (fp 65581 x a)) = _
  have h1 : ∀ a, a < 2 ^ i + 1 → fm 65581 (sp i a) (fp 65581 x a) = sx (i + 1) (fun t => if a = 2 ^ t then fm 65581 (oc t i) (qp t x) else 0) := by
    intro a ha
    show fm 65581 (sx (i + 1) _) _ = _
    rw [fm_comm, fld16.fm_sx]
    refine sx_congr (fun t ht => ?_)
    by_cases e : a = 2 ^ t
    · rw [if_pos e, if_pos e, e, fp_qp x hx, fm_comm]
    · rw [if_neg e, if_neg e, fld16.fm_zero]
  rw [sx_congr h1]
  have swap : ∀ (m n : Nat) (f : Nat → Nat → Nat), sx m (fun a => sx n (fun t => f a t)) = sx n (fun t => sx m (fun a => f a t)) := by
    intro m n f
    induction m with
    | zero => exact (sx_zero (fun _ _ => rfl)).symm
    | succ m ih =>
      show sx m _ ^^^ sx n _ = sx n (fun t => sx m (fun a => f a t) ^^^ f m t)
      rw [ih, sx_xor]
  rw [swap]
  have h2 : ∀ T, ls i T x = sx T (fun t => fm 65581 (oc t i) (qp t x)) := by
    intro T
    induction T with
    | zero => rfl
    | succ T ih => show ls i T x ^^^ _ = _; rw [ih]; rfl
  rw [h2]
  refine sx_congr (fun t ht => ?_)
  have : 2 ^ t ≤ 2 ^ i := Nat.pow_le_pow_right (by decide) (by omega)
  rw [sx_one (k := 2 ^ t) (by omega) (fun a ha hne => if_neg hne), if_pos rfl]
theorem sp_top {i : Nat} (hi : i ≤ 16) : sp i (2 ^ i) = 1 := by
  show sx i _ ^^^ (if 2 ^ i = 2 ^ i then oc i i else 0) = 1
  rw [if_pos rfl, (oc_top i hi).1, sx_zero (fun t ht => if_neg (fun e => pow_ne ht e.symm)), Nat.zero_xor]
theorem we_inj {i j : Nat} (hi : i < 65536) (hj : j < 65536) (e : we i = we j) : i = j := by rw [← wi_we hi, e, wi_we hj]
theorem cnt_in {pts : Nat → Nat} {y : Nat} : ∀ n j, j < n → pts j = y → 0 < cnt pts y n := by
  intro n
  induction n with
  | zero => intro j hj; omega
  | succ n ih =>
    intro j hj e
    show 0 < cnt pts y n + (if pts n = y then 1 else 0)
    by_cases h : j = n
    · subst h; rw [if_pos e]; omega
    · have := ih j (by omega) e; omega
theorem vanish_sp {i : Nat} (hi : i ≤ 15) {pts : Nat → Nat} (hp : ∀ j, j < 2 ^ i → pts j = we j) : pv 65581 pts (2 ^ i) = sp i := by
  have hN : 2 ^ i ≤ 32768 := Nat.pow_le_pow_right (by decide) hi
  have hpl : ∀ j, j < 2 ^ i → pts j < 2 ^ 16 := fun j hj => by rw [hp j hj]; exact we_lt j
  have hdg : Dg (pa (pv 65581 pts (2 ^ i)) (sp i)) (2 ^ i) := fun y hy => by
    show pv 65581 pts (2 ^ i) y ^^^ sp i y = 0
    by_cases e : y = 2 ^ i
    · rw [e, fld16.pv_top, sp_top (by omega)]; rfl
    · rw [fld16.pv_dg pts (2 ^ i) y (by omega), sp_dg i y (by omega)]; rfl
  apply pa_eq_pz
  refine fld16.roots_pz (n := 2 ^ i) (pts := we) (El.pa (fld16.el_pv pts _) (sp_el i)) hdg (fun j _ => we_lt j) (fun a b ha hb e => we_inj (by omega) (by omega) e) (fun j hj => ?_)
  rw [← fld16.pe_cut (we j) hdg (show 2 ^ i ≤ 2 ^ i + 1 by omega), fld16.pe_pa, pe_sp i (we j) (we_lt j), ls_sv (we_lt j) i (by omega), sv_we (by omega) i, Nat.div_eq_of_lt hj]
  rw [(fld16.pv_root (we_lt j) (2 ^ i) hpl).2 (cnt_in (2 ^ i) j hj (hp j hj))]
  decide
end Go.Proofs.YtidcdbjhkgpjcaaDoor
