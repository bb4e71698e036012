import Derived.Test.YtlblkckglelbdaaGreatMwbn
import Derived.Test.YtlblkckglelbdaaGreatMwbp
namespace Go.Proofs.YtlblkckglelbdaaGreat
open Go.RowKit Gf2
set_option linter.unusedVariables false

-- the top's own same, lists of any lengths
theorem str_t {w : World} {a : Option Addr} {n cap : Nat} {S : Nat → Nat} (h : Rb w (.slice a n cap) n S) (q : Nat) :
    (convert 27 9 (.slice a n cap)).run Tryz.prog (w.drewN q) = .ok (.string (sb11 n S)) (w.drewN q) := by
  by_cases h0 : n = 0
  · subst h0
    cases a with
    | none => kernel_rfl
    | some a => kernel_rfl
  · have h2 := h
    obtain ⟨-, -, x, cx, e, -, -, h4⟩ := h2
    cases e
    obtain ⟨b, o, rfl, -⟩ := h4 (by omega)
    exact str11 h (by omega) q
set_option maxHeartbeats 2000000 in
set_option maxRecDepth 100000 in
theorem same_t (aU : Option Addr) (cU : Nat) (aV : Option Addr) (cV m : Nat) (n : Nat → Nat) (S T : Nat → Nat → Nat) (w : World) (h : Lb w (.slice aU m cU) m n S) (k : Lb w (.slice aV m cV) m n T) (hm2 : m ≤ 1000) (e : ∀ i, i < m → ∀ j, j < n i → S i j = T i j) :
    Calls Tryz.prog 7 #[.slice aU m cU, .slice aV m cV] w fun e w' => e = .returned (.bool true) ∧ ∃ q, w' = w.drewN q := by
  obtain ⟨xu, cu, hU⟩ := lb_all8 h
  obtain ⟨xv, cv, hV⟩ := lb_all8 k
  have HU : Hid (∀ W, Below w.heap.size w W → (∀ x, x < m → ∃ b o, aU = some ⟨b, o, none⟩ ∧ W.cell? ⟨b, o + x, none⟩ = some (.slice (xu x) (n x) (cu x))) ∧ ∀ x, x < m → Rb W (.slice (xu x) (n x) (cu x)) (n x) (S x)) := hU
  have HV : Hid (∀ W, Below w.heap.size w W → (∀ x, x < m → ∃ b o, aV = some ⟨b, o, none⟩ ∧ W.cell? ⟨b, o + x, none⟩ = some (.slice (xv x) (n x) (cv x))) ∧ ∀ x, x < m → Rb W (.slice (xv x) (n x) (cv x)) (n x) (T x)) := hV
  have HN : Hid (m ≤ 1000) := hm2
  have HE : Hid (∀ i, i < m → sb11 (n i) (T i) = sb11 (n i) (S i)) := fun i hi => sb11_congr (fun j hj => (e i hi j hj).symm)
  clear hU hV hm2 h k e
  go_enter Tryz.func7, Tryz.ntmps7
  go_wp2
  go_loopw [13] (fun i wr => ∃ r q : Nat, r ≤ m ∧ i = .int .i64 r ∧ Hid (wr = w.drewN q)) (fun i _ => m - (intOf i).toNat)
  case atStart => exact ⟨0, 0, Nat.zero_le _, rfl, rfl⟩
  case round =>
    obtain ⟨r, q, hr, rfl, hw⟩ := hrel
    by_cases hlt : r < m
    · have hbr : Below w.heap.size w wr := by rw [hw.out]; exact below_drewN (Below.refl _ _) q
      obtain ⟨b, o, rfl, q1⟩ := (HU.out wr hbr).1 r hlt
      obtain ⟨b', o', rfl, q2⟩ := (HV.out wr hbr).1 r hlt
      have kc1 := str_t ((HU.out wr hbr).2 r hlt)
      have kc2 := str_t ((HV.out wr hbr).2 r hlt)
      rw [HE.out r hlt] at kc2
      have ib : ((r : Nat) : Int) < (m : Int) := Int.ofNat_lt.2 hlt
      have W1 := wrap_lt8 hlt HN.out
      have HX : Hid (r < m) := hlt
      generalize sb11 (n r) (S r) = s at kc1 kc2
      generalize xu r = ax at q1 kc1
      generalize cu r = cx at q1 kc1
      generalize xv r = ax' at q2 kc2
      generalize cv r = cx' at q2 kc2
      generalize n r = nr at q1 q2 kc1 kc2
      clear hbr HU HV HE hlt hr
      go_wp2
      go_quiet (fail)
      go_wp2
      go_roundw
      case rel => exact ⟨r + 1, q + nq, HX.out, by first | rfl | (rw [W1]; rfl), by show _ = _; rw [hw.out, World.drewN_drewN]⟩
      case measure => first | exact meas_lt8 HX.out | (rw [W1]; exact meas_lt8 HX.out)
    · have hkm : r = m := by omega
      subst hkm
      have HQ : Hid (∃ q, wr = w.drewN q) := ⟨q, hw.out⟩
      clear hw HU HV HE hlt hr
      go_wp2
      go_ret
      exact ⟨rfl, HQ.out⟩
end Go.Proofs.YtlblkckglelbdaaGreat
