import Derived.Test.YtljfpgebekpjgaaWsax
import Derived.Test.YtljfpgebekpjgaaWsay
import Derived.Test.YtljfpgebekpjgaaWsat
import Derived.Test.YtljfpgebekpjgaaWsav
import Derived.Test.YtljfpgebekpjgaaWsal
import Derived.Test.YtljfpgebekpjgaaWsba
import Derived.BigQuiet
namespace Go.Proofs.Ytljfpgebekpjgaa
open Go.RowKit Gf2
set_option linter.unusedVariables false

-- layer 11: Systematic, and what WholeSystematic asks first
theorem sol_lt8 {n : Nat} {S T : Nat → Nat → Nat} (hS : ∀ i j, S i j < 256) (hT : ∀ i j, T i j < 256) (i j : Nat) : sol n S T i j < 256 := (red_elm (m := n) (bes_lt hS hT) n).lt i (n + j)
theorem vdm_full {k : Nat} (hk : k ≤ 256) : (elm k vdm k).t = k := by
  have h := van_full (n := k) (x := fun i => if i < 256 then i else 0) (fun i => by show (if i < 256 then i else 0) < 256; split <;> omega) (fun i j hj hi => by
    show (if i < 256 then i else 0) ≠ (if j < 256 then j else 0)
    rw [if_pos (by omega), if_pos (by omega)]; omega)
  rw [(elm_local (m := k) (C := k) (M := vdm) (M' := van (fun i => if i < 256 then i else 0)) (fun i j hi hj => by
    show fp 285 i j = fp 285 (if i < 256 then i else 0) j
    rw [if_pos (by omega)]) k (Nat.le_refl _)).1]
  exact h
theorem Lb.first8 {w : World} {a : Option Addr} {m k c : Nat} {n : Nat → Nat} {S : Nat → Nat → Nat} (h : Lb w (.slice a m c) m n S) (hk : k ≤ m) : Lb w (.slice a k c) k n S := by
  obtain ⟨V, ⟨h1, a', c', e, h5, h6, h4⟩, hV⟩ := h
  cases e
  exact ⟨V, ⟨by omega, a, c, rfl, by omega, h6, fun h0 => by
    obtain ⟨b, o, e, hl, hc⟩ := h4 (by omega)
    exact ⟨b, o, e, hl, fun i hi => hc i (by omega)⟩⟩, fun i hi => hV i (by omega)⟩
theorem elem_l8p : Try.prog.elem 22 = 28 := by kernel_rfl
theorem size_l8p (W : World) : (sizeOf 28).run Try.prog W = .ok 1 W := by
  have h : (Try.prog.info? 28).map (fun i => i.size) = some 1 := by kernel_rfl
  obtain ⟨i, hi, hs⟩ := Option.map_eq_some_iff.1 h
  simp [sizeOf, typeInfo, hi, hs]
theorem run_headL8 (b o n cx m : Nat) (hm : m ≤ cx) (W : World) : (Instr.slice 22 (.slice (some ⟨b, o, none⟩) n cx) none (some (.int .i64 (m : Int))) none).run Try.prog W = .ok (.slice (some ⟨b, o, none⟩) m cx) W := by
  have hu : Try.prog.underlying 22 = some (.slice (Try.prog.elem 22)) := by rw [elem_l8p]; exact Try.underlying22
  have h := run_slice_h (P := Try.prog) (w := W) 22 (some ⟨b, o, none⟩) n cx hu .i64 (m : Int) (by omega) (by omega)
  have e : (if cx = 0 then some (⟨b, o, none⟩ : Addr) else (some (⟨b, o, none⟩ : Addr)).map (·.add 0)) = some ⟨b, o, none⟩ := by
    split
    · rfl
    · show some ((⟨b, o, none⟩ : Addr).add 0) = _
      rw [Addr.add_lit, Nat.add_zero]
  rw [h, elem_l8p, size_l8p]
  simp only [Result.andThen, sliced, Int.toNat_natCast, Nat.zero_mul, Nat.sub_zero, e]
set_option maxHeartbeats 4000000 in
set_option maxRecDepth 100000 in
/-- of a Vandermonde matrix: Vander's generator. -/
theorem systematic11 (v : Value) (n k : Nat) (w : World) (h : Lb w v n (fun _ => k) vdm) (h1 : 1 ≤ k) (hk : k ≤ n) (hn : n ≤ 256) :
    Calls Try.prog 11 #[v] w fun e w' => ∃ x, e = .returned (.tuple #[x, .int .i64 0]) ∧ Ans w w' x n k (gen11 0 k) := by
  have c1 := check10_yes v n (fun _ => k) vdm w h (fm_n (by omega) hn h1 (by omega))
  obtain ⟨V, ⟨hnb, a, cap, rfl, hcap, h6, h4⟩, hV⟩ := h
  have h : Lb w (.slice a n cap) n (fun _ => k) vdm := ⟨V, ⟨hnb, a, cap, rfl, hcap, h6, h4⟩, hV⟩
  have c2 := invert10_yes (.slice a k cap) k vdm w (h.first8 hk) h1 (by omega) vdm_lt (vdm_full (by omega))
  have HM : Hid (∀ w1 x, Ans w w1 x k k (sol k vdm idm) → Calls Try.prog 36 #[.slice a n cap, x] w1 fun e w' => ∃ y, e = .returned (.tuple #[y, .int .i64 0]) ∧ Ans w w' y n k (gen11 0 k)) := fun w1 x hx => by
    refine (mul10_yes (.slice a n cap) x n k k vdm (sol k vdm idm) w1 (h.below hx.2) hx.lb (by omega) hn h1 (by omega) h1 (by omega)).mono ?_
    rintro e w' ⟨y, a2, a3⟩
    refine ⟨y, a2, (a3.after hx.2).congr (fun i hi j hj => ?_)⟩
    exact sys8 (by omega) (fun c i hc hi => sol_lt8 vdm_lt idm_lt c i) (fun r i hr hi => (sol_inverse vdm_lt (vdm_full (by omega))).2 r i hr hi) i (by omega) j hj
  obtain ⟨b, o, rfl, hbl, hc⟩ := h4 (by omega)
  obtain ⟨x0, y0, z0⟩ : ∃ x y, w.cell? ⟨b, o + 0, none⟩ = some (.slice x k y) := by
    obtain ⟨_, _, x, y, e, _⟩ := hV 0 (by omega)
    exact ⟨x, y, by rw [hc 0 (by omega), e]⟩
  rw [Nat.add_zero] at z0
  have i0 : (0 : Int) < (n : Int) := by omega
  have i0n : 0 < n := by omega
  have ik : ¬ ((n : Nat) : Int) < (k : Int) := by omega
  have ikn : ¬ n < k := by omega
  have s0 := run_headL8 b o n cap k (by omega)
  clear h h4 hc hV hk hn h1 hcap hnb h6
  go_enter Try.func11, Try.ntmps11
  go_wp2_with (first
    | (go_at_call 34; (with_reducible refine c1.mono ?_); rintro e w9 ⟨rfl, hw9⟩; have hw9 := hw9.symm; subst hw9; clear c1)
    | (go_at_call 35; (with_reducible refine c2.mono ?_); rintro e w1 ⟨x1, rfl, hA⟩; have c3 := HM.out w1 x1 hA; clear c2 hA HM)
    | (go_at_call 36; (with_reducible refine c3.mono ?_); rintro e w2 ⟨x2, rfl, hA2⟩; clear c3; have HF : Hid _ := hA2; clear hA2))
  go_ret2
  exact ⟨_, rfl, HF.out⟩
end Go.Proofs.Ytljfpgebekpjgaa
namespace Go.Proofs.Ytljfpgebekpjgaa
open Go.RowKit Gf2
set_option linter.unusedVariables false

-- WholeSystematic: the calls
/-- four rows of two. -/
def lit42 (W : World) (a b c d : Array Value) : World := ((((W.alloc (.cells a 5)).alloc (.cells b 5)).alloc (.cells c 5)).alloc (.cells d 5)).alloc (.cells #[.slice (some ⟨W.heap.size, 0, none⟩) 2 2, .slice (some ⟨W.heap.size + 1, 0, none⟩) 2 2, .slice (some ⟨W.heap.size + 1 + 1, 0, none⟩) 2 2, .slice (some ⟨W.heap.size + 1 + 1 + 1, 0, none⟩) 2 2] 28)
theorem lit42_lb {W : World} {a b c d : Array Value} {F : Nat → Nat → Nat} (ha : a.size = 2) (hb : b.size = 2) (hc : c.size = 2) (hd : d.size = 2) (hF : ∀ i j, i < 4 → j < 2 → F i j < 256)
    (ea : ∀ j, j < 2 → a[j]? = some (.int .u8 (F 0 j : Nat))) (eb : ∀ j, j < 2 → b[j]? = some (.int .u8 (F 1 j : Nat))) (ec : ∀ j, j < 2 → c[j]? = some (.int .u8 (F 2 j : Nat))) (ed : ∀ j, j < 2 → d[j]? = some (.int .u8 (F 3 j : Nat))) :
    Lb (lit42 W a b c d) (.slice (some ⟨W.heap.size + 1 + 1 + 1 + 1, 0, none⟩) 4 4) 4 (fun _ => 2) F ∧ Below W.heap.size W (lit42 W a b c d) := by
  obtain ⟨W1, e1⟩ : ∃ W1, W1 = W.alloc (.cells a 5) := ⟨_, rfl⟩
  obtain ⟨W2, e2⟩ : ∃ W2, W2 = W1.alloc (.cells b 5) := ⟨_, rfl⟩
  obtain ⟨W3, e3⟩ : ∃ W3, W3 = W2.alloc (.cells c 5) := ⟨_, rfl⟩
  obtain ⟨W4, e4⟩ : ∃ W4, W4 = W3.alloc (.cells d 5) := ⟨_, rfl⟩
  have s1 : W1.heap.size = W.heap.size + 1 := by rw [e1]; simp
  have s2 : W2.heap.size = W.heap.size + 1 + 1 := by rw [e2, ← s1]; simp
  have s3 : W3.heap.size = W.heap.size + 1 + 1 + 1 := by rw [e3, ← s2]; simp
  have s4 : W4.heap.size = W.heap.size + 1 + 1 + 1 + 1 := by rw [e4, ← s3]; simp
  have b1 : Below W.heap.size W W1 := by rw [e1]; exact (Below.refl _ _).alloc (Nat.le_refl _) _
  have b2 : Below W.heap.size W W2 := by rw [e2]; exact b1.alloc (by omega) _
  have b3 : Below W.heap.size W W3 := by rw [e3]; exact b2.alloc (by omega) _
  have b4 : Below W.heap.size W W4 := by rw [e4]; exact b3.alloc (by omega) _
  have r0 := new_rw (W := W) (F := F 0) ha (by decide) (fun j hj => hF 0 j (by decide) hj) ea
  rw [← e1] at r0
  have r1 := new_rw (W := W1) (F := F 1) hb (by decide) (fun j hj => hF 1 j (by decide) hj) eb
  have r2 := new_rw (W := W2) (F := F 2) hc (by decide) (fun j hj => hF 2 j (by decide) hj) ec
  have r3 := new_rw (W := W3) (F := F 3) hd (by decide) (fun j hj => hF 3 j (by decide) hj) ed
  have r0 := rw_alloc (rw_alloc (rw_alloc r0 (.cells b 5)) (.cells c 5)) (.cells d 5)
  have r1 := rw_alloc (rw_alloc r1 (.cells c 5)) (.cells d 5)
  have r2 := rw_alloc r2 (.cells d 5)
  rw [← e2, ← e3, ← e4] at r0
  rw [← e2, ← e3, ← e4, s1] at r1
  rw [← e3, ← e4, s2] at r2
  rw [← e4, s3] at r3
  have hW : lit42 W a b c d = W4.alloc (.cells #[.slice (some ⟨W.heap.size, 0, none⟩) 2 2, .slice (some ⟨W.heap.size + 1, 0, none⟩) 2 2, .slice (some ⟨W.heap.size + 1 + 1, 0, none⟩) 2 2, .slice (some ⟨W.heap.size + 1 + 1 + 1, 0, none⟩) 2 2] 28) := by
    unfold lit42; rw [e4, e3, e2, e1]
  rw [hW]
  have hl : (W4.alloc (.cells #[.slice (some ⟨W.heap.size, 0, none⟩) 2 2, .slice (some ⟨W.heap.size + 1, 0, none⟩) 2 2, .slice (some ⟨W.heap.size + 1 + 1, 0, none⟩) 2 2, .slice (some ⟨W.heap.size + 1 + 1 + 1, 0, none⟩) 2 2] 28)).rowIs (W.heap.size + 1 + 1 + 1 + 1) 28 4 (fun i => .slice (some ⟨W.heap.size + i, 0, none⟩) 2 2) := by
    rw [← s4]
    refine ⟨_, heap_alloc_new _ _, rfl, fun i hi => ?_⟩
    match i, hi with
    | 0, _ => rfl
    | 1, _ => rfl
    | 2, _ => rfl
    | 3, _ => rfl
  have rows : ∀ i, i < 4 → Rw W4 (W.heap.size + i) 2 (F i) := fun i hi => by
    match i, hi with
    | 0, _ => exact r0
    | 1, _ => exact r1
    | 2, _ => exact r2
    | 3, _ => exact r3
  refine ⟨⟨fun i => .slice (some ⟨W.heap.size + i, 0, none⟩) 2 2, ⟨by decide, _, _, rfl, Nat.le_refl _, by decide, fun _ => ⟨_, _, rfl, ⟨hl.lt, fun h => h⟩, fun i hi => ?_⟩⟩, fun i hi => ?_⟩, b4.alloc (by omega) _⟩
  · rw [Nat.zero_add]; exact hl.cell hi
  · have r := rw_alloc (rows i hi) (.cells #[.slice (some ⟨W.heap.size, 0, none⟩) 2 2, .slice (some ⟨W.heap.size + 1, 0, none⟩) 2 2, .slice (some ⟨W.heap.size + 1 + 1, 0, none⟩) 2 2, .slice (some ⟨W.heap.size + 1 + 1 + 1, 0, none⟩) 2 2] 28)
    exact r.re (Nat.le_refl _) (Nat.le_refl _) r.1 (fun h => h)
/-- the example's generator. -/
def sy0 (i j : Nat) : Nat := if i = 0 then (if j = 0 then 1 else 0) else if i = 1 then (if j = 0 then 0 else 1) else if i = 2 then (if j = 0 then 3 else 2) else if j = 0 then 2 else 3
theorem sy0_gen : ∀ i, i < 4 → ∀ j, j < 2 → gen11 0 2 i j = sy0 i j := by decide +kernel
theorem sy0_lt (i j : Nat) (_ : i < 4) (_ : j < 2) : sy0 i j < 256 := by
  unfold sy0
  repeat' split
  all_goals decide
theorem sys_first (w0 w : World) (hw : Below w0.heap.size w0 w) : Calls Try.prog 7 #[.int .i64 0, .int .i64 2, .int .i64 2] w fun e W1 => ∃ v, e = .returned (.tuple #[v, .int .i64 0]) ∧
    Calls Try.prog 8 #[v, .slice (some ⟨W1.heap.size + 1 + 1 + 1 + 1, 0, none⟩) 4 4] (((((W1.alloc (.cells #[.int .u8 1, .int .u8 0] 5)).alloc (.cells #[.int .u8 0, .int .u8 1] 5)).alloc (.cells #[.int .u8 3, .int .u8 2] 5)).alloc (.cells #[.int .u8 2, .int .u8 3] 5)).alloc (.cells #[.slice (some ⟨W1.heap.size, 0, none⟩) 2 2, .slice (some ⟨W1.heap.size + 1, 0, none⟩) 2 2, .slice (some ⟨W1.heap.size + 1 + 1, 0, none⟩) 2 2, .slice (some ⟨W1.heap.size + 1 + 1 + 1, 0, none⟩) 2 2] 28)) fun e W2 => e = .returned (.bool true) ∧ Below w0.heap.size w0 W2 := by
  refine (generator11_yes 0 2 2 w (.inl rfl) (by decide) (by decide) (by decide)).mono ?_
  rintro e W1 ⟨v, rfl, hG⟩
  refine ⟨v, rfl, ?_⟩
  have two : ∀ {P : Nat → Prop}, P 0 → P 1 → ∀ j, j < 2 → P j := fun h0 h1 j hj => by
    match j, hj with
    | 0, _ => exact h0
    | 1, _ => exact h1
  obtain ⟨k1, k2⟩ := lit42_lb (W := W1) (a := #[.int .u8 1, .int .u8 0]) (b := #[.int .u8 0, .int .u8 1]) (c := #[.int .u8 3, .int .u8 2]) (d := #[.int .u8 2, .int .u8 3]) (F := sy0) rfl rfl rfl rfl sy0_lt (two rfl rfl) (two rfl rfl) (two rfl rfl) (two rfl rfl)
  refine (same11_true v _ 4 2 (gen11 0 2) sy0 _ (hG.lb.below k2) k1 (by decide) (by decide) (by decide) sy0_gen).mono ?_
  rintro e W2 ⟨rfl, q, rfl⟩
  have h1 := hw.trans (hG.bel.mono hw.size)
  exact ⟨rfl, h1.trans ((below_drewN k2 q).mono h1.size)⟩
/-- what there is ahead of the loops. -/
structure Sy (w W : World) (gb go gc r t k n : Nat) : Prop where
  bel : Below w.heap.size w W
  g : Lb W (.slice (some ⟨gb, go, none⟩) n gc) n (fun _ => k) (gen11 0 k)
  rg : Rg8 W r t
theorem Sy.step {w W W' : World} {gb go gc r t k n : Nat} (h : Sy w W gb go gc r t k n) (hb : Below W.heap.size W W') : Sy w W' gb go gc r t k n := ⟨h.bel.trans (hb.mono h.bel.size), h.g.below hb, h.rg.below hb⟩
theorem sys_a {w W : World} {k m : Nat} (hb : Below w.heap.size w W) (h1 : 1 ≤ k) (h2 : 1 ≤ m) (h3 : k + m ≤ 256) :
    Calls Try.prog 7 #[.int .i64 0, .int .i64 (k : Int), .int .i64 (m : Int)] W fun e W1 => ∃ gb go gc, e = .returned (.tuple #[.slice (some ⟨gb, go, none⟩) (k + m) gc, .int .i64 0]) ∧
    Calls Try.prog 10 #[.int .i64 ((k + m : Nat) : Int), .int .i64 (k : Int)] W1 fun e W2 => ∃ v, e = .returned (.tuple #[v, .int .i64 0]) ∧
    Calls Try.prog 11 #[v] W2 fun e W3 => ∃ s, e = .returned (.tuple #[s, .int .i64 0]) ∧
    Calls Try.prog 8 #[s, .slice (some ⟨gb, go, none⟩) (k + m) gc] W3 fun e W4 => e = .returned (.bool true) ∧
    Calls Try.prog 12 #[] W4 fun e W5 => ∃ r t, e = .returned (.pointer (some ⟨r, 0, none⟩)) ∧ Sy w W5 gb go gc r t k (k + m) := by
  refine (generator11_yes 0 k m W (.inl rfl) h1 h2 h3).mono ?_
  rintro e W1 ⟨g, rfl, hG⟩
  obtain ⟨gb, go, gc, rfl⟩ := hG.lb.head (by omega)
  have b1 := hb.trans (hG.bel.mono hb.size)
  refine ⟨_, _, _, rfl, (vander10_yes (k + m) k W1 (by omega) h3 h1 (by omega)).mono ?_⟩
  rintro e W2 ⟨v, rfl, hV⟩
  have b2 := b1.trans (hV.2.mono b1.size)
  refine ⟨v, rfl, (systematic11 v (k + m) k W2 hV.lb h1 (by omega) h3).mono ?_⟩
  rintro e W3 ⟨s, rfl, hS⟩
  have b3 := b2.trans (hS.2.mono b2.size)
  have b13 := hV.2.trans (hS.2.mono hV.2.size)
  refine ⟨s, rfl, (same11_true s _ (k + m) k (gen11 0 k) (gen11 0 k) W3 hS.lb (hG.lb.below b13) (by omega) (by omega) h1 (fun _ _ _ _ => rfl)).mono ?_⟩
  rintro e W4 ⟨rfl, q, rfl⟩
  refine ⟨rfl, (over8 _).mono ?_⟩
  rintro e W5 ⟨r, t, rfl, hr, -, hb5⟩
  have b4 := below_drewN b3 q
  have b14 : Below W1.heap.size W1 (W3.drewN q) := below_drewN b13 q
  exact ⟨r, t, rfl, b4.trans (hb5.mono b4.size), hG.lb.below (b14.trans (hb5.mono b14.size)), hr⟩
/-- a column: through the points, and at each. -/
theorem sys_b {w W : World} {gb go gc r t k n i : Nat} {xv yv : Value} (h : Sy w W gb go gc r t k n) (hx : Rb W xv k (fun j => j)) (hy : Rb W yv k (fun j => if j = i then 1 else 0)) (h1 : 1 ≤ k) (h3 : k ≤ 256) (hi : i < k) :
    Calls Try.prog 13 #[.pointer (some ⟨r, 0, none⟩), xv, yv] W fun e W1 => ∃ u, e = .returned (.tuple #[u, .int .i64 0]) ∧ Below W.heap.size W W1 ∧
    ∀ x : Nat, x < 256 → ∀ W2, Below W1.heap.size W1 W2 → Calls Try.prog 14 #[.pointer (some ⟨r, 0, none⟩), u, .int .u8 (x : Int)] W2 fun e W3 => e = .returned (.int .u8 (gen11 0 k x i : Nat)) ∧ ∃ q, W3 = W2.drewN q := by
  refine (interp8 r t k xv yv (fun j => j) (fun j => if j = i then 1 else 0) W h.rg hx (fun a b hab _ => hab) hy (by omega)).mono ?_
  rintro e W1 ⟨u, m, f, rfl, hm, hP, hv, hb⟩
  refine ⟨u, rfl, hb, fun x hx W2 hb2 => ?_⟩
  have e1 := eval8 r t x m u f W2 ((h.rg.below hb).below hb2) (hP.below hb2).rb (by omega) hx
  rw [fld8.pe_any x hP.dg (hP.dg.mono hm), only_gen8 hi h3 hP.el (hP.dg.mono hm) (fun t ht => by rw [hv t ht]; rfl) x hx] at e1
  exact e1
end Go.Proofs.Ytljfpgebekpjgaa
namespace Go.Proofs.Ytljfpgebekpjgaa
open Go.RowKit Gf2
set_option linter.unusedVariables false

-- WholeSystematic
theorem made_set8 (W : World) (i j : Nat) : (W.alloc (.cells (madeCells #[.int .u8 0] i) 5)).setCell ⟨W.heap.size, j, none⟩ (.int .u8 1) = W.alloc (.cells ((madeCells #[.int .u8 0] i).setIfInBounds j (.int .u8 1)) 5) := by
  go_simp
theorem idx8 {k k0 p : Nat} (h1 : k = k0 + 1) (hp : p < k) (a : Nat) : (if a = 0 then 0 else if a = 1 then k0 else p) < k := by
  split
  · omega
  · split <;> omega
theorem lit38 (w : World) (k0 p : Nat) : ∀ a, a < 3 → (w.alloc (.cells #[.int .i64 0, .int .i64 (k0 : Int), .int .i64 (p : Int)] 3)).cell? ⟨w.heap.size, a, none⟩ = some (.int .i64 ((if a = 0 then 0 else if a = 1 then k0 else p : Nat) : Int)) := fun a ha => by
  match a, ha with
  | 0, _ => rw [cell_of_row _ _ 0 _ _ _ (heap_alloc_new _ _)]; rfl
  | 1, _ => rw [cell_of_row _ _ 1 _ _ _ (heap_alloc_new _ _)]; rfl
  | 2, _ => rw [cell_of_row _ _ 2 _ _ _ (heap_alloc_new _ _)]; rfl
theorem row_at8 {w : World} {gb go gc n k : Nat} {S : Nat → Nat → Nat} (h : Lb w (.slice (some ⟨gb, go, none⟩) n gc) n (fun _ => k) S) {x i : Nat} (hx : x < n) (hi : i < k) : ∃ rb ro rc, w.cell? ⟨gb, go + x, none⟩ = some (.slice (some ⟨rb, ro, none⟩) k rc) ∧ w.cell? ⟨rb, ro + i, none⟩ = some (.int .u8 (S x i : Nat)) := by
  obtain ⟨V, ⟨h1, a, c, e, h5, h6, h4⟩, hV⟩ := h
  cases e
  obtain ⟨b, o, e, hl, hc⟩ := h4 (by omega)
  cases e
  obtain ⟨r1, r2, ra, rc, e2, r5, r6, r4⟩ := hV x hx
  obtain ⟨rb, ro, e3, -, hrc⟩ := r4 (by show 0 < k; omega)
  subst e3
  exact ⟨rb, ro, rc, by rw [hc x hx, e2], hrc i hi⟩
set_option maxHeartbeats 16000000 in
set_option maxRecDepth 100000 in
theorem sys11_yes (k m : Nat) (more : Int) (w : World) (h1 : 1 ≤ k) (h2 : 1 ≤ m) (h3 : k + m ≤ 256) :
    Calls Try.prog 3 #[.int .i64 (k : Int), .int .i64 (m : Int), .int .i64 more] w fun e w' => e = .returned (.bool true) ∧ Below w.heap.size w w' := by
  have c0 := sys_first w w (Below.refl _ _)
  have c1 := fun x => valid11_yes 0 k m x (.inl rfl) h1 h2 h3
  have HA : Hid (∀ W, Below w.heap.size w W → _) := fun W hb => sys_a (w := w) (W := W) (k := k) (m := m) hb h1 h2 h3
  have W0 : wrap64 ((k : Int) + (m : Int)) = ((k + m : Nat) : Int) := add_small (by omega) (by omega)
  obtain ⟨N, hN⟩ : ∃ N, N = k + m := ⟨_, rfl⟩
  rw [← hN] at HA W0
  obtain ⟨p, hp, Wp⟩ := pick11 more k (by omega) (by omega)
  obtain ⟨k0, hk0⟩ : ∃ k0, k = k0 + 1 := ⟨k - 1, by omega⟩
  have Wk : wrap64 (((k : Nat) : Int) - 1) = ((k0 : Nat) : Int) := by unfold wrap64; omega
  have n0 : ¬ (IntKind.u64.wrap (k : Int) = 0) := by unfold IntKind.wrap; simp [IntKind.bits, IntKind.signed]; omega
  have HN : Hid (1 ≤ k ∧ k + m = N ∧ N ≤ 256 ∧ k = k0 + 1 ∧ p < k) := ⟨h1, hN.symm, by omega, hk0, hp⟩
  clear h1 h2 h3 hN hk0 hp
  go_enter Try.func3, Try.ntmps3
  go_wp2_with (first
    | (go_at_call 7; first
      | ((with_reducible refine c0.mono ?_); rintro e W1 ⟨v1, rfl, c02⟩; clear c0)
      | ((with_reducible refine Calls.mono (HA.out _ HB.out) ?_); rintro e W3 ⟨gb, go, gc, rfl, a2⟩; clear HA HB))
    | (go_at_call 8; first
      | ((with_reducible refine c02.mono ?_); rintro e W2 ⟨rfl, hb2⟩; clear c02; have HB : Hid (Below w.heap.size w W2) := hb2; clear hb2)
      | ((with_reducible refine a4.mono ?_); rintro e W6 ⟨rfl, a5⟩; clear a4))
    | (go_at_call 9; (with_reducible refine (c1 _).mono ?_); rintro e w9 ⟨rfl, hw9⟩; have hw9 := hw9.symm; subst hw9; clear c1)
    | (go_at_call 10; (with_reducible refine a2.mono ?_); rintro e W4 ⟨v4, rfl, a3⟩; clear a2)
    | (go_at_call 11; (with_reducible refine a3.mono ?_); rintro e W5 ⟨v5, rfl, a4⟩; clear a3)
    | (go_at_call 12; (with_reducible refine a5.mono ?_); rintro e W7 ⟨r, t, rfl, hS⟩; clear a5))
  have HS : Hid (Sy w W7 gb go gc r t k N) := hS
  clear hS W0
  go_loopw [14, 15] (fun xs s wr => ∃ i : Nat, i ≤ k ∧ s = .int .i64 (i : Int) ∧ Gw W7 wr xs i (fun j => j)) (fun _ s _ => k - (intOf s).toNat)
  case atStart => exact ⟨0, Nat.zero_le _, rfl, Gw.start _ _⟩
  case round =>
    obtain ⟨i, hi, rfl, hG⟩ := hrel
    by_cases hlt : i < k
    · have ib : ((i : Nat) : Int) < (k : Int) := Int.ofNat_lt.2 hlt
      have W1 := wrap_lt8 (j := i) (b := k) hlt (by have := HN.out; omega)
      have U8 : IntKind.u8.wrap ((i : Nat) : Int) = ((i : Nat) : Int) := u8_small (r := i) (by have := HN.out; omega)
      obtain ⟨w', v', hrun, hG'⟩ := app_gw hG i (by have := HN.out; omega) (by have := HN.out; omega)
      have HE : Hid (i < k ∧ Gw W7 w' v' (i + 1) (fun j => j)) := ⟨hlt, hG'.congr (fun j hj => by
        by_cases e : j < i
        · rw [if_pos e]
        · rw [if_neg e]; omega)⟩
      clear hG hG' hlt hi Wp Wk
      go_wp2_with (at_builtin; refine Lib.wpList_append_run _ rfl _ _ _ _ rfl _ _ rfl rfl _ _ hrun ?_)
      go_roundw
      case rel => exact ⟨i + 1, HE.out.1, by first | rfl | (rw [W1]; rfl), HE.out.2⟩
      case measure => first | exact meas_lt8 HE.out.1 | (rw [W1]; exact meas_lt8 HE.out.1)
    · obtain rfl : i = k := by omega
      have ib : ¬ ((i : Nat) : Int) < (i : Int) := by omega
      obtain ⟨hGb, hG2⟩ := hG
      rcases hG2 with ⟨h0, -⟩ | ⟨gx, C, F, hxs, hC, hgx, hRx, hFx⟩
      · exact absurd h0 (by have := HN.out; omega)
      subst hxs
      have hx0 : Rb wr (.slice (some ⟨gx, 0, none⟩) i C) i (fun j => j) := (hRx.rb (o := 0) (n := i) (cap := C) (by omega) hC hRx.1).congr (fun j hj => by rw [Nat.zero_add]; exact hFx j hj)
      have HX0 : Hid (Rb wr (.slice (some ⟨gx, 0, none⟩) i C) i (fun j => j) ∧ Below W7.heap.size W7 wr) := ⟨hx0, hGb⟩
      clear hGb hRx hFx hgx hC hx0 hlt hi
      go_wp2
      obtain ⟨g6, hg6⟩ : ∃ g6, Hid (wr.heap.size = g6) := ⟨_, rfl⟩
      obtain ⟨w6, hw6⟩ : ∃ w6, Hid (wr.alloc (.cells #[.int .i64 0, .int .i64 (k0 : Int), .int .i64 (p : Int)] 3) = w6) := ⟨_, rfl⟩
      have b6 : Below wr.heap.size wr w6 := by rw [← hw6.out]; exact (Below.refl _ _).alloc (Nat.le_refl _) _
      have z6 : ∀ a, a < 3 → w6.cell? ⟨g6, a, none⟩ = some (.int .i64 ((if a = 0 then 0 else if a = 1 then k0 else p : Nat) : Int)) := by rw [← hw6.out, ← hg6.out]; exact lit38 wr k0 p
      have HS6 : Hid (Sy w w6 gb go gc r t i N ∧ Rb w6 (.slice (some ⟨gx, 0, none⟩) i C) i (fun j => j) ∧ g6 < w6.heap.size) := ⟨HS.out.step (HX0.out.2.trans (b6.mono HX0.out.2.size)), HX0.out.1.below b6, by rw [← hw6.out, ← hg6.out]; exact (Array.getElem?_eq_some_iff.1 (heap_alloc_new _ _)).1⟩
      rw [hw6.out, hg6.out]
      clear b6 hw6 hg6 HX0 HS Wp Wk
      go_loopw [104] (fun s wr => ∃ a : Nat, a ≤ 3 ∧ s = .int .i64 (a : Int) ∧ Below w6.heap.size w6 wr) (fun s _ => 3 - (intOf s).toNat)
      case atStart => exact ⟨0, by decide, rfl, Below.refl _ _⟩
      case round =>
        obtain ⟨a, ha, rfl, hb⟩ := hrel
        by_cases hlt : a < 3
        · obtain ⟨j, hj⟩ : ∃ j, j = (if a = 0 then 0 else if a = 1 then k0 else p) := ⟨_, rfl⟩
          have hji : j < i := by rw [hj]; exact idx8 HN.out.2.2.2.1 HN.out.2.2.2.2 a
          have q1 : wr.cell? ⟨g6, a, none⟩ = some (.int .i64 (j : Int)) := by rw [hj]; exact (hb.cell (p := ⟨g6, a, none⟩) HS6.out.2.2).trans (z6 a hlt)
          have hmk := make_u8 i (by have := HN.out; omega)
          have r0 := made_rw i (by have := HN.out; omega) wr
          have q2 := r0.2.2.cell hji
          have q3 := r0.2.2.frozen j
          have hb7 : Below wr.heap.size wr ((wr.alloc (.cells (madeCells #[.int .u8 0] i) 5)).setCell ⟨wr.heap.size, j, none⟩ (.int .u8 1)) := ((Below.refl _ _).alloc (Nat.le_refl _) _).setCell (Nat.le_refl _) _
          have r1 : Rw ((wr.alloc (.cells (madeCells #[.int .u8 0] i) 5)).setCell ⟨wr.heap.size, j, none⟩ (.int .u8 1)) wr.heap.size i (fun x => if x = j then 1 else 0) := r0.set j 1 (by decide)
          have b67 := hb.trans (hb7.mono hb.size)
          have c5 := sys_b (HS6.out.1.step b67) (HS6.out.2.1.below b67) r1.rb0 (by have := HN.out; omega) (by have := HN.out; omega) hji
          have HB7 : Hid (Below w6.heap.size w6 ((wr.alloc (.cells (madeCells #[.int .u8 0] i) 5)).setCell ⟨wr.heap.size, j, none⟩ (.int .u8 1))) := b67
          have ia : ((a : Nat) : Int) < 3 := by omega
          have ij : ((j : Nat) : Int) < (i : Int) := by omega
          have HJ : Hid (j < i ∧ a < 3) := ⟨hji, hlt⟩
          have Wa : wrap64 (((a : Nat) : Int) + 1) = ((a : Nat) : Int) + 1 := by unfold wrap64; omega
          obtain ⟨gy, hgy⟩ : ∃ gy, Hid (wr.heap.size = gy) := ⟨_, rfl⟩
          obtain ⟨w7, hw7⟩ : ∃ w7, Hid ((wr.alloc (.cells (madeCells #[.int .u8 0] i) 5)).setCell ⟨wr.heap.size, j, none⟩ (.int .u8 1) = w7) := ⟨_, rfl⟩
          rw [hw7.out] at c5 HB7
          rw [made_set8] at hw7
          clear r0 r1 hb b67 hb7 hj z6 hji hlt ha
          go_wp2_with (go_at_call 13; rw [hw7.out]; (with_reducible refine c5.mono ?_); rintro e w8 ⟨u8, rfl, hb8, hE⟩; clear c5 hw7; have HE8 : Hid (Below w6.heap.size w6 w8 ∧ Lb w8 (.slice (some ⟨gb, go, none⟩) N gc) N (fun _ => i) (gen11 0 i) ∧ ∀ x : Nat, x < 256 → ∀ W2, Below w8.heap.size w8 W2 → _) := ⟨HB7.out.trans (hb8.mono HB7.out.size), HS6.out.1.g.below (HB7.out.trans (hb8.mono HB7.out.size)), hE⟩; clear hE hb8 HB7)
          clear q1 q2 q3 hmk
          go_loopw [124] (fun s wr => ∃ x q : Nat, x ≤ N ∧ s = .int .i64 (x : Int) ∧ Hid (wr = w8.drewN q)) (fun s _ => N - (intOf s).toNat)
          case atStart => exact ⟨0, 0, Nat.zero_le _, rfl, rfl⟩
          case round =>
            obtain ⟨x, q, hx, rfl, hw⟩ := hrel
            by_cases hxl : x < N
            · obtain ⟨rb, ro, rc, y1, y2⟩ := row_at8 HE8.out.2.1 hxl HJ.out.1
              have q1 : wr.cell? ⟨gb, go + x, none⟩ = some (.slice (some ⟨rb, ro, none⟩) i rc) := by rw [hw.out]; exact y1
              have q2 : wr.cell? ⟨rb, ro + j, none⟩ = some (.int .u8 (gen11 0 i x j : Nat)) := by rw [hw.out]; exact y2
              have c6 := fun m => HE8.out.2.2 x (by have := HN.out; omega) (wr.drewN m) (by rw [hw.out]; exact below_drewN (below_drewN (Below.refl _ _) q) m)
              have U8 : IntKind.u8.wrap ((x : Nat) : Int) = ((x : Nat) : Int) := u8_small (r := x) (by have := HN.out; omega)
              have ix : ((x : Nat) : Int) < (N : Int) := Int.ofNat_lt.2 hxl
              have W1 := wrap_lt8 (j := x) (b := N) hxl (by have := HN.out; omega)
              have HX : Hid (x < N) := hxl
              generalize gen11 0 i x j = z at q2 c6
              clear y1 y2 hxl hx
              go_wp2
              go_quiet ((go_at_call 14; with_reducible exact Calls.quiet_of (c6 _)))
              go_wp2
              go_roundw
              case rel => exact ⟨x + 1, q + nq, HX.out, by first | rfl | (rw [W1]; rfl), by show _ = _; rw [hw.out, World.drewN_drewN]⟩
              case measure => first | exact meas_lt8 HX.out | (rw [W1]; exact meas_lt8 HX.out)
            · have ix : ¬ ((x : Nat) : Int) < (N : Int) := by omega
              have HF : Hid (Below w6.heap.size w6 wr) := by show Below _ _ _; rw [hw.out]; exact below_drewN HE8.out.1 q
              clear hw hx hxl
              go_wp2
              go_roundw
              case rel => exact ⟨a + 1, HJ.out.2, by first | rfl | (rw [Wa]; rfl), HF.out⟩
              case measure => first | exact meas_lt8 HJ.out.2 | (rw [Wa]; exact meas_lt8 HJ.out.2)
        · have ia : ¬ ((a : Nat) : Int) < 3 := by omega
          have HF : Hid (Below w.heap.size w wr) := HS6.out.1.bel.trans (hb.mono HS6.out.1.bel.size)
          clear hb z6 ha hlt
          go_wp2
          go_ret
          exact ⟨rfl, HF.out⟩
set_option maxHeartbeats 16000000 in
set_option maxRecDepth 100000 in
theorem sys11_no (K M more : Int) (w : World) (hv : ¬ (1 ≤ K ∧ 1 ≤ M ∧ K + M ≤ 256)) :
    Calls Try.prog 3 #[.int .i64 K, .int .i64 M, .int .i64 more] w fun e w' => e = .returned (.bool true) ∧ Below w.heap.size w w' := by
  have c0 := sys_first w w (Below.refl _ _)
  have c1 := fun x => valid11_no 0 K M x (.inl rfl) hv
  obtain ⟨k, hk⟩ : ∃ k : Nat, k = 2 := ⟨_, rfl⟩
  have HK : Hid ((2 : Int) = ((k : Nat) : Int)) := by show (2 : Int) = _; omega
  have h1 : 1 ≤ k := by omega
  have h3 : k + k ≤ 256 := by omega
  have HA : Hid (∀ W, Below w.heap.size w W → _) := fun W hb => sys_a (w := w) (W := W) (k := k) (m := k) hb h1 h1 h3
  have W0 : wrap64 ((k : Int) + (k : Int)) = ((k + k : Nat) : Int) := add_small (by omega) (by omega)
  obtain ⟨N, hN⟩ : ∃ N, N = k + k := ⟨_, rfl⟩
  rw [← hN] at HA W0
  obtain ⟨p, hp, Wp⟩ := pick11 more k (by omega) (by omega)
  obtain ⟨k0, hk0⟩ : ∃ k0, k = k0 + 1 := ⟨k - 1, by omega⟩
  have Wk : wrap64 (((k : Nat) : Int) - 1) = ((k0 : Nat) : Int) := by unfold wrap64; omega
  have n0 : ¬ (IntKind.u64.wrap (k : Int) = 0) := by unfold IntKind.wrap; simp [IntKind.bits, IntKind.signed]; omega
  have HN : Hid (1 ≤ k ∧ k + k = N ∧ N ≤ 256 ∧ k = k0 + 1 ∧ p < k) := ⟨h1, hN.symm, by omega, hk0, hp⟩
  clear h1 h3 hN hk0 hp hk hv
  go_enter Try.func3, Try.ntmps3
  go_wp2_with (first
    | (go_at_call 7; first
      | ((with_reducible refine c0.mono ?_); rintro e W1 ⟨v1, rfl, c02⟩; clear c0)
      | (rw [HK.out]; (with_reducible refine Calls.mono (HA.out _ HB.out) ?_); rintro e W3 ⟨gb, go, gc, rfl, a2⟩; clear HA HB))
    | (go_at_call 8; first
      | ((with_reducible refine c02.mono ?_); rintro e W2 ⟨rfl, hb2⟩; clear c02; have HB : Hid (Below w.heap.size w W2) := hb2; clear hb2)
      | ((with_reducible refine a4.mono ?_); rintro e W6 ⟨rfl, a5⟩; clear a4))
    | (go_at_call 9; (with_reducible refine (c1 _).mono ?_); rintro e w9 ⟨rfl, hw9⟩; have hw9 := hw9.symm; subst hw9; clear c1)
    | (go_at_call 10; (with_reducible refine a2.mono ?_); rintro e W4 ⟨v4, rfl, a3⟩; clear a2)
    | (go_at_call 11; (with_reducible refine a3.mono ?_); rintro e W5 ⟨v5, rfl, a4⟩; clear a3)
    | (go_at_call 12; (with_reducible refine a5.mono ?_); rintro e W7 ⟨r, t, rfl, hS⟩; clear a5))
  have HS : Hid (Sy w W7 gb go gc r t k N) := hS
  clear hS W0
  go_loopw [14, 15] (fun xs s wr => ∃ i : Nat, i ≤ k ∧ s = .int .i64 (i : Int) ∧ Gw W7 wr xs i (fun j => j)) (fun _ s _ => k - (intOf s).toNat)
  case atStart => exact ⟨0, Nat.zero_le _, rfl, Gw.start _ _⟩
  case round =>
    obtain ⟨i, hi, rfl, hG⟩ := hrel
    by_cases hlt : i < k
    · have ib : ((i : Nat) : Int) < (k : Int) := Int.ofNat_lt.2 hlt
      have W1 := wrap_lt8 (j := i) (b := k) hlt (by have := HN.out; omega)
      have U8 : IntKind.u8.wrap ((i : Nat) : Int) = ((i : Nat) : Int) := u8_small (r := i) (by have := HN.out; omega)
      obtain ⟨w', v', hrun, hG'⟩ := app_gw hG i (by have := HN.out; omega) (by have := HN.out; omega)
      have HE : Hid (i < k ∧ Gw W7 w' v' (i + 1) (fun j => j)) := ⟨hlt, hG'.congr (fun j hj => by
        by_cases e : j < i
        · rw [if_pos e]
        · rw [if_neg e]; omega)⟩
      clear hG hG' hlt hi Wp Wk
      go_wp2_with (at_builtin; refine Lib.wpList_append_run _ rfl _ _ _ _ rfl _ _ rfl rfl _ _ hrun ?_)
      go_roundw
      case rel => exact ⟨i + 1, HE.out.1, by first | rfl | (rw [W1]; rfl), HE.out.2⟩
      case measure => first | exact meas_lt8 HE.out.1 | (rw [W1]; exact meas_lt8 HE.out.1)
    · obtain rfl : i = k := by omega
      have ib : ¬ ((i : Nat) : Int) < (i : Int) := by omega
      obtain ⟨hGb, hG2⟩ := hG
      rcases hG2 with ⟨h0, -⟩ | ⟨gx, C, F, hxs, hC, hgx, hRx, hFx⟩
      · exact absurd h0 (by have := HN.out; omega)
      subst hxs
      have hx0 : Rb wr (.slice (some ⟨gx, 0, none⟩) i C) i (fun j => j) := (hRx.rb (o := 0) (n := i) (cap := C) (by omega) hC hRx.1).congr (fun j hj => by rw [Nat.zero_add]; exact hFx j hj)
      have HX0 : Hid (Rb wr (.slice (some ⟨gx, 0, none⟩) i C) i (fun j => j) ∧ Below W7.heap.size W7 wr) := ⟨hx0, hGb⟩
      clear hGb hRx hFx hgx hC hx0 hlt hi
      go_wp2
      obtain ⟨g6, hg6⟩ : ∃ g6, Hid (wr.heap.size = g6) := ⟨_, rfl⟩
      obtain ⟨w6, hw6⟩ : ∃ w6, Hid (wr.alloc (.cells #[.int .i64 0, .int .i64 (k0 : Int), .int .i64 (p : Int)] 3) = w6) := ⟨_, rfl⟩
      have b6 : Below wr.heap.size wr w6 := by rw [← hw6.out]; exact (Below.refl _ _).alloc (Nat.le_refl _) _
      have z6 : ∀ a, a < 3 → w6.cell? ⟨g6, a, none⟩ = some (.int .i64 ((if a = 0 then 0 else if a = 1 then k0 else p : Nat) : Int)) := by rw [← hw6.out, ← hg6.out]; exact lit38 wr k0 p
      have HS6 : Hid (Sy w w6 gb go gc r t i N ∧ Rb w6 (.slice (some ⟨gx, 0, none⟩) i C) i (fun j => j) ∧ g6 < w6.heap.size) := ⟨HS.out.step (HX0.out.2.trans (b6.mono HX0.out.2.size)), HX0.out.1.below b6, by rw [← hw6.out, ← hg6.out]; exact (Array.getElem?_eq_some_iff.1 (heap_alloc_new _ _)).1⟩
      rw [hw6.out, hg6.out]
      clear b6 hw6 hg6 HX0 HS Wp Wk
      go_loopw [104] (fun s wr => ∃ a : Nat, a ≤ 3 ∧ s = .int .i64 (a : Int) ∧ Below w6.heap.size w6 wr) (fun s _ => 3 - (intOf s).toNat)
      case atStart => exact ⟨0, by decide, rfl, Below.refl _ _⟩
      case round =>
        obtain ⟨a, ha, rfl, hb⟩ := hrel
        by_cases hlt : a < 3
        · obtain ⟨j, hj⟩ : ∃ j, j = (if a = 0 then 0 else if a = 1 then k0 else p) := ⟨_, rfl⟩
          have hji : j < i := by rw [hj]; exact idx8 HN.out.2.2.2.1 HN.out.2.2.2.2 a
          have q1 : wr.cell? ⟨g6, a, none⟩ = some (.int .i64 (j : Int)) := by rw [hj]; exact (hb.cell (p := ⟨g6, a, none⟩) HS6.out.2.2).trans (z6 a hlt)
          have hmk := make_u8 i (by have := HN.out; omega)
          have r0 := made_rw i (by have := HN.out; omega) wr
          have q2 := r0.2.2.cell hji
          have q3 := r0.2.2.frozen j
          have hb7 : Below wr.heap.size wr ((wr.alloc (.cells (madeCells #[.int .u8 0] i) 5)).setCell ⟨wr.heap.size, j, none⟩ (.int .u8 1)) := ((Below.refl _ _).alloc (Nat.le_refl _) _).setCell (Nat.le_refl _) _
          have r1 : Rw ((wr.alloc (.cells (madeCells #[.int .u8 0] i) 5)).setCell ⟨wr.heap.size, j, none⟩ (.int .u8 1)) wr.heap.size i (fun x => if x = j then 1 else 0) := r0.set j 1 (by decide)
          have b67 := hb.trans (hb7.mono hb.size)
          have c5 := sys_b (HS6.out.1.step b67) (HS6.out.2.1.below b67) r1.rb0 (by have := HN.out; omega) (by have := HN.out; omega) hji
          have HB7 : Hid (Below w6.heap.size w6 ((wr.alloc (.cells (madeCells #[.int .u8 0] i) 5)).setCell ⟨wr.heap.size, j, none⟩ (.int .u8 1))) := b67
          have ia : ((a : Nat) : Int) < 3 := by omega
          have ij : ((j : Nat) : Int) < (i : Int) := by omega
          have HJ : Hid (j < i ∧ a < 3) := ⟨hji, hlt⟩
          have Wa : wrap64 (((a : Nat) : Int) + 1) = ((a : Nat) : Int) + 1 := by unfold wrap64; omega
          obtain ⟨gy, hgy⟩ : ∃ gy, Hid (wr.heap.size = gy) := ⟨_, rfl⟩
          obtain ⟨w7, hw7⟩ : ∃ w7, Hid ((wr.alloc (.cells (madeCells #[.int .u8 0] i) 5)).setCell ⟨wr.heap.size, j, none⟩ (.int .u8 1) = w7) := ⟨_, rfl⟩
          rw [hw7.out] at c5 HB7
          rw [made_set8] at hw7
          clear r0 r1 hb b67 hb7 hj z6 hji hlt ha
          go_wp2_with (go_at_call 13; rw [hw7.out]; (with_reducible refine c5.mono ?_); rintro e w8 ⟨u8, rfl, hb8, hE⟩; clear c5 hw7; have HE8 : Hid (Below w6.heap.size w6 w8 ∧ Lb w8 (.slice (some ⟨gb, go, none⟩) N gc) N (fun _ => i) (gen11 0 i) ∧ ∀ x : Nat, x < 256 → ∀ W2, Below w8.heap.size w8 W2 → _) := ⟨HB7.out.trans (hb8.mono HB7.out.size), HS6.out.1.g.below (HB7.out.trans (hb8.mono HB7.out.size)), hE⟩; clear hE hb8 HB7)
          clear q1 q2 q3 hmk
          go_loopw [124] (fun s wr => ∃ x q : Nat, x ≤ N ∧ s = .int .i64 (x : Int) ∧ Hid (wr = w8.drewN q)) (fun s _ => N - (intOf s).toNat)
          case atStart => exact ⟨0, 0, Nat.zero_le _, rfl, rfl⟩
          case round =>
            obtain ⟨x, q, hx, rfl, hw⟩ := hrel
            by_cases hxl : x < N
            · obtain ⟨rb, ro, rc, y1, y2⟩ := row_at8 HE8.out.2.1 hxl HJ.out.1
              have q1 : wr.cell? ⟨gb, go + x, none⟩ = some (.slice (some ⟨rb, ro, none⟩) i rc) := by rw [hw.out]; exact y1
              have q2 : wr.cell? ⟨rb, ro + j, none⟩ = some (.int .u8 (gen11 0 i x j : Nat)) := by rw [hw.out]; exact y2
              have c6 := fun m => HE8.out.2.2 x (by have := HN.out; omega) (wr.drewN m) (by rw [hw.out]; exact below_drewN (below_drewN (Below.refl _ _) q) m)
              have U8 : IntKind.u8.wrap ((x : Nat) : Int) = ((x : Nat) : Int) := u8_small (r := x) (by have := HN.out; omega)
              have ix : ((x : Nat) : Int) < (N : Int) := Int.ofNat_lt.2 hxl
              have W1 := wrap_lt8 (j := x) (b := N) hxl (by have := HN.out; omega)
              have HX : Hid (x < N) := hxl
              generalize gen11 0 i x j = z at q2 c6
              clear y1 y2 hxl hx
              go_wp2
              go_quiet ((go_at_call 14; with_reducible exact Calls.quiet_of (c6 _)))
              go_wp2
              go_roundw
              case rel => exact ⟨x + 1, q + nq, HX.out, by first | rfl | (rw [W1]; rfl), by show _ = _; rw [hw.out, World.drewN_drewN]⟩
              case measure => first | exact meas_lt8 HX.out | (rw [W1]; exact meas_lt8 HX.out)
            · have ix : ¬ ((x : Nat) : Int) < (N : Int) := by omega
              have HF : Hid (Below w6.heap.size w6 wr) := by show Below _ _ _; rw [hw.out]; exact below_drewN HE8.out.1 q
              clear hw hx hxl
              go_wp2
              go_roundw
              case rel => exact ⟨a + 1, HJ.out.2, by first | rfl | (rw [Wa]; rfl), HF.out⟩
              case measure => first | exact meas_lt8 HJ.out.2 | (rw [Wa]; exact meas_lt8 HJ.out.2)
        · have ia : ¬ ((a : Nat) : Int) < 3 := by omega
          have HF : Hid (Below w.heap.size w wr) := HS6.out.1.bel.trans (hb.mono HS6.out.1.bel.size)
          clear hb z6 ha hlt
          go_wp2
          go_ret
          exact ⟨rfl, HF.out⟩
theorem sys11_any (K M more : Int) (w : World) : Calls Try.prog 3 #[.int .i64 K, .int .i64 M, .int .i64 more] w fun e w' => e = .returned (.bool true) ∧ Below w.heap.size w w' := by
  by_cases hv : 1 ≤ K ∧ 1 ≤ M ∧ K + M ≤ 256
  · obtain ⟨k, rfl⟩ := Int.eq_ofNat_of_zero_le (by omega : 0 ≤ K)
    obtain ⟨m, rfl⟩ := Int.eq_ofNat_of_zero_le (by omega : 0 ≤ M)
    exact sys11_yes k m more w (by omega) (by omega) (by omega)
  · exact sys11_no K M more w hv
end Go.Proofs.Ytljfpgebekpjgaa
