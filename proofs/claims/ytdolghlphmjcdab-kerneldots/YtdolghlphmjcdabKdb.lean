import Derived.Test.YtdolghlphmjcdabKda
namespace Go.Proofs.Ytdolghlphmjcdab
open Go.RowKit Gf2
set_option linter.unusedVariables false

-- layer 9: KernelDots: the calls over lists that are written out
section
variable {y0 : World} {p : Addr} {bk lo hi : Nat} {vr vo vS : Value} {nr n g5 : Nat} {Fr Fo : Nat → Nat} {SS : Nat → Nat → Nat}
theorem len9_one {k n : Nat} (h : 0 < k) : len9 k 1 (fun _ => n) (fun _ => n) = n := by unfold len9; rw [if_pos h]
/-- Apply of one row into one list. -/
theorem apply9_one (H : Hy9 y0 p bk lo hi vr vo vS nr n g5 Fr Fo SS) {x : World} (hb : Below y0.heap.size y0 x) {g : Nat} {F : Nat → Nat} (hg : y0.heap.size ≤ g) (hR : Rw x g n F) :
    Calls Try.prog 13 #[vr] x fun e x1 => ∃ g1, e = .returned (.slice (some ⟨g1, 0, none⟩) nr nr) ∧
      Calls Try.prog 10 #[vS] (x1.alloc (.cells #[.slice (some ⟨g1, 0, none⟩) nr nr] 25)) fun e x2 => ∃ v2, e = .returned v2 ∧
      Calls Try.prog 11 #[.pointer (some p), .slice (some ⟨x1.heap.size, 0, none⟩) 1 1, v2, .slice (some ⟨x2.heap.size, 0, none⟩) 1 1, .agg #[.int .i64 0, .int .i64 (n : Int)]] (x2.alloc (.cells #[.slice (some ⟨g, 0, none⟩) n n] 25)) fun e x3 =>
        e = .returned (.int .i64 0) ∧ Below x.heap.size x (x2.alloc (.cells #[.slice (some ⟨g, 0, none⟩) n n] 25)) ∧ Kp g (x2.alloc (.cells #[.slice (some ⟨g, 0, none⟩) n n] 25)) x3 ∧ Rw x3 g n (fun j => ks Fr SS nr j) := by
  have gl := hR.lt
  refine (cd9 vr nr Fr x (H.row.below hb) H.hnr).mono fun e x1 ⟨g1, he, r1, l1, b1⟩ => ⟨g1, he, ?_⟩
  have ba := bal9 x1 (.cells #[.slice (some ⟨g1, 0, none⟩) nr nr] 25)
  have s1 := b1.size
  have hne : ∀ q, Eb 1 (fun _ => g) q → q = g := fun q ⟨r, _, e⟩ => e
  have hrow : Ll (Eb 1 (fun _ => g)) (x1.alloc (.cells #[.slice (some ⟨g1, 0, none⟩) nr nr] 25)) (.slice (some ⟨x1.heap.size, 0, none⟩) 1 1) 1 (fun _ => nr) (fun _ => Fr) := lit1_9 (r1.re (Nat.le_refl _) (Nat.le_refl _) r1.1 (fun e => by have := hne _ e; omega)) (fun e => by have := hne _ e; omega)
  refine (copies9_any vS nr _ SS _ (Lb.below H.src (bt9 (bt9 hb b1) ba)) H.hmS (fun _ _ => H.hn)).mono fun e x2 ⟨v2, B2, he, r2, b2⟩ => ⟨v2, he, ?_⟩
  have bb := bal9 x2 (.cells #[.slice (some ⟨g, 0, none⟩) n n] 25)
  have bx : Below x.heap.size x x2 := bt9 (bt9 b1 ba) b2
  have s2 := bx.size
  have sa : (x1.alloc (.cells #[.slice (some ⟨g1, 0, none⟩) nr nr] 25)).heap.size = x1.heap.size + 1 := by simp
  have hrow2 := (hrow.ke (ke_below b2 _)).ke (ke_below bb (Eb 1 (fun _ => g)))
  have hsrc : Ll (Eb 1 (fun _ => g)) (x2.alloc (.cells #[.slice (some ⟨g, 0, none⟩) n n] 25)) v2 nr (fun _ => n) SS := (r2.ll (E := Eb 1 (fun _ => g)) (fun q h1 h2 e => by have := hne _ e; omega)).ke (ke_below bb _)
  have hRb : Rw (x2.alloc (.cells #[.slice (some ⟨g, 0, none⟩) n n] 25)) g n F := rw_below hR (bt9 bx bb)
  have hd : Dl (x2.alloc (.cells #[.slice (some ⟨g, 0, none⟩) n n] 25)) (.slice (some ⟨x2.heap.size, 0, none⟩) 1 1) 1 n (fun _ => g) (fun _ => 0) (fun _ => n) (fun _ => F) := by
    refine ⟨⟨fun _ => some ⟨g, 0, none⟩, fun _ => n, ⟨by decide, _, 1, rfl, Nat.le_refl _, by decide, fun _ => ⟨x2.heap.size, 0, rfl, ⟨by simp, fun e => by have := hne _ e; omega⟩, fun i hi => ?_⟩⟩, fun r hr => ⟨Nat.le_refl _, hR.1, fun _ => rfl⟩⟩, fun r hr => ⟨hRb, by omega⟩, fun r s hr hs hrs => absurd (show r = s by omega) hrs⟩
    obtain rfl : i = 0 := by omega
    rw [cell_of_row _ _ _ _ _ _ (heap_alloc_new _ _)]
    rfl
  refine (kapply_ok p bk lo hi 1 nr n 0 n (fun _ => g) (fun _ => 0) (fun _ => n) (fun _ => Fr) SS (fun _ => F) _ v2 _ _ (Ks.below H.ks (bt9 hb (bt9 bx bb))) (by omega) (by have := H.hmS; omega) (fun r hr => .inr (Nat.le_trans H.ks.hi hg)) hrow2 hsrc hd (Nat.zero_le _) (by rw [len9_one H.h0]; exact Nat.le_refl _)).mono fun e x3 ⟨he, k3, r3⟩ => ⟨he, bt9 bx bb, ⟨k3.1, fun q hq hn => k3.2 q hq (fun e => hn (hne q e))⟩, (r3 0 (by decide)).congr (fun j hj => ?_)⟩
  show (if g = g ∧ 0 + 0 ≤ j ∧ j < 0 + n then ks Fr SS nr (j - 0) else F j) = _
  rw [if_pos ⟨rfl, by omega, by omega⟩, Nat.sub_zero]
/-- Dot with the one factor 1. -/
theorem dot9_one (H : Hy9 y0 p bk lo hi vr vo vS nr n g5 Fr Fo SS) {x : World} (hb : Below y0.heap.size y0 x) {v : Value} {S0 : Nat → Nat} (hv : Rb y0 v n S0) {g : Nat} {F : Nat → Nat} (hg : y0.heap.size ≤ g) (hR : Rw x g n F) :
    Calls Try.prog 13 #[v] (x.alloc (.cells #[.int .u8 1] 5)) fun e x1 => ∃ g1, e = .returned (.slice (some ⟨g1, 0, none⟩) n n) ∧
      Calls Try.prog 16 #[.pointer (some p), .slice (some ⟨x.heap.size, 0, none⟩) 1 1, .slice (some ⟨x1.heap.size, 0, none⟩) 1 1, .slice (some ⟨g, 0, none⟩) n n] (x1.alloc (.cells #[.slice (some ⟨g1, 0, none⟩) n n] 25)) fun e x3 =>
        e = .returned (.int .i64 0) ∧ Below x.heap.size x (x1.alloc (.cells #[.slice (some ⟨g1, 0, none⟩) n n] 25)) ∧ Kp g (x1.alloc (.cells #[.slice (some ⟨g1, 0, none⟩) n n] 25)) x3 ∧ Rw x3 g n S0 := by
  have gl := hR.lt
  have hlt := hv.2.1
  have b0 := bal9 x (.cells #[.int .u8 1] 5)
  have s0 : (x.alloc (.cells #[.int .u8 1] 5)).heap.size = x.heap.size + 1 := by simp
  have one := litb1_9 x 1 (by decide)
  refine (cd9 v n S0 _ (hv.below (bt9 hb b0)) H.hn).mono fun e x1 ⟨g1, he, r1, l1, b1⟩ => ⟨g1, he, ?_⟩
  have bb := bal9 x1 (.cells #[.slice (some ⟨g1, 0, none⟩) n n] 25)
  have bx := bt9 (bt9 b0 b1) bb
  have s1 := b1.size
  have hl : Ll (fun q => q = g) (x1.alloc (.cells #[.slice (some ⟨g1, 0, none⟩) n n] 25)) (.slice (some ⟨x1.heap.size, 0, none⟩) 1 1) 1 (fun _ => n) (fun _ => S0) := lit1_9 (r1.re (Nat.le_refl _) (Nat.le_refl _) r1.1 (fun e => by omega)) (fun e => by omega)
  refine (dot9_ok p bk lo hi 1 n g F (fun _ => 1) (fun _ => S0) _ _ _ (Ks.below H.ks (bt9 hb bx)) H.hn (by decide) (Nat.le_trans H.ks.hi hg) (rw_below hR bx) ((rw_below one (bt9 b1 bb)).re (Nat.le_refl _) (Nat.le_refl _) (by decide) (fun e => by omega)) hl).mono fun e x3 ⟨he, k3, r3⟩ => ⟨he, bx, k3, r3.congr (fun j hj => ?_)⟩
  show 0 ^^^ fm 285 1 (S0 j) = S0 j
  rw [Nat.zero_xor, fld8.one_fm (hlt j hj)]
theorem two_ks {r s : Nat} {S0 : Nat → Nat} (j : Nat) : ks (fun i => if i = 0 then r else s) (fun _ => S0) 2 j = fm 285 (r ^^^ s) (S0 j) := by
  show (0 ^^^ fm 285 r (S0 j)) ^^^ fm 285 s (S0 j) = _
  rw [Nat.zero_xor, fld8.xor_fm]
/-- Dot with two factors over one list twice: the bytes first, or the lists. -/
theorem dot9_two (H : Hy9 y0 p bk lo hi vr vo vS nr n g5 Fr Fo SS) {x : World} (hb : Below y0.heap.size y0 x) {r s g1 : Nat} (hr : r < 256) (hs : s < 256) {S0 : Nat → Nat} (h1 : Rw x g1 n S0) {g : Nat} {F : Nat → Nat} (hg : y0.heap.size ≤ g) (hR : Rw x g n F) (hne : g1 ≠ g) :
    (Calls Try.prog 16 #[.pointer (some p), .slice (some ⟨x.heap.size, 0, none⟩) 2 2, .slice (some ⟨x.heap.size + 1, 0, none⟩) 2 2, .slice (some ⟨g, 0, none⟩) n n] ((x.alloc (.cells #[.int .u8 (r : Int), .int .u8 (s : Int)] 5)).alloc (.cells #[.slice (some ⟨g1, 0, none⟩) n n, .slice (some ⟨g1, 0, none⟩) n n] 25)).drew fun e x3 =>
        e = .returned (.int .i64 0) ∧ Hid (∃ x2, Below x.heap.size x x2 ∧ Kp g x2 x3 ∧ Rw x3 g n (fun j => fm 285 (r ^^^ s) (S0 j)))) ∧
    (Calls Try.prog 16 #[.pointer (some p), .slice (some ⟨x.heap.size + 1, 0, none⟩) 2 2, .slice (some ⟨x.heap.size, 0, none⟩) 2 2, .slice (some ⟨g, 0, none⟩) n n] ((x.alloc (.cells #[.slice (some ⟨g1, 0, none⟩) n n, .slice (some ⟨g1, 0, none⟩) n n] 25)).alloc (.cells #[.int .u8 (r : Int), .int .u8 (s : Int)] 5)).drew fun e x3 =>
        e = .returned (.int .i64 0) ∧ Hid (∃ x2, Below x.heap.size x x2 ∧ Kp g x2 x3 ∧ Rw x3 g n (fun j => fm 285 (r ^^^ s) (S0 j)))) := by
  have gl := hR.lt
  have gl1 := h1.lt
  constructor
  · have b0 := bal9 x (.cells #[.int .u8 (r : Int), .int .u8 (s : Int)] 5)
    have s0 : (x.alloc (.cells #[.int .u8 (r : Int), .int .u8 (s : Int)] 5)).heap.size = x.heap.size + 1 := by simp
    have two := litb2_9 x r s hr hs
    have bb := bal9 (x.alloc (.cells #[.int .u8 (r : Int), .int .u8 (s : Int)] 5)) (.cells #[.slice (some ⟨g1, 0, none⟩) n n, .slice (some ⟨g1, 0, none⟩) n n] 25)
    have bx := (bt9 b0 bb).drew
    have hl : Ll (fun q => q = g) ((x.alloc (.cells #[.int .u8 (r : Int), .int .u8 (s : Int)] 5)).alloc (.cells #[.slice (some ⟨g1, 0, none⟩) n n, .slice (some ⟨g1, 0, none⟩) n n] 25)).drew (.slice (some ⟨x.heap.size + 1, 0, none⟩) 2 2) 2 (fun _ => n) (fun _ => S0) := by
      have h9 := lit2_9 (E := fun q => q = g) (W := x.alloc (.cells #[.int .u8 (r : Int), .int .u8 (s : Int)] 5)) ((rw_below h1 b0).re (Nat.le_refl _) (Nat.le_refl _) h1.1 hne) (fun e => by omega)
      rw [s0] at h9
      exact h9
    exact (dot9_ok p bk lo hi 2 n g F _ (fun _ => S0) _ _ _ (Ks.below H.ks (bt9 hb bx)) H.hn (by decide) (Nat.le_trans H.ks.hi hg) (rw_below hR bx) ((rw_below two bb.drew).re (Nat.le_refl _) (Nat.le_refl _) (by decide) (fun e => by omega)) hl).mono fun e x3 ⟨he, k3, r3⟩ => ⟨he, _, bx, k3, r3.congr (fun j hj => two_ks j)⟩
  · have b0 := bal9 x (.cells #[.slice (some ⟨g1, 0, none⟩) n n, .slice (some ⟨g1, 0, none⟩) n n] 25)
    have s0 : (x.alloc (.cells #[.slice (some ⟨g1, 0, none⟩) n n, .slice (some ⟨g1, 0, none⟩) n n] 25)).heap.size = x.heap.size + 1 := by simp
    have two := litb2_9 (x.alloc (.cells #[.slice (some ⟨g1, 0, none⟩) n n, .slice (some ⟨g1, 0, none⟩) n n] 25)) r s hr hs
    rw [s0] at two
    have bb := bal9 (x.alloc (.cells #[.slice (some ⟨g1, 0, none⟩) n n, .slice (some ⟨g1, 0, none⟩) n n] 25)) (.cells #[.int .u8 (r : Int), .int .u8 (s : Int)] 5)
    have bx := (bt9 b0 bb).drew
    have hl : Ll (fun q => q = g) ((x.alloc (.cells #[.slice (some ⟨g1, 0, none⟩) n n, .slice (some ⟨g1, 0, none⟩) n n] 25)).alloc (.cells #[.int .u8 (r : Int), .int .u8 (s : Int)] 5)).drew (.slice (some ⟨x.heap.size, 0, none⟩) 2 2) 2 (fun _ => n) (fun _ => S0) :=
      (lit2_9 (E := fun q => q = g) (W := x) (h1.re (Nat.le_refl _) (Nat.le_refl _) h1.1 hne) (fun e => by omega)).ke (ke_below bb.drew _)
    exact (dot9_ok p bk lo hi 2 n g F _ (fun _ => S0) _ _ _ (Ks.below H.ks (bt9 hb bx)) H.hn (by decide) (Nat.le_trans H.ks.hi hg) (rw_below hR bx) ((two.drew9).re (Nat.le_refl _) (Nat.le_refl _) (by decide) (fun e => by omega)) hl).mono fun e x3 ⟨he, k3, r3⟩ => ⟨he, _, bx, k3, r3.congr (fun j hj => two_ks j)⟩
end
end Go.Proofs.Ytdolghlphmjcdab
