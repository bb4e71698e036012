import Derived.Test.YtdolghlphmjcdabWka
namespace Go.Proofs.Ytdolghlphmjcdab
open Go.RowKit Gf2
set_option linter.unusedVariables false

/-- a row whose first n bytes are V. -/
structure Ro (X : World) (g C n : Nat) (V : Nat → Nat) : Prop where
  le : n ≤ C
  row : ∃ F, Rw X g C F ∧ ∀ i, i < n → F i = V i
theorem Own8.ro {X X' : World} {g C n : Nat} {S : Nat → Nat} (h : Own8 X X' g C n S) : Ro X' g C n S := ⟨h.1, h.2.2.2⟩
theorem Ro.lt {X : World} {g C n : Nat} {V : Nat → Nat} (h : Ro X g C n V) : g < X.heap.size := by obtain ⟨F, h1, -⟩ := h.row; exact h1.lt
theorem Ro.below {X X' : World} {g C n : Nat} {V : Nat → Nat} (h : Ro X g C n V) (hb : Below X.heap.size X X') : Ro X' g C n V := by
  obtain ⟨F, h1, h2⟩ := h.row
  exact ⟨h.le, F, rw_below h1 hb, h2⟩
theorem Ro.kp {X X' : World} {g k C n : Nat} {V : Nat → Nat} (h : Ro X g C n V) (hk : Kp k X X') (hne : g ≠ k) : Ro X' g C n V := by
  obtain ⟨F, h1, h2⟩ := h.row
  exact ⟨h.le, F, hk.rw_ h1 hne, h2⟩
theorem Ro.re {X : World} {g C n : Nat} {V : Nat → Nat} (h : Ro X g C n V) {E : Nat → Prop} (hE : ¬ E g) : Re E X (.slice (some ⟨g, 0, none⟩) n C) n V := by
  obtain ⟨F, h1, h2⟩ := h.row
  exact (h1.re (n := n) (cap := C) h.le h.le h1.1 hE).congr h2
theorem Ro.big {X : World} {g C n : Nat} {V : Nat → Nat} (h : Ro X g C n V) : C ≤ big := by obtain ⟨F, h1, -⟩ := h.row; exact h1.1
/-- the first n bytes as a text. -/
def sb9 (n : Nat) (S : Nat → Nat) : ByteArray := strOfNums ((List.range n).map (fun i => (S i : Int)))
theorem sb9_congr {n : Nat} {S T : Nat → Nat} (e : ∀ i, i < n → S i = T i) : sb9 n S = sb9 n T := by
  unfold sb9
  congr 1
  apply List.map_congr_left
  intro i hi
  rw [e i (List.mem_range.1 hi)]
theorem Ro.str {X : World} {g C n : Nat} {V : Nat → Nat} (h : Ro X g C n V) :
    (convert 25 9 (.slice (some ⟨g, 0, none⟩) n C)).run Try.prog X = .ok (.string (sb9 n V)) X := by
  obtain ⟨F, h1, h2⟩ := h.row
  refine run_convert_bytes_arg (P := Try.prog) X 25 5 Try.underlying25 Try.underlying5 g 0 n C _ (by simp) (fun i hi => ?_) 9 Try.underlying9
  rw [Nat.zero_add, h1.2.2.cell (i := i) (by have := h.le; omega)]
  have := h2 i hi
  simp [List.getD, hi, this]
theorem Gw.str {w0 X : World} {v : Value} {n : Nat} {V : Nat → Nat} (h : Gw w0 X v n V) :
    (convert 25 9 v).run Try.prog X = .ok (.string (sb9 n V)) X := by
  rcases h.2 with ⟨rfl, rfl⟩ | ⟨g, C, F, rfl, a2, a3, a4, a5⟩
  · exact run_convert_bytes_nil (P := Try.prog) X 25 5 Try.underlying25 Try.underlying5 0 0 9 Try.underlying9
  · exact (Ro.mk a2 ⟨F, a4, a5⟩).str
theorem ro_tmul {X : World} {p : Addr} {lo hi c n g C g1 C1 : Nat} {V S : Nat → Nat} (hk : Ker X p lo hi) (hc : c < 256) (hr : Ro X g C n V) (hs : Ro X g1 C1 n S) (hne : g1 ≠ g) (hg : hi ≤ g) :
    Calls Try.prog 24 #[.pointer (some p), .int .u8 (c : Int), .slice (some ⟨g, 0, none⟩) n C, .slice (some ⟨g1, 0, none⟩) n C1] X fun e X' => e = .returned (.int .i64 0) ∧ Kp g X X' ∧ Ro X' g C n (fun j => fm 285 c (S j)) := by
  obtain ⟨F, h1, h2⟩ := hr.row
  have hcb := hr.big
  have hle := hr.le
  refine (t9mul_far p lo hi c n g 0 C F S _ _ C C1 X hk hc (by omega) (.inr hg) hle hs.le h1 (fun _ => rfl) (by omega) (hs.re (E := fun b => b = g) hne).fk).mono ?_
  rintro e X' ⟨rfl, hK, hR⟩
  refine ⟨rfl, hK, hle, _, hR, fun i hi => ?_⟩
  unfold pl
  rw [if_pos (by omega), Nat.sub_zero]
theorem ro_tadd {X : World} {p : Addr} {lo hi c n g C g1 C1 : Nat} {V S : Nat → Nat} (hk : Ker X p lo hi) (hc : c < 256) (hr : Ro X g C n V) (hs : Ro X g1 C1 n S) (hne : g1 ≠ g) (hg : hi ≤ g) :
    Calls Try.prog 25 #[.pointer (some p), .int .u8 (c : Int), .slice (some ⟨g, 0, none⟩) n C, .slice (some ⟨g1, 0, none⟩) n C1] X fun e X' => e = .returned (.int .i64 0) ∧ Kp g X X' ∧ Ro X' g C n (fun j => V j ^^^ fm 285 c (S j)) := by
  obtain ⟨F, h1, h2⟩ := hr.row
  have hcb := hr.big
  have hle := hr.le
  refine (t9add_far p lo hi c n g 0 C F S _ _ C C1 X hk hc (by omega) (.inr hg) hle hs.le h1 (fun _ => rfl) (by omega) (hs.re (E := fun b => b = g) hne).fk).mono ?_
  rintro e X' ⟨rfl, hK, hR⟩
  refine ⟨rfl, hK, hle, _, hR, fun i hi => ?_⟩
  unfold pl
  rw [if_pos (by omega), Nat.sub_zero]
  show F (0 + i) ^^^ fm 285 c (S i) = V i ^^^ fm 285 c (S i)
  rw [Nat.zero_add, h2 i hi]
theorem ro_nmul {X : World} {p : Addr} {lo hi c n g C g1 C1 : Nat} {V S : Nat → Nat} (hk : Nk X p lo hi) (hc : c < 256) (hr : Ro X g C n V) (hs : Ro X g1 C1 n S) (hne : g1 ≠ g) (hg : hi ≤ g) :
    Calls Try.prog 28 #[.pointer (some p), .int .u8 (c : Int), .slice (some ⟨g, 0, none⟩) n C, .slice (some ⟨g1, 0, none⟩) n C1] X fun e X' => e = .returned (.int .i64 0) ∧ Kp g X X' ∧ Ro X' g C n (fun j => fm 285 c (S j)) := by
  obtain ⟨F, h1, h2⟩ := hr.row
  have hcb := hr.big
  have hle := hr.le
  refine (n9mul_far p lo hi c n g 0 C F S _ _ C C1 X hk hc (by omega) (.inr hg) hle hs.le h1 (fun _ => rfl) (by omega) (hs.re (E := fun b => b = g) hne).fk).mono ?_
  rintro e X' ⟨rfl, hK, hR⟩
  refine ⟨rfl, hK, hle, _, hR, fun i hi => ?_⟩
  unfold pl
  rw [if_pos (by omega), Nat.sub_zero]
theorem ro_nadd {X : World} {p : Addr} {lo hi c n g C g1 C1 : Nat} {V S : Nat → Nat} (hk : Nk X p lo hi) (hc : c < 256) (hr : Ro X g C n V) (hs : Ro X g1 C1 n S) (hne : g1 ≠ g) (hg : hi ≤ g) :
    Calls Try.prog 26 #[.pointer (some p), .int .u8 (c : Int), .slice (some ⟨g, 0, none⟩) n C, .slice (some ⟨g1, 0, none⟩) n C1] X fun e X' => e = .returned (.int .i64 0) ∧ Kp g X X' ∧ Ro X' g C n (fun j => V j ^^^ fm 285 c (S j)) := by
  obtain ⟨F, h1, h2⟩ := hr.row
  have hcb := hr.big
  have hle := hr.le
  refine (n9add_far p lo hi c n g 0 C F S _ _ C C1 X hk hc (by omega) (.inr hg) hle hs.le h1 (fun _ => rfl) (by omega) (hs.re (E := fun b => b = g) hne).fk).mono ?_
  rintro e X' ⟨rfl, hK, hR⟩
  refine ⟨rfl, hK, hle, _, hR, fun i hi => ?_⟩
  unfold pl
  rw [if_pos (by omega), Nat.sub_zero]
  show F (0 + i) ^^^ fm 285 c (S i) = V i ^^^ fm 285 c (S i)
  rw [Nat.zero_add, h2 i hi]
theorem ro_smul {X : World} {p : Addr} {lo hi c n g C g1 C1 : Nat} {V S : Nat → Nat} (hk : Sk X p lo hi) (hc : c < 256) (hr : Ro X g C n V) (hs : Ro X g1 C1 n S) (hne : g1 ≠ g) (hg : hi ≤ g) :
    Calls Try.prog 29 #[.pointer (some p), .int .u8 (c : Int), .slice (some ⟨g, 0, none⟩) n C, .slice (some ⟨g1, 0, none⟩) n C1] X fun e X' => e = .returned (.int .i64 0) ∧ Kp g X X' ∧ Ro X' g C n (fun j => fm 285 c (S j)) := by
  obtain ⟨F, h1, h2⟩ := hr.row
  have hcb := hr.big
  have hle := hr.le
  refine (s9mul_far p lo hi c n g 0 C F S _ _ C C1 X hk hc (by omega) (.inr hg) hle hs.le h1 (fun _ => rfl) (by omega) (hs.re (E := fun b => b = g) hne).fk).mono ?_
  rintro e X' ⟨rfl, hK, hR⟩
  refine ⟨rfl, hK, hle, _, hR, fun i hi => ?_⟩
  unfold pl
  rw [if_pos (by omega), Nat.sub_zero]
theorem ro_sadd {X : World} {p : Addr} {lo hi c n g C g1 C1 : Nat} {V S : Nat → Nat} (hk : Sk X p lo hi) (hc : c < 256) (hr : Ro X g C n V) (hs : Ro X g1 C1 n S) (hne : g1 ≠ g) (hg : hi ≤ g) :
    Calls Try.prog 27 #[.pointer (some p), .int .u8 (c : Int), .slice (some ⟨g, 0, none⟩) n C, .slice (some ⟨g1, 0, none⟩) n C1] X fun e X' => e = .returned (.int .i64 0) ∧ Kp g X X' ∧ Ro X' g C n (fun j => V j ^^^ fm 285 c (S j)) := by
  obtain ⟨F, h1, h2⟩ := hr.row
  have hcb := hr.big
  have hle := hr.le
  refine (s9add_far p lo hi c n g 0 C F S _ _ C C1 X hk hc (by omega) (.inr hg) hle hs.le h1 (fun _ => rfl) (by omega) (hs.re (E := fun b => b = g) hne).fk).mono ?_
  rintro e X' ⟨rfl, hK, hR⟩
  refine ⟨rfl, hK, hle, _, hR, fun i hi => ?_⟩
  unfold pl
  rw [if_pos (by omega), Nat.sub_zero]
  show F (0 + i) ^^^ fm 285 c (S i) = V i ^^^ fm 285 c (S i)
  rw [Nat.zero_add, h2 i hi]
theorem ker_low {A X : World} {p : Addr} {lo hi : Nat} (h : Ker A p lo hi) (hh : hi ≤ A.heap.size) (hb : Below A.heap.size A X) : Ker X p lo hi := h.keep (Nat.le_trans hh hb.size) (fun b _ h2 => hb.block b (by omega))
theorem nk_low {A X : World} {p : Addr} {lo hi : Nat} (h : Nk A p lo hi) (hh : hi ≤ A.heap.size) (hb : Below A.heap.size A X) : Nk X p lo hi := h.keep (Nat.le_trans hh hb.size) (fun b _ h2 => hb.block b (by omega))
theorem sk_low {A X : World} {p : Addr} {lo hi : Nat} (h : Sk A p lo hi) (hh : hi ≤ A.heap.size) (hb : Below A.heap.size A X) : Sk X p lo hi := h.keep (Nat.le_trans hh hb.size) (fun b _ h2 => hb.block b (by omega))
/-- three rows of their own above A. -/
structure S3 (A X : World) (ga gb gd Ca Cb Cd n : Nat) (V : Nat → Nat) (U : Nat → Nat) (T : Nat → Nat) : Prop where
  bel : Below A.heap.size A X
  a : Ro X ga Ca n V
  b : Ro X gb Cb n U
  d : Ro X gd Cd n T
  la : A.heap.size ≤ ga
  lb : A.heap.size ≤ gb
  ld : A.heap.size ≤ gd
  ab : ga ≠ gb
  ad : ga ≠ gd
  bd : gb ≠ gd
theorem S3.step {A X X' : World} {ga gb gd Ca Cb Cd n : Nat} {V U T : Nat → Nat} (h : S3 A X ga gb gd Ca Cb Cd n V U T) (hb : Below X.heap.size X X') : S3 A X' ga gb gd Ca Cb Cd n V U T :=
  ⟨h.bel.trans (hb.mono h.bel.size), h.a.below hb, h.b.below hb, h.d.below hb, h.la, h.lb, h.ld, h.ab, h.ad, h.bd⟩
theorem S3.seta {A X X' : World} {ga gb gd Ca Cb Cd n : Nat} {V V' U T : Nat → Nat} (h : S3 A X ga gb gd Ca Cb Cd n V U T) (hk : Kp ga X X') (hr : Ro X' ga Ca n V') : S3 A X' ga gb gd Ca Cb Cd n V' U T :=
  ⟨h.bel.trans (hk.below h.la h.bel.size), hr, h.b.kp hk h.ab.symm, h.d.kp hk h.ad.symm, h.la, h.lb, h.ld, h.ab, h.ad, h.bd⟩
theorem S3.setb {A X X' : World} {ga gb gd Ca Cb Cd n : Nat} {V U U' T : Nat → Nat} (h : S3 A X ga gb gd Ca Cb Cd n V U T) (hk : Kp gb X X') (hr : Ro X' gb Cb n U') : S3 A X' ga gb gd Ca Cb Cd n V U' T :=
  ⟨h.bel.trans (hk.below h.lb h.bel.size), h.a.kp hk h.ab, hr, h.d.kp hk h.bd.symm, h.la, h.lb, h.ld, h.ab, h.ad, h.bd⟩
theorem S3.setd {A X X' : World} {ga gb gd Ca Cb Cd n : Nat} {V U T T' : Nat → Nat} (h : S3 A X ga gb gd Ca Cb Cd n V U T) (hk : Kp gd X X') (hr : Ro X' gd Cd n T') : S3 A X' ga gb gd Ca Cb Cd n V U T' :=
  ⟨h.bel.trans (hk.below h.ld h.bel.size), h.a.kp hk h.ad, h.b.kp hk h.bd, hr, h.la, h.lb, h.ld, h.ab, h.ad, h.bd⟩
/-- the three kernels. -/
structure K3 (A : World) (p q r : Addr) : Prop where
  t : ∃ lo hi, Ker A p lo hi ∧ hi ≤ A.heap.size
  n : ∃ lo hi, Nk A q lo hi ∧ hi ≤ A.heap.size
  s : ∃ lo hi, Sk A r lo hi ∧ hi ≤ A.heap.size
theorem wk_mul {A X : World} {p q r : Addr} {ga gb gd Ca Cb Cd n c : Nat} {V U T S : Nat → Nat} {sv : Value} (hK : K3 A p q r) (h : S3 A X ga gb gd Ca Cb Cd n V U T) (hs : Rb A sv n S) (hn : n ≤ 140737488355328) (hc : c < 256) :
    Calls Try.prog 23 #[sv] X fun e X1 => ∃ g1 C1, e = .returned (.slice (some ⟨g1, 0, none⟩) n C1) ∧
    Calls Try.prog 24 #[.pointer (some p), .int .u8 (c : Int), .slice (some ⟨ga, 0, none⟩) n Ca, .slice (some ⟨g1, 0, none⟩) n C1] X1 fun e X2 => e = .returned (.int .i64 0) ∧
    Calls Try.prog 23 #[sv] X2 fun e X3 => ∃ g2 C2, e = .returned (.slice (some ⟨g2, 0, none⟩) n C2) ∧
    Calls Try.prog 28 #[.pointer (some q), .int .u8 (c : Int), .slice (some ⟨gb, 0, none⟩) n Cb, .slice (some ⟨g2, 0, none⟩) n C2] X3 fun e X4 => e = .returned (.int .i64 0) ∧
    Calls Try.prog 23 #[sv] X4 fun e X5 => ∃ g3 C3, e = .returned (.slice (some ⟨g3, 0, none⟩) n C3) ∧
    Calls Try.prog 29 #[.pointer (some r), .int .u8 (c : Int), .slice (some ⟨gd, 0, none⟩) n Cd, .slice (some ⟨g3, 0, none⟩) n C3] X5 fun e X6 => e = .returned (.int .i64 0) ∧
    S3 A X6 ga gb gd Ca Cb Cd n (fun j => fm 285 c (S j)) (fun j => fm 285 c (S j)) (fun j => fm 285 c (S j)) := by
  obtain ⟨⟨lo1, hi1, k1, l1⟩, ⟨lo2, hi2, k2, l2⟩, ⟨lo3, hi3, k3, l3⟩⟩ := hK
  refine (clone9 sv n S X (hs.below h.bel) hn).mono ?_
  rintro e X1 ⟨g1, C1, rfl, o1⟩
  have s1 := h.step o1.2.2.1
  refine ⟨g1, C1, rfl, (ro_tmul (ker_low k1 l1 s1.bel) hc s1.a o1.ro (by have := o1.2.1; have := h.a.lt; omega) (Nat.le_trans l1 h.la)).mono ?_⟩
  rintro e X2 ⟨rfl, hk, hr⟩
  have s2 := s1.seta hk hr
  refine ⟨rfl, (clone9 sv n S X2 (hs.below s2.bel) hn).mono ?_⟩
  rintro e X3 ⟨g2, C2, rfl, o2⟩
  have s3 := s2.step o2.2.2.1
  refine ⟨g2, C2, rfl, (ro_nmul (nk_low k2 l2 s3.bel) hc s3.b o2.ro (by have := o2.2.1; have := s2.b.lt; omega) (Nat.le_trans l2 h.lb)).mono ?_⟩
  rintro e X4 ⟨rfl, hk2, hr2⟩
  have s4 := s3.setb hk2 hr2
  refine ⟨rfl, (clone9 sv n S X4 (hs.below s4.bel) hn).mono ?_⟩
  rintro e X5 ⟨g3, C3, rfl, o3⟩
  have s5 := s4.step o3.2.2.1
  refine ⟨g3, C3, rfl, (ro_smul (sk_low k3 l3 s5.bel) hc s5.d o3.ro (by have := o3.2.1; have := s4.d.lt; omega) (Nat.le_trans l3 h.ld)).mono ?_⟩
  rintro e X6 ⟨rfl, hk3, hr3⟩
  exact ⟨rfl, s5.setd hk3 hr3⟩
theorem wk_add {A X : World} {p q r : Addr} {ga gb gd Ca Cb Cd n c : Nat} {V U T S : Nat → Nat} {sv : Value} (hK : K3 A p q r) (h : S3 A X ga gb gd Ca Cb Cd n V U T) (hs : Rb A sv n S) (hn : n ≤ 140737488355328) (hc : c < 256) :
    Calls Try.prog 23 #[sv] X fun e X1 => ∃ g1 C1, e = .returned (.slice (some ⟨g1, 0, none⟩) n C1) ∧
    Calls Try.prog 25 #[.pointer (some p), .int .u8 (c : Int), .slice (some ⟨ga, 0, none⟩) n Ca, .slice (some ⟨g1, 0, none⟩) n C1] X1 fun e X2 => e = .returned (.int .i64 0) ∧
    Calls Try.prog 23 #[sv] X2 fun e X3 => ∃ g2 C2, e = .returned (.slice (some ⟨g2, 0, none⟩) n C2) ∧
    Calls Try.prog 26 #[.pointer (some q), .int .u8 (c : Int), .slice (some ⟨gb, 0, none⟩) n Cb, .slice (some ⟨g2, 0, none⟩) n C2] X3 fun e X4 => e = .returned (.int .i64 0) ∧
    Calls Try.prog 23 #[sv] X4 fun e X5 => ∃ g3 C3, e = .returned (.slice (some ⟨g3, 0, none⟩) n C3) ∧
    Calls Try.prog 27 #[.pointer (some r), .int .u8 (c : Int), .slice (some ⟨gd, 0, none⟩) n Cd, .slice (some ⟨g3, 0, none⟩) n C3] X5 fun e X6 => e = .returned (.int .i64 0) ∧
    S3 A X6 ga gb gd Ca Cb Cd n (fun j => V j ^^^ fm 285 c (S j)) (fun j => U j ^^^ fm 285 c (S j)) (fun j => T j ^^^ fm 285 c (S j)) := by
  obtain ⟨⟨lo1, hi1, k1, l1⟩, ⟨lo2, hi2, k2, l2⟩, ⟨lo3, hi3, k3, l3⟩⟩ := hK
  refine (clone9 sv n S X (hs.below h.bel) hn).mono ?_
  rintro e X1 ⟨g1, C1, rfl, o1⟩
  have s1 := h.step o1.2.2.1
  refine ⟨g1, C1, rfl, (ro_tadd (ker_low k1 l1 s1.bel) hc s1.a o1.ro (by have := o1.2.1; have := h.a.lt; omega) (Nat.le_trans l1 h.la)).mono ?_⟩
  rintro e X2 ⟨rfl, hk, hr⟩
  have s2 := s1.seta hk hr
  refine ⟨rfl, (clone9 sv n S X2 (hs.below s2.bel) hn).mono ?_⟩
  rintro e X3 ⟨g2, C2, rfl, o2⟩
  have s3 := s2.step o2.2.2.1
  refine ⟨g2, C2, rfl, (ro_nadd (nk_low k2 l2 s3.bel) hc s3.b o2.ro (by have := o2.2.1; have := s2.b.lt; omega) (Nat.le_trans l2 h.lb)).mono ?_⟩
  rintro e X4 ⟨rfl, hk2, hr2⟩
  have s4 := s3.setb hk2 hr2
  refine ⟨rfl, (clone9 sv n S X4 (hs.below s4.bel) hn).mono ?_⟩
  rintro e X5 ⟨g3, C3, rfl, o3⟩
  have s5 := s4.step o3.2.2.1
  refine ⟨g3, C3, rfl, (ro_sadd (sk_low k3 l3 s5.bel) hc s5.d o3.ro (by have := o3.2.1; have := s4.d.lt; omega) (Nat.le_trans l3 h.ld)).mono ?_⟩
  rintro e X6 ⟨rfl, hk3, hr3⟩
  exact ⟨rfl, s5.setd hk3 hr3⟩
/-- the kernels and the first rows. -/
theorem wk_first {W : World} {n : Nat} {D : Nat → Nat} {dv : Value} (hd : Rb W dv n D) (hn : n ≤ 140737488355328) :
    Calls Try.prog 20 #[] W fun e A1 => ∃ p, e = .returned (.pointer (some p)) ∧ Calls Try.prog 21 #[] A1 fun e A2 => ∃ q, e = .returned (.pointer (some q)) ∧ Calls Try.prog 22 #[] A2 fun e A3 => ∃ r, e = .returned (.pointer (some r)) ∧
    Calls Try.prog 23 #[dv] A3 fun e A4 => ∃ ga Ca, e = .returned (.slice (some ⟨ga, 0, none⟩) n Ca) ∧ Calls Try.prog 23 #[dv] A4 fun e A5 => ∃ gb Cb, e = .returned (.slice (some ⟨gb, 0, none⟩) n Cb) ∧ Calls Try.prog 23 #[dv] A5 fun e A6 => ∃ gd Cd, e = .returned (.slice (some ⟨gd, 0, none⟩) n Cd) ∧
    Calls Try.prog 24 #[.pointer (some p), .int .u8 2, .slice (some ⟨A6.heap.size, 0, none⟩) 1 1, .slice (some ⟨A6.heap.size + 1, 0, none⟩) 1 1] ((A6.alloc (.cells #[.int .u8 0] 5)).alloc (.cells #[.int .u8 128] 5)) fun e A9 => e = .returned (.int .i64 0) ∧ A9.cell? ⟨A6.heap.size, 0, none⟩ = some (.int .u8 29) ∧
    Below W.heap.size W A3 ∧ K3 A3 p q r ∧ S3 A3 A9 ga gb gd Ca Cb Cd n D D D := by
  refine (tknew_any W).mono ?_
  rintro e A1 ⟨p, rfl, k1, b1⟩
  refine ⟨p, rfl, (nnew_any A1).mono ?_⟩
  rintro e A2 ⟨q, rfl, k2, b2⟩
  refine ⟨q, rfl, (snew_any A2).mono ?_⟩
  rintro e A3 ⟨r, rfl, k3, b3⟩
  have b12 := b1.trans (b2.mono b1.size)
  have b13 := b12.trans (b3.mono b12.size)
  have hK : K3 A3 p q r := ⟨⟨_, _, ker_low k1 (Nat.le_refl _) (b2.trans (b3.mono b2.size)), Nat.le_trans b2.size b3.size⟩, ⟨_, _, nk_low k2 (Nat.le_refl _) b3, b3.size⟩, ⟨_, _, k3, Nat.le_refl _⟩⟩
  refine ⟨r, rfl, (clone9 dv n D A3 (hd.below b13) hn).mono ?_⟩
  rintro e A4 ⟨ga, Ca, rfl, oa⟩
  have b4 := b13.trans (oa.2.2.1.mono b13.size)
  refine ⟨ga, Ca, rfl, (clone9 dv n D A4 (hd.below b4) hn).mono ?_⟩
  rintro e A5 ⟨gb, Cb, rfl, ob⟩
  have b5 := b4.trans (ob.2.2.1.mono b4.size)
  refine ⟨gb, Cb, rfl, (clone9 dv n D A5 (hd.below b5) hn).mono ?_⟩
  rintro e A6 ⟨gd, Cd, rfl, od⟩
  have la := oa.ro.lt
  have lb := ob.ro.lt
  have ld := od.ro.lt
  have ha := oa.2.1
  have hb := ob.2.1
  have hd' := od.2.1
  have z5 := ob.2.2.1.size
  have z6 := od.2.2.1.size
  have z4 := oa.2.2.1.size
  have c5 := oa.2.2.1.trans (ob.2.2.1.mono z4)
  have c6 := c5.trans (od.2.2.1.mono c5.size)
  have s6 : S3 A3 A6 ga gb gd Ca Cb Cd n D D D := ⟨c6, (oa.ro.below ob.2.2.1).below od.2.2.1, ob.ro.below od.2.2.1, od.ro, ha, by omega, by omega, by omega, by omega, by omega⟩
  refine ⟨gd, Cd, rfl, ?_⟩
  have r0 := lit_rw [0] A6 (by decide) (by decide)
  have b7 : Below A6.heap.size A6 (A6.alloc (.cells #[.int .u8 0] 5)) := (Below.refl _ _).alloc (Nat.le_refl _) _
  have r1 := lit_rw [128] (A6.alloc (.cells #[.int .u8 0] 5)) (by decide) (by decide)
  have z7 : (A6.alloc (.cells #[.int .u8 0] 5)).heap.size = A6.heap.size + 1 := by simp
  rw [z7] at r1
  have b8 : Below (A6.alloc (.cells #[.int .u8 0] 5)).heap.size (A6.alloc (.cells #[.int .u8 0] 5)) ((A6.alloc (.cells #[.int .u8 0] 5)).alloc (.cells #[.int .u8 128] 5)) := (Below.refl _ _).alloc (Nat.le_refl _) _
  have s8 := (s6.step b7).step b8
  have r0a : Ro (A6.alloc (.cells #[.int .u8 0] 5)) A6.heap.size 1 1 (fun _ => 0) := ⟨Nat.le_refl _, _, r0, fun i hi => by
    obtain rfl : i = 0 := by omega
    rfl⟩
  have r0' := r0a.below b8
  have r1' : Ro ((A6.alloc (.cells #[.int .u8 0] 5)).alloc (.cells #[.int .u8 128] 5)) (A6.heap.size + 1) 1 1 (fun _ => 128) := ⟨Nat.le_refl _, _, r1, fun i hi => by
    obtain rfl : i = 0 := by omega
    rfl⟩
  obtain ⟨lo1, hi1, t1, t2⟩ := hK.t
  refine (ro_tmul (c := 2) (ker_low t1 t2 s8.bel) (by decide) r0' r1' (by omega) (by omega)).mono ?_
  rintro e A9 ⟨rfl, hk, hr⟩
  have nk : ∀ x, A6.heap.size ≤ x → x ≠ ga ∧ x ≠ gb ∧ x ≠ gd := fun x hx => ⟨by omega, by omega, by omega⟩
  obtain ⟨F, h1, h2⟩ := hr.row
  refine ⟨rfl, ?_, b13, hK, s8.bel.trans (hk.below c6.size s8.bel.size), s8.a.kp hk (by omega), s8.b.kp hk (by omega), s8.d.kp hk (by omega), s8.la, s8.lb, s8.ld, s8.ab, s8.ad, s8.bd⟩
  rw [h1.2.2.cell (i := 0) (by decide), h2 0 (by decide)]
  have : fm 285 2 128 = 29 := by decide +kernel
  rw [this]
  rfl
theorem Ks.below' {w w' : World} {p : Addr} {b lo hi : Nat} (h : Ks w p b lo hi) (hb : Below w.heap.size w w') : Ks w' p b lo hi := h.keep (Nat.le_trans h.hi hb.size) (fun x _ h2 => hb.block x (Nat.lt_of_lt_of_le h2 h.hi))
/-- a set of the front. -/
theorem wk_set {A X : World} {n c b : Nat} {D S : Nat → Nat} {dv sv : Value} (hb : b ≤ 2) (hX : Below A.heap.size A X) (hd : Rb A dv n D) (hs : Rb A sv n S) (hn : n ≤ 140737488355328) (hc : c < 256) :
    Calls Try.prog 30 #[.int .i64 (b : Int)] X fun e X1 => ∃ p, e = .returned (.tuple #[.pointer (some p), .int .i64 0]) ∧
    Calls Try.prog 23 #[dv] X1 fun e X2 => ∃ gx Cx, e = .returned (.slice (some ⟨gx, 0, none⟩) n Cx) ∧ Calls Try.prog 23 #[dv] X2 fun e X3 => ∃ gy Cy, e = .returned (.slice (some ⟨gy, 0, none⟩) n Cy) ∧
    Calls Try.prog 23 #[sv] X3 fun e X4 => ∃ g1 C1, e = .returned (.slice (some ⟨g1, 0, none⟩) n C1) ∧
    Calls Try.prog 31 #[.pointer (some p), .int .u8 (c : Int), .slice (some ⟨gx, 0, none⟩) n Cx, .slice (some ⟨g1, 0, none⟩) n C1] X4 fun e X5 => e = .returned (.int .i64 0) ∧
    Calls Try.prog 23 #[sv] (X5.alloc (.cells #[.int .u8 (c : Int)] 5)) fun e X7 => ∃ g2 C2, e = .returned (.slice (some ⟨g2, 0, none⟩) n C2) ∧
    Calls Try.prog 16 #[.pointer (some p), .slice (some ⟨X5.heap.size, 0, none⟩) 1 1, .slice (some ⟨X7.heap.size, 0, none⟩) 1 1, .slice (some ⟨gy, 0, none⟩) n Cy] (X7.alloc (.cells #[.slice (some ⟨g2, 0, none⟩) n C2] 25)) fun e X9 => e = .returned (.int .i64 0) ∧
    Below A.heap.size A X9 ∧ Ro X9 gx Cx n (fun j => D j ^^^ fm 285 c (S j)) ∧ Ro X9 gy Cy n (fun j => fm 285 c (S j)) := by
  refine (knew_ok b X hb).mono ?_
  rintro e X1 ⟨p, rfl, hK, hb1⟩
  have a1 := hX.trans (hb1.mono hX.size)
  refine ⟨p, rfl, (clone9 dv n D X1 (hd.below a1) hn).mono ?_⟩
  rintro e X2 ⟨gx, Cx, rfl, ox⟩
  have a2 := a1.trans (ox.2.2.1.mono a1.size)
  refine ⟨gx, Cx, rfl, (clone9 dv n D X2 (hd.below a2) hn).mono ?_⟩
  rintro e X3 ⟨gy, Cy, rfl, oy⟩
  have a3 := a2.trans (oy.2.2.1.mono a2.size)
  refine ⟨gy, Cy, rfl, (clone9 sv n S X3 (hs.below a3) hn).mono ?_⟩
  rintro e X4 ⟨g1, C1, rfl, o1⟩
  have a4 := a3.trans (o1.2.2.1.mono a3.size)
  have z1 := hX.size
  have z2 := ox.2.2.1.size
  have z3 := oy.2.2.1.size
  have z4 := o1.2.2.1.size
  have lx := ox.ro.lt
  have ly := oy.ro.lt
  have l1 := o1.ro.lt
  have hx := ox.2.1
  have hy := oy.2.1
  have h1 := o1.2.1
  have zz := hb1.size
  have rx : Ro X4 gx Cx n D := (ox.ro.below oy.2.2.1).below o1.2.2.1
  have ry : Ro X4 gy Cy n D := oy.ro.below o1.2.2.1
  have k2 := ((hK.below' ox.2.2.1).below' oy.2.2.1).below' o1.2.2.1
  obtain ⟨F, f1, f2⟩ := rx.row
  refine ⟨g1, C1, rfl, (kadd_far p b _ _ c n gx 0 Cx F S _ Cx _ X4 rx.le rx.big k2 hc (by have := rx.le; have := rx.big; omega) (.inr hx) f1 (fun _ => rfl) (by have := rx.le; omega) (o1.ro.re (E := fun x => x = gx) (by omega))).mono ?_⟩
  rintro e X5 ⟨rfl, hk5, r5⟩
  have rx5 : Ro X5 gx Cx n (fun j => D j ^^^ fm 285 c (S j)) := ⟨rx.le, _, r5, fun i hi => by
    unfold pl
    rw [if_pos (by omega), Nat.sub_zero]
    show F (0 + i) ^^^ fm 285 c (S i) = D i ^^^ fm 285 c (S i)
    rw [Nat.zero_add, f2 i hi]⟩
  have ry5 := ry.kp hk5 (by omega)
  have a5 := a4.trans (hk5.below (by omega) a4.size)
  have z5 := hk5.1.size
  have c5 : Below X1.heap.size X1 X5 := ((ox.2.2.1.trans (oy.2.2.1.mono z2)).trans (o1.2.2.1.mono (by omega))).trans (hk5.below hx (by omega))
  have b6 : Below X5.heap.size X5 (X5.alloc (.cells #[.int .u8 (c : Int)] 5)) := (Below.refl _ _).alloc (Nat.le_refl _) _
  have rl := lit_rw [c] X5 (by simpa using hc) (by simp)
  have rl : Ro (X5.alloc (.cells #[.int .u8 (c : Int)] 5)) X5.heap.size 1 1 (fun _ => c) := ⟨Nat.le_refl _, _, rl, fun i hi => by
    obtain rfl : i = 0 := by omega
    rfl⟩
  have a6 := a5.trans (b6.mono a5.size)
  refine ⟨rfl, (clone9 sv n S _ (hs.below a6) hn).mono ?_⟩
  rintro e X7 ⟨g2, C2, rfl, o2⟩
  have b8 : Below X7.heap.size X7 (X7.alloc (.cells #[.slice (some ⟨g2, 0, none⟩) n C2] 25)) := (Below.refl _ _).alloc (Nat.le_refl _) _
  have z6 : (X5.alloc (.cells #[.int .u8 (c : Int)] 5)).heap.size = X5.heap.size + 1 := by simp
  have z7 := o2.2.2.1.size
  have h2 := o2.2.1
  have l2 := o2.ro.lt
  have c6 := c5.trans (b6.mono c5.size)
  have c7 := c6.trans (o2.2.2.1.mono c6.size)
  have c8 := c7.trans (b8.mono c7.size)
  have a7 := a6.trans (o2.2.2.1.mono a6.size)
  have a8 := a7.trans (b8.mono a7.size)
  have rx8 := ((rx5.below b6).below o2.2.2.1).below b8
  have ry8 := ((ry5.below b6).below o2.2.2.1).below b8
  have rl8 := (rl.below o2.2.2.1).below b8
  have ro8 := o2.ro.below b8
  obtain ⟨G, j1, j2⟩ := ry8.row
  have hl : Lv (fun x => x = gy) (X7.alloc (.cells #[.slice (some ⟨g2, 0, none⟩) n C2] 25)) (.slice (some ⟨X7.heap.size, 0, none⟩) 1 1) 1 (fun _ => .slice (some ⟨g2, 0, none⟩) n C2) := one_lv (by simp) (by omega) (by rw [cell_of_row _ _ 0 _ _ _ (heap_alloc_new _ _)]; rfl)
  refine ⟨g2, C2, rfl, (kdot_ok p b _ _ 1 n gy 0 Cy G (fun _ => c) (fun _ => S) _ Cy _ _ _ ry8.le ry8.big (hK.below' c8) (by have := ry8.le; have := ry8.big; omega) (by decide) (.inr (by omega)) j1 (fun _ => rfl) (by have := ry8.le; omega) (rl8.re (E := fun x => x = gy) (by omega)) ⟨_, hl, fun i hi => ro8.re (E := fun x => x = gy) (by omega)⟩).mono ?_⟩
  rintro e X9 ⟨rfl, hk9, r9⟩
  refine ⟨rfl, a8.trans (hk9.below (by omega) a8.size), rx8.kp hk9 (by omega), ry8.le, _, r9, fun i hi => ?_⟩
  unfold pl
  rw [if_pos (by omega), Nat.sub_zero]
  show ks (fun _ => c) (fun _ => S) 0 i ^^^ fm 285 c (S i) = fm 285 c (S i)
  exact Nat.zero_xor _
end Go.Proofs.Ytdolghlphmjcdab
