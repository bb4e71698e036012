import Derived.Test.YtngmhlpdkbekgabSra
namespace Go.Proofs.Ytngmhlpdkbekgab
open Go.RowKit Gf2
set_option linter.unusedVariables false

/-- integers behind a slice value. -/
def Ri (w : World) (v : Value) (n : Nat) (K : Nat → Int) : Prop := n ≤ big ∧ ∃ a cap, v = .slice a n cap ∧ (0 < n → ∃ b o, a = some ⟨b, o, none⟩ ∧ b < w.heap.size ∧ ∀ i, i < n → w.cell? ⟨b, o + i, none⟩ = some (.int .i64 (K i)))
theorem elem_u8 : Try.prog.elem 22 = 5 := by kernel_rfl
theorem size_u8 (W : World) : (sizeOf 5).run Try.prog W = .ok 1 W := by
  obtain ⟨i, hi, -, hs, -⟩ := info_u8a
  simp [sizeOf, typeInfo, hi, hs]
theorem cut_rb {w : World} {x : Option Addr} {n cx lo m : Nat} {S : Nat → Nat} (h : Rb w (.slice x n cx) n S) (hlo : lo ≤ m) (hm : m ≤ n) :
    ∃ a, Rb w (.slice a (m - lo) (cx - lo)) (m - lo) (fun j => S (lo + j)) ∧ (∀ W : World, (Instr.slice 22 (.slice x n cx) (some (.int .i64 (lo : Int))) (some (.int .i64 (m : Int))) none).run Try.prog W = .ok (.slice a (m - lo) (cx - lo)) W) ∧
      (m = n → ∀ W : World, (Instr.slice 22 (.slice x n cx) (some (.int .i64 (lo : Int))) none none).run Try.prog W = .ok (.slice a (m - lo) (cx - lo)) W) := by
  obtain ⟨b1, b2, a, c', b3, b5, b6, b4⟩ := h
  cases b3
  have hu : Try.prog.underlying 22 = some (.slice (Try.prog.elem 22)) := by rw [elem_u8]; exact Try.underlying22
  refine ⟨if cx = lo then x else x.map (·.add lo), ⟨by omega, fun i hi => b2 _ (by omega), _, _, rfl, by omega, by omega, fun h0 => ?_⟩, fun W => ?_, fun e W => ?_⟩
  · obtain ⟨b, o, rfl, hl, hc⟩ := b4 (by omega)
    refine ⟨b, o + lo, ?_, hl, fun i hi => by rw [Nat.add_assoc]; exact hc _ (by omega)⟩
    rw [if_neg (by omega)]
    show some ((⟨b, o, none⟩ : Addr).add lo) = _
    rw [Addr.add_lit]
  · have h := run_slice_lh (P := Try.prog) (w := W) 22 x n cx hu .i64 .i64 (lo : Int) (m : Int) (by omega) (by omega) (by omega)
    rw [h, elem_u8, size_u8]
    simp only [Result.andThen, sliced, Int.toNat_natCast, Nat.mul_one]
  · subst e
    have h := run_slice_l (P := Try.prog) (w := W) 22 x m cx hu .i64 (lo : Int) (by omega) (by omega)
    rw [h, elem_u8, size_u8]
    simp only [Result.andThen, sliced, Int.toNat_natCast, Nat.mul_one]
theorem far_rb {w W : World} {x : Option Addr} {n cx g : Nat} {S : Nat → Nat} (h : Rb w (.slice x n cx) n S) (hb : Below w.heap.size w W) (hg : w.heap.size ≤ g) : Fk W g n x S := by
  obtain ⟨b1, b2, a, c', b3, b5, b6, b4⟩ := h
  cases b3
  refine ⟨b2, fun h0 => ?_⟩
  obtain ⟨b, o, e, hl, hc⟩ := b4 h0
  exact ⟨b, o, e, by omega, Nat.lt_of_lt_of_le hl hb.size, fun i hi => (hb.cell (p := ⟨b, o + i, none⟩) hl).trans (hc i hi)⟩
/-- a piece of a row as dst: where it lies. -/
theorem piece_at {w : World} {g n cap lo m : Nat} {F : Nat → Nat} (hr : Rw w g n F) (hlo : lo ≤ m) (hm : m ≤ n) :
    ∃ a, (0 < m - lo → a = some ⟨g, lo, none⟩) ∧ (∀ W : World, (Instr.slice 22 (.slice (some ⟨g, 0, none⟩) n n) (some (.int .i64 (lo : Int))) (some (.int .i64 (m : Int))) none).run Try.prog W = .ok (.slice a (m - lo) (n - lo)) W) ∧
      (m = n → ∀ W : World, (Instr.slice 22 (.slice (some ⟨g, 0, none⟩) n n) (some (.int .i64 (lo : Int))) none none).run Try.prog W = .ok (.slice a (m - lo) (n - lo)) W) := by
  have hu : Try.prog.underlying 22 = some (.slice (Try.prog.elem 22)) := by rw [elem_u8]; exact Try.underlying22
  refine ⟨if n = lo then some ⟨g, 0, none⟩ else (some (⟨g, 0, none⟩ : Addr)).map (·.add lo), fun h0 => ?_, fun W => ?_, fun e W => ?_⟩
  · rw [if_neg (by omega)]
    show some ((⟨g, 0, none⟩ : Addr).add lo) = _
    rw [Addr.add_lit, Nat.zero_add]
  · have h := run_slice_lh (P := Try.prog) (w := W) 22 (some ⟨g, 0, none⟩) n n hu .i64 .i64 (lo : Int) (m : Int) (by omega) (by omega) (by omega)
    rw [h, elem_u8, size_u8]
    simp only [Result.andThen, sliced, Int.toNat_natCast, Nat.mul_one]
  · subst e
    have h := run_slice_l (P := Try.prog) (w := W) 22 (some ⟨g, 0, none⟩) m m hu .i64 (lo : Int) (by omega) (by omega)
    rw [h, elem_u8, size_u8]
    simp only [Result.andThen, sliced, Int.toNat_natCast, Nat.mul_one]
/-- what stands while the pieces are made. -/
structure Pc (w W : World) (p : Addr) (lo hi gW gP n : Nat) (P T : Nat → Nat) (e : Nat) : Prop where
  bel : Below w.heap.size w W
  k : Sk W p lo hi
  rW : Rw W gW n P
  rP : Rw W gP n T
  ne : gW ≠ gP
  lP : w.heap.size ≤ gP
  kP : hi ≤ gP
  upto : ∀ j, j < e → T j = P j
theorem Pc.drewN {w W : World} {p : Addr} {lo hi gW gP n : Nat} {P T : Nat → Nat} {e : Nat} (h : Pc w W p lo hi gW gP n P T e) (m : Nat) : Pc w (W.drewN m) p lo hi gW gP n P T e :=
  ⟨below_drewN h.bel m, sk_below h.k (below_self _ _), h.rW.drewN m, h.rP.drewN m, h.ne, h.lP, h.kP, h.upto⟩
theorem Pc.drew {w W : World} {p : Addr} {lo hi gW gP n : Nat} {P T : Nat → Nat} {e : Nat} (h : Pc w W p lo hi gW gP n P T e) : Pc w W.drew p lo hi gW gP n P T e := h.drewN 1
theorem kp_below_all7 {g : Nat} {a b c : World} (h : Below a.heap.size a b) (k : Kp g b c) (hg : a.heap.size ≤ g) : Below a.heap.size a c := h.trans (k.below hg h.size)
/-- one piece more. -/
theorem pc_mul {w W : World} {p : Addr} {lo hi gW gP n c e m : Nat} {S T : Nat → Nat} {a x : Option Addr} {ca cx : Nat} (hca : m - e ≤ ca) (h : Pc w W p lo hi gW gP n (fun i => fm 285 c (S i)) T e) (hc : c < 256) (hem : e ≤ m) (hm : m ≤ n)
    (ha : 0 < m - e → a = some ⟨gP, e, none⟩) (hx : Rb w (.slice x (m - e) cx) (m - e) (fun j => S (e + j))) :
    Calls Try.prog 8 #[.pointer (some p), .int .u8 (c : Int), .slice a (m - e) ca, .slice x (m - e) cx] W fun r W' => r = .returned (.int .i64 0) ∧ ∃ T', Pc w W' p lo hi gW gP n (fun i => fm 285 c (S i)) T' m := by
  refine (smul_far p lo hi c (m - e) gP e n T (fun j => S (e + j)) a x ca cx hca (rb_cap hx) W h.k hc hx.1 (.inr h.kP) h.rP ha (by omega) (far_rb hx h.bel h.lP)).mono fun r W' ⟨h1, h2, h3⟩ => ⟨h1, _, kp_below_all7 h.bel h2 h.lP, sk_kp h.k h2 (.inr h.kP), h2.rw_ h.rW h.ne, h3, h.ne, h.lP, h.kP, fun j hj => ?_⟩
  unfold pl
  split
  · next e1 => show fm 285 c (S (e + (j - e))) = fm 285 c (S j); rw [show e + (j - e) = j by omega]
  · exact h.upto j (by omega)
end Go.Proofs.Ytngmhlpdkbekgab
