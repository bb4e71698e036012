import Derived.Test.YtjoaagkhanbhiaaSnb
import Derived.Test.YtjoaagkhanbhiaaSws
namespace Go.Proofs.Ytjoaagkhanbhiaa
open Go.RowKit Gf2
set_option linter.unusedVariables false

/-- a list of bytes, a list of words, a boxed array of 64 bytes: each in a block of its own. -/
structure It where
  kd : Nat
  blk : Nat
  C : Nat
  n : Nat
  T : Nat → Nat
abbrev It.b8 (g C n : Nat) (T : Nat → Nat) : It := ⟨0, g, C, n, T⟩
abbrev It.b64 (g C n : Nat) (T : Nat → Nat) : It := ⟨1, g, C, n, T⟩
abbrev It.bx (g : Nat) (S : Nat → Nat) : It := ⟨2, g, 64, 64, S⟩
def It.ok (W : World) : It → Prop
  | ⟨0, g, C, n, T⟩ => n ≤ C ∧ ∃ F, Rw W g C F ∧ ∀ i, i < n → F i = T i
  | ⟨1, g, C, n, T⟩ => n ≤ C ∧ ∃ F, Rv W g C F ∧ ∀ i, i < n → F i = T i
  | ⟨_ + 2, g, _, _, S⟩ => W.heap[g]? = some (.cells (a64 S) 22 (0, 0)) ∧ ∀ i, i < 64 → S i < 256
theorem It.lt {W : World} : ∀ {x : It}, x.ok W → x.blk < W.heap.size
  | ⟨0, g, C, n, T⟩, ⟨_, F, h, _⟩ => h.2.2.lt
  | ⟨1, g, C, n, T⟩, ⟨_, F, h, _⟩ => h.2.2.lt
  | ⟨_ + 2, g, _, _, S⟩, h => (Array.getElem?_eq_some_iff.1 h.1).1
theorem It.of_block {W W' : World} : ∀ {x : It}, x.ok W → W'.heap[x.blk]? = W.heap[x.blk]? → x.ok W'
  | ⟨0, g, C, n, T⟩, ⟨h0, F, h, h2⟩, e => ⟨h0, F, ⟨h.1, h.2.1, h.2.2.of_block e⟩, h2⟩
  | ⟨1, g, C, n, T⟩, ⟨h0, F, h, h2⟩, e => ⟨h0, F, ⟨h.1, h.2.1, h.2.2.of_block e⟩, h2⟩
  | ⟨_ + 2, g, _, _, S⟩, h, e => ⟨e.trans h.1, h.2⟩
/-- what there is: all above w. -/
structure Al (w W : World) (l : List It) : Prop where
  bel : Below w.heap.size w W
  ok : ∀ (k : Nat) (x : It), l[k]? = some x → w.heap.size ≤ x.blk ∧ x.ok W
  ne : ∀ (j k : Nat) (x y : It), l[j]? = some x → l[k]? = some y → j ≠ k → x.blk ≠ y.blk
section
variable {w W : World} {l : List It}
theorem Al.nil (w : World) : Al w w [] := ⟨Below.refl _ _, fun k x h => by simp at h, fun j k x y h => by simp at h⟩
theorem Al.below (h : Al w W l) {W' : World} (hb : Below W.heap.size W W') : Al w W' l :=
  ⟨h.bel.trans (hb.mono h.bel.size), fun k x hk => ⟨(h.ok k x hk).1, It.of_block (h.ok k x hk).2 (hb.block _ (It.lt (h.ok k x hk).2))⟩, h.ne⟩
theorem Al.add (h : Al w W l) {W' : World} (hb : Below W.heap.size W W') {x : It} (hx : W.heap.size ≤ x.blk) (ho : x.ok W') : Al w W' (x :: l) := by
  have h2 := h.below hb
  have hs := h.bel.size
  refine ⟨h2.bel, fun k y hk => ?_, fun j k y z hj hk e => ?_⟩
  · cases k with
    | zero => cases hk; exact ⟨by omega, ho⟩
    | succ k => exact h2.ok k y hk
  · cases j with
    | zero =>
      cases k with
      | zero => exact absurd rfl e
      | succ k =>
        cases hj
        have := It.lt (h.ok k z hk).2
        omega
    | succ j =>
      cases k with
      | zero =>
        cases hk
        have := It.lt (h.ok j y hj).2
        omega
      | succ k => exact h.ne j k y z hj hk (by omega)
theorem Al.put (h : Al w W l) {k : Nat} {x y : It} (hk : l[k]? = some x) {W' : World} (hbel : Below w.heap.size W W') (hb : ∀ b, b ≠ x.blk → b < W.heap.size → W'.heap[b]? = W.heap[b]?) (e : y.blk = x.blk) (ho : y.ok W') : Al w W' (l.set k y) := by
  have hl : k < l.length := (List.getElem?_eq_some_iff.1 hk).1
  have key : ∀ m z, (l.set k y)[m]? = some z → (m = k ∧ z = y) ∨ (m ≠ k ∧ l[m]? = some z) := by
    intro m z hm
    by_cases c : k = m
    · subst c
      rw [List.getElem?_set_self hl] at hm
      exact .inl ⟨rfl, (Option.some.inj hm).symm⟩
    · rw [List.getElem?_set_ne c] at hm
      exact .inr ⟨fun e => c e.symm, hm⟩
  refine ⟨h.bel.trans hbel, fun m z hm => ?_, fun i j a b hi hj c => ?_⟩
  · rcases key m z hm with ⟨-, rfl⟩ | ⟨c, hm⟩
    · exact ⟨by rw [e]; exact (h.ok k x hk).1, ho⟩
    · have := h.ok m z hm
      exact ⟨this.1, It.of_block this.2 (hb _ (h.ne m k z x hm hk c) (It.lt this.2))⟩
  · rcases key i a hi with ⟨ei, rfl⟩ | ⟨ci, hi'⟩ <;> rcases key j b hj with ⟨ej, rfl⟩ | ⟨cj, hj'⟩
    · exact absurd (ei.trans ej.symm) c
    · rw [e]; exact h.ne k j x b hk hj' (fun c => cj c.symm)
    · rw [e]; exact h.ne i k a x hi' hk ci
    · exact h.ne i j a b hi' hj' c
theorem Al.mem (h : Al w W l) {x : It} (hm : x ∈ l) : w.heap.size ≤ x.blk ∧ x.ok W := by
  obtain ⟨k, hk⟩ := List.getElem?_of_mem hm
  exact h.ok k x hk
theorem Al.rb (h : Al w W l) {g C n : Nat} {T : Nat → Nat} (hm : It.b8 g C n T ∈ l) : Rb W (.slice (some ⟨g, 0, none⟩) n C) n T := by
  obtain ⟨-, h1, F, h2, h3⟩ := h.mem hm
  exact head7 h2 h1 h3
theorem Al.rq (h : Al w W l) {g C n : Nat} {T : Nat → Nat} (hm : It.b64 g C n T ∈ l) : Rq W (.slice (some ⟨g, 0, none⟩) n C) n T := by
  obtain ⟨-, h1, F, h2, h3⟩ := h.mem hm
  exact h2.rq h1 h1 h2.1 h3
theorem Al.box (h : Al w W l) {g : Nat} {S : Nat → Nat} (hm : It.bx g S ∈ l) : Rb W (.slice (some ⟨g, 0, none⟩) 64 64) 64 S :=
  a64_rb (h.mem hm).2.1 (h.mem hm).2.2
theorem al_planes (h : Al w W l) {g C : Nat} {T : Nat → Nat} (hm : It.b8 g C 64 T ∈ l) :
    Calls Try.prog 4 #[.slice (some ⟨g, 0, none⟩) 64 C] W fun e W' => ∃ b, e = .returned (.tuple #[.slice (some ⟨b, 0, none⟩) 8 pC, .int .i64 0]) ∧ Al w W' (.b64 b pC 8 (fun i => pln T i 64) :: l) :=
  (splanes_ok _ T W (h.rb hm)).mono fun e W' ⟨b, F, h1, h2, h3, h4, h5⟩ => ⟨b, h1, h.add h5 h2 ⟨by decide, F, h3, h4⟩⟩
theorem al_rplanes (h : Al w W l) {g C : Nat} {T : Nat → Nat} (hm : It.b8 g C 64 T ∈ l) :
    Calls Try.prog 5 #[.slice (some ⟨g, 0, none⟩) 64 C] W fun e W' => ∃ b, e = .returned (.tuple #[.slice (some ⟨b, 0, none⟩) 8 8, .int .i64 0]) ∧ Al w W' (.b64 b 8 8 (fun i => pln T i 64) :: l) :=
  (refPlanes7_ok _ _ T W (h.rb hm)).mono fun e W' ⟨h1, h2, h3⟩ => ⟨_, h1, h.add h3 (Nat.le_refl _) ⟨Nat.le_refl _, _, h2, fun _ _ => rfl⟩⟩
theorem al_bplanes (h : Al w W l) {g : Nat} {T : Nat → Nat} (hm : It.bx g T ∈ l) :
    Calls Try.prog 5 #[.slice (some ⟨g, 0, none⟩) 64 64] W fun e W' => ∃ b, e = .returned (.tuple #[.slice (some ⟨b, 0, none⟩) 8 8, .int .i64 0]) ∧ Al w W' (.b64 b 8 8 (fun i => pln T i 64) :: l) :=
  (refPlanes7_ok _ _ T W (h.box hm)).mono fun e W' ⟨h1, h2, h3⟩ => ⟨_, h1, h.add h3 (Nat.le_refl _) ⟨Nat.le_refl _, _, h2, fun _ _ => rfl⟩⟩
theorem al_block (h : Al w W l) {g C : Nat} {T : Nat → Nat} (hm : It.b64 g C 8 (fun i => pln T i 64) ∈ l) (hT : ∀ i, i < 64 → T i < 256) :
    Calls Try.prog 7 #[.slice (some ⟨g, 0, none⟩) 8 C] W fun e W' => ∃ b, e = .returned (.tuple #[.slice (some ⟨b, 0, none⟩) 64 bC, .int .i64 0]) ∧ Al w W' (.b8 b bC 64 T :: l) :=
  (sblock_ok _ _ W (h.rq hm)).mono fun e W' ⟨b, F, h1, h2, h3, h4, h5⟩ => ⟨b, h1, h.add h5 h2 ⟨by decide, F, h3, fun i hi => (h4 i hi).trans (pln_back hi (hT i hi))⟩⟩
theorem al_cols (h : Al w W l) (c : Nat) (hc : c < 256) :
    Calls Try.prog 9 #[.int .u8 (c : Int)] W fun e W' => ∃ b, e = .returned (.slice (some ⟨b, 0, none⟩) 8 cC) ∧ Al w W' (.b8 b cC 8 (fun i => fm 285 c (2 ^ i)) :: l) :=
  (scols_any c W hc).mono fun e W' ⟨b, F, h1, h2, h3, h4, h5⟩ => ⟨b, h1, h.add h5 h2 ⟨by decide, F, h3, h4⟩⟩
theorem al_rcols (h : Al w W l) (c : Nat) (hc : c < 256) :
    Calls Try.prog 10 #[.int .u8 (c : Int)] W fun e W' => ∃ b, e = .returned (.slice (some ⟨b, 0, none⟩) 8 8) ∧ Al w W' (.b8 b 8 8 (fun i => fm 285 c (2 ^ i)) :: l) :=
  (refCols7 c W hc).mono fun e W' ⟨h1, h2, h3⟩ => ⟨_, h1, h.add h3 (Nat.le_refl _) ⟨Nat.le_refl _, _, h2, fun _ _ => rfl⟩⟩
theorem al_sameb (h : Al w W l) {g C g' C' n : Nat} {T : Nat → Nat} (h1 : It.b8 g C n T ∈ l) (h2 : It.b8 g' C' n T ∈ l) :
    Calls Try.prog 8 #[.slice (some ⟨g, 0, none⟩) n C, .slice (some ⟨g', 0, none⟩) n C'] W fun e W' => e = .returned (.bool true) ∧ Al w W' l :=
  (same7_true _ _ n T W (h.rb h1) (h.rb h2)).mono fun e W' ⟨h5, m, h6⟩ => by subst h6; exact ⟨h5, h.below (below_self _ _)⟩
theorem al_samex (h : Al w W l) {g C g' : Nat} {T : Nat → Nat} (h1 : It.b8 g C 64 T ∈ l) (h2 : It.bx g' T ∈ l) :
    Calls Try.prog 8 #[.slice (some ⟨g, 0, none⟩) 64 C, .slice (some ⟨g', 0, none⟩) 64 64] W fun e W' => e = .returned (.bool true) ∧ Al w W' l :=
  (same7_true _ _ 64 T W (h.rb h1) (h.box h2)).mono fun e W' ⟨h5, m, h6⟩ => by subst h6; exact ⟨h5, h.below (below_self _ _)⟩
theorem al_samew (h : Al w W l) {g C g' C' n : Nat} {T : Nat → Nat} (h1 : It.b64 g C n T ∈ l) (h2 : It.b64 g' C' n T ∈ l) :
    Calls Try.prog 6 #[.slice (some ⟨g, 0, none⟩) n C, .slice (some ⟨g', 0, none⟩) n C'] W fun e W' => e = .returned (.bool true) ∧ Al w W' l :=
  (samew7_true _ _ n T W (h.rq h1) (h.rq h2)).mono fun e W' ⟨h5, m, h6⟩ => by subst h6; exact ⟨h5, h.below (below_self _ _)⟩
end
end Go.Proofs.Ytjoaagkhanbhiaa
