import Derived.Test.YtefhlnplegagfaaEbn
import Derived.Test.YtefhlnplegagfaaEbq
import Derived.Test.YtefhlnplegagfaaEbt
namespace Go.Proofs.Ytefhlnplegagfaa
open Go.RowKit Gf2
set_option linter.unusedVariables false

/-- a sum of bytes. -/
def ad (a b : Nat) : Nat := (a + b) % 256
theorem ad_lt (a b : Nat) : ad a b < 256 := Nat.mod_lt _ (by decide)
/-- where the lists of 'again' lie. -/
structure Pl (w : World) (hi g C h n : Nat) : Prop where
  lo : hi ≤ w.heap.size
  g1 : w.heap.size ≤ g
  g2 : g < h
  nC : n ≤ C
  nb : n ≤ big
/-- the lists of 'again': s in row g, the others in rows h to h + 3. -/
structure AG (w W : World) (p : Addr) (lo hi g C h n : Nat) (S A B D E : Nat → Nat) : Prop where
  bel : Below w.heap.size w W
  ker : Ker W p lo hi
  s : ∃ F, Rw W g C F ∧ ∀ i, i < n → F i = S i
  a : Rw W h n A
  b : Rw W (h + 1) n B
  d : Rw W (h + 2) n D
  e : Rw W (h + 3) n E

section
variable {w W W' : World} {p : Addr} {lo hi g C h n : Nat} {S A B D E : Nat → Nat}
theorem AG.drewN (H : AG w W p lo hi g C h n S A B D E) (m : Nat) : AG w (W.drewN m) p lo hi g C h n S A B D E := by
  obtain ⟨F, h1, h2⟩ := H.s
  exact ⟨below_drewN H.bel m, H.ker.drewN m, ⟨F, h1.drewN m, h2⟩, H.a.drewN m, H.b.drewN m, H.d.drewN m, H.e.drewN m⟩
theorem AG.congrS (H : AG w W p lo hi g C h n S A B D E) {S' : Nat → Nat} (e : ∀ i, i < n → S i = S' i) : AG w W p lo hi g C h n S' A B D E := by
  obtain ⟨F, h1, h2⟩ := H.s
  exact ⟨H.bel, H.ker, ⟨F, h1, fun i hi => (h2 i hi).trans (e i hi)⟩, H.a, H.b, H.d, H.e⟩
/-- s turned at place k. -/
theorem AG.put (H : AG w W p lo hi g C h n S A B D E) (P : Pl w hi g C h n) {k v : Nat} (hk : k < n) (hv : v < 256) : AG w (W.setCell ⟨g, k, none⟩ (.int .u8 (v : Int))) p lo hi g C h n (up S k v) A B D E := by
  obtain ⟨F, h1, h2⟩ := H.s
  have o : Only g W (W.setCell ⟨g, k, none⟩ (.int .u8 (v : Int))) := (Only.refl g W).setCell k _
  have l1 := P.lo
  have l2 := P.g1
  have l3 := P.g2
  have hr : Rw (W.setCell ⟨g, k, none⟩ (.int .u8 (v : Int))) g C (up F k v) := by
    refine ⟨h1.1, fun i hi => ?_, (h1.2.2.set k _).congr (fun i hi => ?_)⟩
    · by_cases e : i = k
      · subst e; rw [up_same]; exact hv
      · rw [up_other _ _ e]; exact h1.2.1 i hi
    · by_cases e : i = k
      · subst e; rw [if_pos rfl, up_same]
      · rw [if_neg e, up_other _ _ e]
  refine ⟨H.bel.trans (o.below l2), ker_only H.ker o (.inr (by omega)), ⟨_, hr, fun i hi => ?_⟩, o.rw_ H.a (by omega), o.rw_ H.b (by omega), o.rw_ H.d (by omega), o.rw_ H.e (by omega)⟩
  by_cases e : i = k
  · subst e; rw [up_same, up_same]
  · rw [up_other _ _ e, up_other _ _ e]; exact h2 i hi
theorem AG.cell (H : AG w W p lo hi g C h n S A B D E) (P : Pl w hi g C h n) {k : Nat} (hk : k < n) : W.cell? ⟨g, k, none⟩ = some (.int .u8 (S k : Nat)) ∧ W.frozen? ⟨g, k, none⟩ = false ∧ S k < 256 := by
  obtain ⟨F, h1, h2⟩ := H.s
  have l := P.nC
  have := h1.2.2.cell (i := k) (by omega)
  have l5 := h1.2.1 k (by omega)
  rw [h2 k hk] at this l5
  exact ⟨this, h1.2.2.frozen k, l5⟩
theorem AG.far (H : AG w W p lo hi g C h n S A B D E) (P : Pl w hi g C h n) (k : Nat) (hk : h ≤ k) : Far W k n (some ⟨g, 0, none⟩) S := by
  obtain ⟨F, h1, h2⟩ := H.s
  have l := P.nC
  have l2 := P.g2
  exact far_at (o := 0) h1 (by omega) (fun _ => rfl) (by omega) (fun i hi => by rw [Nat.zero_add]; exact h2 i hi)
theorem ag_mul_a (H : AG w W p lo hi g C h n S A B D E) (P : Pl w hi g C h n) (c : Nat) (hc : c < 256) :
    Calls Try.prog 13 #[.pointer (some p), .int .u8 (c : Int), .slice (some ⟨h, 0, none⟩) n n, .slice (some ⟨g, 0, none⟩) n C] W fun e w' => e = .returned (.int .i64 0) ∧ AG w w' p lo hi g C h n S (fun i => fm 285 c (S i)) B D E := by
  obtain ⟨F, h1, h2⟩ := H.s
  have l1 := P.lo
  have l2 := P.g1
  have l3 := P.g2
  refine (kmul_far p lo hi c n (h) 0 n A S _ _ n C W H.ker hc P.nb (.inr (by omega)) H.a (fun _ => ⟨rfl, by omega⟩) (H.far P _ (by omega))).mono fun e w' ⟨a1, a2, a3⟩ => ⟨a1, ?_⟩
  have a3' : Rw w' (h) n (fun i => fm 285 c (S i)) := a3.congr (fun i hi => by have := pl_in (F := A) (o := 0) (S := fun i => fm 285 c (S i)) hi; simp only [Nat.zero_add] at this ⊢; exact this)
  exact ⟨H.bel.trans (a2.below (by omega)), ker_only H.ker a2 (.inr (by omega)), ⟨F, a2.rw_ h1 (by omega), h2⟩, a3', a2.rw_ H.b (by omega), a2.rw_ H.d (by omega), a2.rw_ H.e (by omega)⟩
theorem ag_add_a (H : AG w W p lo hi g C h n S A B D E) (P : Pl w hi g C h n) (c : Nat) (hc : c < 256) :
    Calls Try.prog 14 #[.pointer (some p), .int .u8 (c : Int), .slice (some ⟨h, 0, none⟩) n n, .slice (some ⟨g, 0, none⟩) n C] W fun e w' => e = .returned (.int .i64 0) ∧ AG w w' p lo hi g C h n S (fun i => A i ^^^ fm 285 c (S i)) B D E := by
  obtain ⟨F, h1, h2⟩ := H.s
  have l1 := P.lo
  have l2 := P.g1
  have l3 := P.g2
  refine (kadd_far p lo hi c n (h) 0 n A S _ _ n C W H.ker hc P.nb (.inr (by omega)) H.a (fun _ => ⟨rfl, by omega⟩) (H.far P _ (by omega))).mono fun e w' ⟨a1, a2, a3⟩ => ⟨a1, ?_⟩
  have a3' : Rw w' (h) n (fun i => A i ^^^ fm 285 c (S i)) := a3.congr (fun i hi => by have := pl_in (F := A) (o := 0) (S := fun i => A (0 + i) ^^^ fm 285 c (S i)) hi; simp only [Nat.zero_add] at this ⊢; exact this)
  exact ⟨H.bel.trans (a2.below (by omega)), ker_only H.ker a2 (.inr (by omega)), ⟨F, a2.rw_ h1 (by omega), h2⟩, a3', a2.rw_ H.b (by omega), a2.rw_ H.d (by omega), a2.rw_ H.e (by omega)⟩
theorem ag_mul_b (H : AG w W p lo hi g C h n S A B D E) (P : Pl w hi g C h n) (c : Nat) (hc : c < 256) :
    Calls Try.prog 13 #[.pointer (some p), .int .u8 (c : Int), .slice (some ⟨h + 1, 0, none⟩) n n, .slice (some ⟨g, 0, none⟩) n C] W fun e w' => e = .returned (.int .i64 0) ∧ AG w w' p lo hi g C h n S A (fun i => fm 285 c (S i)) D E := by
  obtain ⟨F, h1, h2⟩ := H.s
  have l1 := P.lo
  have l2 := P.g1
  have l3 := P.g2
  refine (kmul_far p lo hi c n (h + 1) 0 n B S _ _ n C W H.ker hc P.nb (.inr (by omega)) H.b (fun _ => ⟨rfl, by omega⟩) (H.far P _ (by omega))).mono fun e w' ⟨a1, a2, a3⟩ => ⟨a1, ?_⟩
  have a3' : Rw w' (h + 1) n (fun i => fm 285 c (S i)) := a3.congr (fun i hi => by have := pl_in (F := B) (o := 0) (S := fun i => fm 285 c (S i)) hi; simp only [Nat.zero_add] at this ⊢; exact this)
  exact ⟨H.bel.trans (a2.below (by omega)), ker_only H.ker a2 (.inr (by omega)), ⟨F, a2.rw_ h1 (by omega), h2⟩, a2.rw_ H.a (by omega), a3', a2.rw_ H.d (by omega), a2.rw_ H.e (by omega)⟩
theorem ag_mul_d (H : AG w W p lo hi g C h n S A B D E) (P : Pl w hi g C h n) (c : Nat) (hc : c < 256) :
    Calls Try.prog 13 #[.pointer (some p), .int .u8 (c : Int), .slice (some ⟨h + 2, 0, none⟩) n n, .slice (some ⟨g, 0, none⟩) n C] W fun e w' => e = .returned (.int .i64 0) ∧ AG w w' p lo hi g C h n S A B (fun i => fm 285 c (S i)) E := by
  obtain ⟨F, h1, h2⟩ := H.s
  have l1 := P.lo
  have l2 := P.g1
  have l3 := P.g2
  refine (kmul_far p lo hi c n (h + 2) 0 n D S _ _ n C W H.ker hc P.nb (.inr (by omega)) H.d (fun _ => ⟨rfl, by omega⟩) (H.far P _ (by omega))).mono fun e w' ⟨a1, a2, a3⟩ => ⟨a1, ?_⟩
  have a3' : Rw w' (h + 2) n (fun i => fm 285 c (S i)) := a3.congr (fun i hi => by have := pl_in (F := D) (o := 0) (S := fun i => fm 285 c (S i)) hi; simp only [Nat.zero_add] at this ⊢; exact this)
  exact ⟨H.bel.trans (a2.below (by omega)), ker_only H.ker a2 (.inr (by omega)), ⟨F, a2.rw_ h1 (by omega), h2⟩, a2.rw_ H.a (by omega), a2.rw_ H.b (by omega), a3', a2.rw_ H.e (by omega)⟩
theorem ag_add_e (H : AG w W p lo hi g C h n S A B D E) (P : Pl w hi g C h n) (c : Nat) (hc : c < 256) :
    Calls Try.prog 14 #[.pointer (some p), .int .u8 (c : Int), .slice (some ⟨h + 3, 0, none⟩) n n, .slice (some ⟨g, 0, none⟩) n C] W fun e w' => e = .returned (.int .i64 0) ∧ AG w w' p lo hi g C h n S A B D (fun i => E i ^^^ fm 285 c (S i)) := by
  obtain ⟨F, h1, h2⟩ := H.s
  have l1 := P.lo
  have l2 := P.g1
  have l3 := P.g2
  refine (kadd_far p lo hi c n (h + 3) 0 n E S _ _ n C W H.ker hc P.nb (.inr (by omega)) H.e (fun _ => ⟨rfl, by omega⟩) (H.far P _ (by omega))).mono fun e w' ⟨a1, a2, a3⟩ => ⟨a1, ?_⟩
  have a3' : Rw w' (h + 3) n (fun i => E i ^^^ fm 285 c (S i)) := a3.congr (fun i hi => by have := pl_in (F := E) (o := 0) (S := fun i => E (0 + i) ^^^ fm 285 c (S i)) hi; simp only [Nat.zero_add] at this ⊢; exact this)
  exact ⟨H.bel.trans (a2.below (by omega)), ker_only H.ker a2 (.inr (by omega)), ⟨F, a2.rw_ h1 (by omega), h2⟩, a2.rw_ H.a (by omega), a2.rw_ H.b (by omega), a2.rw_ H.d (by omega), a3'⟩
end
end Go.Proofs.Ytefhlnplegagfaa
