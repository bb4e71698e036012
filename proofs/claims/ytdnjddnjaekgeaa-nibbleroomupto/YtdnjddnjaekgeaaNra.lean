import Derived.Test.YtdnjddnjaekgeaaNbf
import Derived.Test.YtdnjddnjaekgeaaNbd
namespace Go.Proofs.Ytdnjddnjaekgeaa
open Go.RowKit Gf2
set_option linter.unusedVariables false

theorem own8_copied {W w' : World} {n : Nat} {S : Nat → Nat} (hr : Rw w' W.heap.size n S) (hb : Below W.heap.size W w') : Own8 W w' W.heap.size n n S :=
  ⟨Nat.le_refl _, Nat.le_refl _, hb, S, hr, fun _ _ => rfl⟩
/-- a list behind a list of one's own. -/
theorem Own8.app {W w2 : World} {g C L : Nat} {T : Nat → Nat} (h : Own8 W w2 g C L T) {x : Option Addr} {n cx : Nat} {S : Nat → Nat} (hv : Rb W (.slice x n cx) n S) (hn : L + n ≤ 140737488355328) :
    ∃ w' g' C', (Builtin.append_ #[22, 22] 22 #[.slice (some ⟨g, 0, none⟩) L C, .slice x n cx]).run Try.prog w2 = .ok (.slice (some ⟨g', 0, none⟩) (L + n) C') w' ∧
      Own8 W w' g' C' (L + n) (fun i => if i < L then T i else S (i - L)) := by
  obtain ⟨h1, h2, h3, F, h4, h5⟩ := h
  obtain ⟨b1, b2, a, c', b3, b5, b6, b4⟩ := hv
  cases b3
  obtain ⟨w', g', C', F', hrun, hC, hR, hF1, hF2, hcase⟩ := app8 w2 (g := g) (C := C) (L := L) h4 h1 (x := x) (n := n) (cx := cx) (S := S) b2 (fun h0 => by
    obtain ⟨b, o, e, hl, hcl⟩ := b4 h0
    exact ⟨b, o, e, fun i hi => (h3.cell (p := ⟨b, o + i, none⟩) hl).trans (hcl i hi)⟩) hn
  refine ⟨w', g', C', hrun, hC, ?_, ?_, F', hR, fun i hi => ?_⟩
  · rcases hcase with ⟨rfl, ho⟩ | ⟨rfl, -, hb⟩
    · exact h2
    · exact h3.size
  · rcases hcase with ⟨rfl, ho⟩ | ⟨rfl, -, hb⟩
    · exact h3.trans (ho.below h2)
    · exact h3.trans (hb.mono h3.size)
  · dsimp only
    by_cases e : i < L
    · rw [if_pos e, hF1 i e, h5 i e]
    · rw [if_neg e, ← hF2 (i - L) (by omega), show L + (i - L) = i by omega]
theorem Own8.row {W w' : World} {g C n : Nat} {S : Nat → Nat} (h : Own8 W w' g C n S) : ∃ F, Rw w' g C F ∧ ∀ i, i < n → F i = S i := h.2.2.2
theorem Own8.lt {W w' : World} {g C n : Nat} {S : Nat → Nat} (h : Own8 W w' g C n S) : g < w'.heap.size := by
  obtain ⟨-, -, -, F, hr, -⟩ := h
  exact hr.lt
/-- a piece of a list. -/
theorem cut8 (g L C lo n : Nat) (hb : lo + n ≤ C) : ∃ a, (0 < n → a = some ⟨g, lo, none⟩) ∧ ∀ W : World, (Instr.slice 22 (.slice (some ⟨g, 0, none⟩) L C) (some (.int .i64 (lo : Int))) (some (.int .i64 ((lo : Int) + (n : Int)))) none).run Try.prog W = .ok (.slice a n (C - lo)) W := by
  have he : Try.prog.elem 22 = 5 := by kernel_rfl
  have hsz : ∀ W : World, (sizeOf 5).run Try.prog W = .ok 1 W := fun W => by
    obtain ⟨i, hi, -, hs, -⟩ := info_u8a
    simp [sizeOf, typeInfo, hi, hs]
  refine ⟨if C = lo then some ⟨g, 0, none⟩ else some ⟨g, lo, none⟩, fun h0 => by rw [if_neg (by omega)], fun W => ?_⟩
  have h := run_slice_lh (P := Try.prog) (w := W) 22 (some ⟨g, 0, none⟩) L C (by rw [he]; exact Try.underlying22) .i64 .i64 (lo : Int) ((lo : Int) + (n : Int)) (by omega) (by omega) (by omega)
  rw [h, he, hsz]
  have e1 : ((lo : Int) + (n : Int)).toNat = lo + n := by omega
  have e2 : (lo : Int).toNat = lo := by omega
  simp only [Result.andThen, sliced, e1, e2, Nat.add_sub_cancel_left, Nat.mul_one]
  congr 3
  show some ((⟨g, 0, none⟩ : Addr).add lo) = _
  rw [Addr.add_lit, Nat.zero_add]

/-- what Mul and MulAdd must leave, and the error. -/
def wantE (nD nS : Nat) : Int := if nD = nS then 0 else 6
def wantT (f : Nat → Nat → Nat) (nD nS : Nat) (D S : Nat → Nat) (i : Nat) : Nat := if nD = nS then f (D i) (S i) else D i
theorem ref_mul (c nD nS : Nat) (u v : Value) (D S : Nat → Nat) (w : World) (hc : c < 256) (hu : Rb w u nD D) (hv : Rb w v nS S) (hn : nD ≤ 140737488351232) :
    Calls Try.prog 17 #[.int .u8 (c : Int), u, v] w fun e w' => ∃ x cx, e = .returned (.tuple #[.slice x nD cx, .int .i64 (wantE nD nS)]) ∧ Below w.heap.size w w' ∧ Rb w' (.slice x nD cx) nD (wantT (fun _ s => fm 285 c s) nD nS D S) := by
  unfold wantE wantT
  by_cases h : nD = nS
  · subst h
    simp only [if_true]
    exact (refMul6_any c nD u v D S w hc hu hv hn).mono fun e w' ⟨r, h1, h2⟩ => by
      obtain ⟨x, cx, rfl⟩ := h2.form
      exact ⟨x, cx, h1, h2.1, h2.rb⟩
  · simp only [if_neg h]
    exact (refMul6_lens c nD nS u v D S w hu hv hn h).mono fun e w' ⟨g, C, h1, h2⟩ => ⟨_, C, h1, h2.2.2.1, own8_rb h2⟩
theorem ref_add (c nD nS : Nat) (u v : Value) (D S : Nat → Nat) (w : World) (hc : c < 256) (hu : Rb w u nD D) (hv : Rb w v nS S) (hn : nD ≤ 140737488351232) :
    Calls Try.prog 18 #[.int .u8 (c : Int), u, v] w fun e w' => ∃ x cx, e = .returned (.tuple #[.slice x nD cx, .int .i64 (wantE nD nS)]) ∧ Below w.heap.size w w' ∧ Rb w' (.slice x nD cx) nD (wantT (fun d s => d ^^^ fm 285 c s) nD nS D S) := by
  unfold wantE wantT
  by_cases h : nD = nS
  · subst h
    simp only [if_true]
    exact (refAdd6_any c nD u v D S w hc hu hv hn).mono fun e w' ⟨r, h1, h2⟩ => by
      obtain ⟨x, cx, rfl⟩ := h2.form
      exact ⟨x, cx, h1, h2.1, h2.rb⟩
  · simp only [if_neg h]
    exact (refAdd6_lens c nD nS u v D S w hu hv hn h).mono fun e w' ⟨g, C, h1, h2⟩ => ⟨_, C, h1, h2.2.2.1, own8_rb h2⟩
/-- the kernel's call on a piece of a row, src apart from it. -/
theorem piece_mul (p : Addr) (lo hi c nD nS g o N : Nat) (F S : Nat → Nat) (a x : Option Addr) (ca cx : Nat) (w : World) (hk : Nk w p lo hi) (hc : c < 256) (hn : nD ≤ big) (hg : g < lo ∨ hi ≤ g)
    (hR : Rw w g N F) (hd : 0 < nD → a = some ⟨g, o, none⟩) (hoN : o + nD ≤ N) (hx : Fk w g nS x S) :
    Calls Try.prog 14 #[.pointer (some p), .int .u8 (c : Int), .slice a nD ca, .slice x nS cx] w fun e w' => e = .returned (.int .i64 (wantE nD nS)) ∧ Kp g w w' ∧ ∃ F', Rw w' g N F' ∧ ∀ i, F' i = pl F o nD (wantT (fun _ s => fm 285 c s) nD nS (fun j => F (o + j)) S) i := by
  unfold wantE wantT
  by_cases h : nD = nS
  · subst h
    simp only [if_true]
    exact (nmul_gen p lo hi c nD g o N F (fun _ => S) a x ca cx w hk hc hn hg hR (fun h0 => ⟨hd h0, hoN⟩) (fun h0 => hx.reads h0)).mono fun e w' ⟨h1, h2, h3⟩ => ⟨h1, h2, _, h3, fun i => by rw [goes_far]⟩
  · simp only [if_neg h]
    refine (nmul_lens p lo hi c nD nS a x ca cx w hk h).mono fun e w' ⟨h1, h2⟩ => ?_
    subst h2
    refine ⟨h1, Kp.refl _ _, F, hR, fun i => ?_⟩
    unfold pl
    split
    · next e => congr 1; omega
    · rfl
theorem piece_add (p : Addr) (lo hi c nD nS g o N : Nat) (F S : Nat → Nat) (a x : Option Addr) (ca cx : Nat) (w : World) (hk : Nk w p lo hi) (hc : c < 256) (hn : nD ≤ big) (hg : g < lo ∨ hi ≤ g)
    (hR : Rw w g N F) (hd : 0 < nD → a = some ⟨g, o, none⟩) (hoN : o + nD ≤ N) (hx : Fk w g nS x S) :
    Calls Try.prog 16 #[.pointer (some p), .int .u8 (c : Int), .slice a nD ca, .slice x nS cx] w fun e w' => e = .returned (.int .i64 (wantE nD nS)) ∧ Kp g w w' ∧ ∃ F', Rw w' g N F' ∧ ∀ i, F' i = pl F o nD (wantT (fun d s => d ^^^ fm 285 c s) nD nS (fun j => F (o + j)) S) i := by
  unfold wantE wantT
  by_cases h : nD = nS
  · subst h
    simp only [if_true]
    exact (nadd_gen p lo hi c nD g o N F (fun _ => S) a x ca cx w hk hc hn hg hR (fun h0 => ⟨hd h0, hoN⟩) (fun h0 => hx.reads h0)).mono fun e w' ⟨h1, h2, h3⟩ => ⟨h1, h2, _, h3, fun i => by rw [goes_far]⟩
  · simp only [if_neg h]
    refine (nadd_lens p lo hi c nD nS a x ca cx w hk h).mono fun e w' ⟨h1, h2⟩ => ?_
    subst h2
    refine ⟨h1, Kp.refl _ _, F, hR, fun i => ?_⟩
    unfold pl
    split
    · next e => congr 1; omega
    · rfl
end Go.Proofs.Ytdnjddnjaekgeaa
