import Derived.Test.YthfpadkihommaaaMxo
import Derived.Test.YthfpadkihommaaaMyd
import Derived.Test.YthfpadkihommaaaMxn
import Derived.Test.YthfpadkihommaaaMatrixVandermondeWalk
namespace Go.Proofs.Ythfpadkihommaaa
open Go.RowKit Gf2
set_option linter.unusedVariables false

theorem make_room10 (n : Nat) (hn : 24 * n ≤ 140737488355328) (w : World) : (Instr.makeSlice 22 (.int .i64 0) (.int .i64 (n : Int))).run Try.prog w = .ok (.slice (some ⟨w.heap.size, 0, none⟩) 0 n) (w.alloc (.cells (madeCells #[.slice none 0 0] n) 26)) := by
  obtain ⟨i, hi, hz⟩ := Option.map_eq_some_iff.1 info_row10
  simp only [Prod.mk.injEq] at hz
  obtain ⟨h1, h2, h3⟩ := hz
  have hr := run_make (P := Try.prog) w 22 26 i (.slice none 0 0) Try.underlying22 hi h1 .i64 .i64 0 n (by omega) (by omega) (by rw [h3]; omega) (by omega)
  simp only [Int.toNat_natCast, h2, Nat.mul_one] at hr
  exact hr
/-- x[lo:]. -/
theorem from8 (b o L C lo : Nat) (hb : lo ≤ L) (hL : L ≤ C) : ∃ a, (0 < L - lo → a = some ⟨b, o + lo, none⟩) ∧ ∀ W : World, (Instr.slice 26 (.slice (some ⟨b, o, none⟩) L C) (some (.int .i64 (lo : Int))) none none).run Try.prog W = .ok (.slice a (L - lo) (C - lo)) W := by
  have he : Try.prog.elem 26 = 5 := by kernel_rfl
  have hsz : ∀ W : World, (sizeOf 5).run Try.prog W = .ok 1 W := fun W => by
    obtain ⟨i, hi, -, hs, -⟩ := info_u8a
    simp [sizeOf, typeInfo, hi, hs]
  refine ⟨if C = lo then some ⟨b, o, none⟩ else some ⟨b, o + lo, none⟩, fun h0 => by rw [if_neg (by omega)], fun W => ?_⟩
  have h := run_slice_l (P := Try.prog) (w := W) 26 (some ⟨b, o, none⟩) L C (by rw [he]; exact Try.underlying26) .i64 (lo : Int) (by omega) (by omega)
  rw [h, he, hsz]
  have e2 : (lo : Int).toNat = lo := by omega
  simp only [Result.andThen, sliced, e2, Nat.mul_one]
  congr 3
  show some ((⟨b, o, none⟩ : Addr).add lo) = _
  rw [Addr.add_lit]
/-- one list more, where there is room. -/
theorem app_room10 (W : World) {g k n : Nat} {F : Nat → Value} (x : Value) (hx : x.oneCell' = true) (hr : W.rowIs g 26 n F) (hk : k < n) :
    (Builtin.append_ #[22, 22] 22 #[.slice (some ⟨g, 0, none⟩) k n, .slice (some ⟨W.heap.size, 0, none⟩) 1 1]).run Try.prog (W.alloc (.cells #[x] 26)) = .ok (.slice (some ⟨g, 0, none⟩) (k + 1) n) ((W.alloc (.cells #[x] 26)).setCell ⟨g, k, none⟩ x) := by
  obtain ⟨ti, hi, hz⟩ := Option.map_eq_some_iff.1 info_row10
  simp only [Prod.mk.injEq] at hz
  obtain ⟨h1, h2, h3⟩ := hz
  have hs : Src Try.prog ti.size 22 (.slice (some ⟨W.heap.size, 0, none⟩) 1 1) 1 [x] (W.alloc (.cells #[x] 26)) := Src.ofSlice _ Try.underlying22 ⟨W.heap.size, 0, none⟩ 1 1 [x] (by rw [h2]; rfl) (fun j u h => by
    have hj : j = 0 := by
      rcases Nat.lt_or_ge j 1 with h9 | h9
      · omega
      · rw [List.getElem?_eq_none (by simpa using h9)] at h; cases h
    subst hj
    cases h
    rw [Addr.add_lit, cell_of_row _ W.heap.size (0 + 0) _ _ _ (heap_alloc_new _ _)]
    rfl) (fun u hu => by
      simp at hu
      subst hu
      exact hx)
  have hra := hr.alloc (.cells #[x] 26)
  have hrun := run_append_room_src (W.alloc (.cells #[x] 26)) 22 22 22 26 ti Try.underlying22 hi g 0 k n _ 1 [x] hs (by omega)
    (fun j hj => by
      have : j = 0 := by simpa using hj
      subst this
      rw [h2, Nat.mul_one, Nat.zero_add, hra.cell (i := k + 0) (by omega)]; rfl)
    (fun j hj => hra.frozen _)
  rw [h2, Nat.mul_one, Nat.zero_add] at hrun
  exact hrun
/-- the rows of a minor, made one by one. -/
structure Mi (w0 wr : World) (n k i : Nat) (S : Nat → Nat → Nat) : Prop where
  list : ∃ V : Nat → Value, wr.rowIs w0.heap.size 26 n (fun a => if a < k then V a else .slice none 0 0) ∧ ∀ a, a < k → Re (fun x => x = w0.heap.size) wr (V a) (n - 1) (fun c => S (a + 1) (sk i c))
  bel : Below w0.heap.size w0 wr
theorem Mi.start (w0 : World) (n i : Nat) (S : Nat → Nat → Nat) : Mi w0 (w0.alloc (.cells (madeCells #[.slice none 0 0] n) 26)) n 0 i S :=
  ⟨⟨fun _ => .slice none 0 0, (World.rowIs_made w0 (.slice none 0 0) n 26).congr (fun i _ => (if_neg (Nat.not_lt_zero _)).symm), fun a ha => absurd ha (Nat.not_lt_zero _)⟩, (Below.refl _ _).alloc (Nat.le_refl _) _⟩
theorem Mi.lb {w0 wr : World} {n i : Nat} {S : Nat → Nat → Nat} (h : Mi w0 wr n (n - 1) i S) (h1 : 2 ≤ n) (h2 : n ≤ 1000) : Lb wr (.slice (some ⟨w0.heap.size, 0, none⟩) (n - 1) n) (n - 1) (fun _ => n - 1) (mn 0 i S) := by
  obtain ⟨V, hl, hr⟩ := h.list
  refine ⟨V, ⟨by unfold big; omega, _, _, rfl, by omega, by unfold big; omega, fun _ => ⟨_, _, rfl, ⟨hl.lt, fun h => h⟩, fun a ha => ?_⟩⟩, fun a ha => ?_⟩
  · rw [Nat.zero_add, hl.cell (by omega), if_pos ha]
  · exact ((hr a ha).mono (fun x _ e => e.elim)).congr (fun c _ => (mn0 i S a c).symm)
/-- one row more. -/
theorem Mi.step {w0 wr : World} {n k i bx ox cx : Nat} {S : Nat → Nat → Nat} (h : Mi w0 wr n k i S) (hk : k + 1 < n) (hi : i < n) (hn : n ≤ 1000) (hcx : n ≤ cx) (hrow : ∀ y, Below wr.heap.size wr y → Rb y (.slice (some ⟨bx, ox, none⟩) n cx) n (S (k + 1)))
    {a2 : Option Addr} (ha2 : 0 < n - (i + 1) → a2 = some ⟨bx, ox + (i + 1), none⟩) :
    ∃ w1 g1 C1, (Builtin.append_ #[26, 26] 26 #[.slice (some ⟨wr.heap.size, 0, none⟩) 0 0, .slice (some ⟨bx, ox, none⟩) i cx]).run Try.prog (wr.alloc (.cells #[] 5)) = .ok (.slice (some ⟨g1, 0, none⟩) i C1) w1 ∧ Below wr.heap.size wr w1 ∧
      ∃ w2 g2 C2, (Builtin.append_ #[26, 26] 26 #[.slice (some ⟨g1, 0, none⟩) i C1, .slice a2 (n - (i + 1)) (cx - (i + 1))]).run Try.prog w1 = .ok (.slice (some ⟨g2, 0, none⟩) (n - 1) C2) w2 ∧
        (Builtin.append_ #[22, 22] 22 #[.slice (some ⟨w0.heap.size, 0, none⟩) k n, .slice (some ⟨w2.heap.size, 0, none⟩) 1 1]).run Try.prog (w2.alloc (.cells #[.slice (some ⟨g2, 0, none⟩) (n - 1) C2] 26)) = .ok (.slice (some ⟨w0.heap.size, 0, none⟩) (k + 1) n) ((w2.alloc (.cells #[.slice (some ⟨g2, 0, none⟩) (n - 1) C2] 26)).setCell ⟨w0.heap.size, k, none⟩ (.slice (some ⟨g2, 0, none⟩) (n - 1) C2)) ∧
        Mi w0 ((w2.alloc (.cells #[.slice (some ⟨g2, 0, none⟩) (n - 1) C2] 26)).setCell ⟨w0.heap.size, k, none⟩ (.slice (some ⟨g2, 0, none⟩) (n - 1) C2)) n (k + 1) i S := by
  obtain ⟨⟨V, hl, hr⟩, hb⟩ := h
  have hgs := hl.lt
  have r0 := hrow wr (Below.refl _ _)
  obtain ⟨w1, g1, C1, F1, hrun1, hC1, hg1, hg1l, hR1, hF1, hb1⟩ := copy_app wr (r0.cut (n := i) (by omega) (by omega)) (by omega)
  refine ⟨w1, g1, C1, hrun1, hb1, ?_⟩
  have r1 := hrow w1 hb1
  have r1d := r1.drop (o := i + 1) (by omega)
  obtain ⟨-, s2, a9, c9, e9, -, -, s4⟩ := r1d
  cases e9
  obtain ⟨w2, g2, C2, F2, hrun2, hC2, hR2, hF2a, hF2b, hcase⟩ := app8 w1 (g := g1) (C := C1) (L := i) hR1 hC1 (x := a2) (n := n - (i + 1)) (cx := cx - (i + 1)) (S := fun j => S (k + 1) (i + 1 + j)) s2 (fun h0 => by
    obtain ⟨b', o', e, hl', hc'⟩ := s4 h0
    cases e
    exact ⟨_, _, ha2 h0, hc'⟩) (by omega)
  rw [show i + (n - (i + 1)) = n - 1 by omega] at hrun2 hC2
  have hb2 : Below wr.heap.size wr w2 := by
    rcases hcase with ⟨rfl, ho⟩ | ⟨-, -, hb'⟩
    · exact hb1.trans (ho.below hg1)
    · exact hb1.trans (hb'.mono hb1.size)
  have hg2 : wr.heap.size ≤ g2 := by
    rcases hcase with ⟨rfl, -⟩ | ⟨rfl, -, -⟩
    · exact hg1
    · exact hb1.size
  have hl2 := hl.of_block (hb2.block _ hgs)
  refine ⟨w2, g2, C2, hrun2, app_room10 w2 _ rfl hl2 (by omega), ?_⟩
  have ho3 : Only w0.heap.size (w2.alloc (.cells #[.slice (some ⟨g2, 0, none⟩) (n - 1) C2] 26)) ((w2.alloc (.cells #[.slice (some ⟨g2, 0, none⟩) (n - 1) C2] 26)).setCell ⟨w0.heap.size, k, none⟩ (.slice (some ⟨g2, 0, none⟩) (n - 1) C2)) := (Only.refl _ _).setCell _ _
  have hba : Below w2.heap.size w2 (w2.alloc (.cells #[.slice (some ⟨g2, 0, none⟩) (n - 1) C2] 26)) := (Below.refl _ _).alloc (Nat.le_refl _) _
  have ke1 : Ke (fun x => x = w0.heap.size) wr w2 := ke_below hb2 _
  have ke2 : Ke (fun x => x = w0.heap.size) w2 ((w2.alloc (.cells #[.slice (some ⟨g2, 0, none⟩) (n - 1) C2] 26)).setCell ⟨w0.heap.size, k, none⟩ (.slice (some ⟨g2, 0, none⟩) (n - 1) C2)) := (ke_below hba _).trans ho3.kp.ke
  have hrk : Re (fun x => x = w0.heap.size) w2 (.slice (some ⟨g2, 0, none⟩) (n - 1) C2) (n - 1) (fun c => S (k + 1) (sk i c)) := (hR2.re (n := n - 1) hC2 hC2 hR2.1 (by omega)).congr (fun c hc => by
    unfold sk
    by_cases e : c < i
    · rw [if_pos e, hF2a c e, hF1 c e]
    · rw [if_neg e]
      have := hF2b (c - i) (by omega)
      rw [show i + (c - i) = c by omega] at this
      rw [this]
      show S (k + 1) (i + 1 + (c - i)) = S (k + 1) (c + 1)
      rw [show i + 1 + (c - i) = c + 1 by omega])
  refine ⟨⟨fun a => if a = k then .slice (some ⟨g2, 0, none⟩) (n - 1) C2 else V a, ((hl2.alloc _).set k _).congr (fun a _ => ?_), fun a ha => ?_⟩, (hb.trans (hb2.mono hb.size)).trans ((hba.mono (by have := hb.size; have := hb2.size; omega)).trans (ho3.below (Nat.le_refl _)))⟩
  · dsimp only
    by_cases e : a = k
    · rw [if_pos e, if_pos (by omega), if_pos e]
    · rw [if_neg e]
      by_cases e2 : a < k
      · rw [if_pos e2, if_pos (by omega), if_neg e]
      · rw [if_neg e2, if_neg (by omega)]
  · dsimp only
    by_cases e : a = k
    · rw [if_pos e, e]
      exact hrk.ke ke2
    · rw [if_neg e]
      exact ((hr a (by omega)).ke ke1).ke ke2
end Go.Proofs.Ythfpadkihommaaa
