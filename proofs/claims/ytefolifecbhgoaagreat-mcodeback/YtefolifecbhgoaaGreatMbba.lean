import Derived.Test.YtefolifecbhgoaaGreatMbaz
namespace Go.Proofs.YtefolifecbhgoaaGreat
open Go.RowKit Gf2
set_option linter.unusedVariables false

theorem kagrees_any (p : Addr) (bk lo hi m k d : Nat) (nr ns nd : Nat → Nat) (R S D : Nat → Nat → Nat) (fr to : Int) (rows srcs dsts : Value) (w : World) (hk : Ks w p bk lo hi) (hmb : 24 * m ≤ 140737488355328) (hkb : 24 * k ≤ 140737488355328) (hdb : 24 * d ≤ 140737488355328)
    (hn1 : ∀ i, i < k → ns i ≤ 140737488351232) (hn2 : ∀ i, i < d → nd i ≤ 140737488351232) (hr : Lb w rows m nr R) (hs : Lb w srcs k ns S) (hd : Lb w dsts d nd D) :
    Calls Tryz.prog 46 #[.pointer (some p), rows, srcs, dsts, .agg #[.int .i64 fr, .int .i64 to]] w fun e w' => ∃ b : Bool, e = .returned (.tuple #[.bool b, .int .i64 (fit9 m k d nr ns nd fr to : Nat)]) ∧
      (b = true ↔ fit9 m k d nr ns nd fr to = 0 ∧ ∀ r, r < d → ∀ t : Nat, fr ≤ (t : Int) → (t : Int) < to → D r t = ks (R r) S k t) ∧ Below w.heap.size w w' := by
  by_cases hf : fit9 m k d nr ns nd fr to = 0
  · obtain ⟨⟨rfl, hnr, hns, hnd⟩, r1, r2, r3⟩ := fit9_split hf
    generalize hL : len9 k m ns nd = L at hns hnd r3
    obtain ⟨f, rfl⟩ : ∃ f : Nat, fr = (f : Int) := ⟨fr.toNat, by omega⟩
    obtain ⟨t, rfl⟩ : ∃ t : Nat, to = (t : Int) := ⟨to.toNat, by omega⟩
    have eL : len9 k m ns nd = len9 k m (fun _ => L) (fun _ => L) := by
      unfold len9
      by_cases h1 : 0 < k
      · rw [if_pos h1, if_pos h1, hns 0 h1]
      · rw [if_neg h1, if_neg h1]
        by_cases h2 : 0 < m
        · rw [if_pos h2, if_pos h2, hnd 0 h2]
        · rw [if_neg h2, if_neg h2]
    have hLb : L ≤ 140737488351232 := by
      rw [← hL]
      unfold len9
      split
      · next h => exact hn1 0 h
      · split
        · next h => exact hn2 0 h
        · decide
    refine (kagrees_good p bk lo hi m k L f t R S D rows srcs dsts w hk hmb hkb hLb (hr.lens hnr) (hs.lens hns) (hd.lens hnd) (by omega) (by rw [← eL, hL]; omega)).mono ?_
    rintro e w' ⟨b, rfl, hb, hB⟩
    refine ⟨b, by rw [hf]; rfl, ⟨fun h => ⟨hf, fun r hr' j h1 h2 => hb.1 h r hr' j (by omega) (by omega)⟩, fun h => hb.2 (fun r hr' j h1 h2 => h.2 r hr' j (by omega) (by omega))⟩, hB⟩
  · refine (kagrees_bad p bk lo hi m k d nr ns nd R S D fr to rows srcs dsts w hk hmb hkb hdb hr hs hd hf).mono ?_
    rintro e w' ⟨rfl, hB⟩
    exact ⟨false, rfl, ⟨fun h => absurd h (by decide), fun h => absurd h.1 hf⟩, hB⟩
end Go.Proofs.YtefolifecbhgoaaGreat
