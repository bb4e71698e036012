import Derived.Test.YtehbiccpbopkfaaDoorFfad
import Derived.StillTailTactics
namespace Go.Proofs.YtehbiccpbopkfaaDoor
open Go.RowKit Gf2
set_option linter.unusedVariables false

theorem Only.refl (g : Nat) (w : World) : Only g w w := ⟨Below.refl _ _, rfl, fun _ _ => rfl⟩
theorem Only.trans {g : Nat} {a b c : World} (h : Only g a b) (k : Only g b c) : Only g a c := ⟨h.1.trans k.1, k.2.1.trans h.2.1, fun x hx => (k.2.2 x hx).trans (h.2.2 x hx)⟩
theorem Only.drewN {g : Nat} {a b : World} (h : Only g a b) (m : Nat) : Only g a (b.drewN m) := ⟨⟨h.1.os, h.1.tape, h.1.output, h.1.size, h.1.block⟩, h.2.1, h.2.2⟩
theorem Only.drew {g : Nat} {a b : World} (h : Only g a b) : Only g a b.drew := ⟨h.1.drew, h.2.1, h.2.2⟩
theorem Only.setCell {g : Nat} {a b : World} (h : Only g a b) (o : Nat) (v : Value) : Only g a (b.setCell ⟨g, o, none⟩ v) :=
  ⟨h.1.setCell (Nat.zero_le _) v, by rw [World.size_setCell]; exact h.2.1, fun x hx => by rw [← h.2.2 x hx]; exact heap_setCell_other _ _ _ _ hx⟩
theorem Only.setRow {g : Nat} {a b : World} (h : Only g a b) (cs : Array Value) : Only g a (b.setRow g cs) :=
  ⟨below_setRow h.1 (Nat.zero_le _) cs, by rw [setRow_size]; exact h.2.1, fun x hx => by rw [← h.2.2 x hx]; exact setRow_other _ _ _ _ hx⟩
theorem Only.below {g B : Nat} {a b : World} (h : Only g a b) (hg : B ≤ g) : Below B a b :=
  ⟨h.1.os, h.1.tape, h.1.output, h.1.size, fun k hk => h.2.2 k (by omega)⟩
/-- F with the first n of S from place o on. -/
def pl (F : Nat → Nat) (o n : Nat) (S : Nat → Nat) (i : Nat) : Nat := if o ≤ i ∧ i < o + n then S (i - o) else F i
theorem pl_in {F : Nat → Nat} {o n : Nat} {S : Nat → Nat} {i : Nat} (h : i < n) : pl F o n S (o + i) = S i := by unfold pl; rw [if_pos (by omega), Nat.add_sub_cancel_left]
theorem pl_out {F : Nat → Nat} {o n : Nat} {S : Nat → Nat} {i : Nat} (h : i < o ∨ o + n ≤ i) : pl F o n S i = F i := by unfold pl; rw [if_neg (by omega)]

/-- copy of bytes into a row. -/
theorem copy8_min (w : World) {g o N dl cap : Nat} {F : Nat → Nat} (hr : Rw w g N F) {a : Option Addr} {m n cap' : Nat} {S : Nat → Nat} (hS : ∀ i, i < n → S i < 256)
    (h4 : 0 < n → ∃ b p, a = some ⟨b, p, none⟩ ∧ ∀ i, i < n → w.cell? ⟨b, p + i, none⟩ = some (.int .u8 (S i : Nat))) (hd : o + dl ≤ N) (hn : n ≤ dl) (hnm : n ≤ m) (hmin : Nat.min m dl = n) :
    ∃ w', (Builtin.copy_ #[27, 27] 3 #[.slice (some ⟨g, o, none⟩) dl cap, .slice a m cap']).run Tryd.prog w = .ok (goInt n) w' ∧ Rw w' g N (pl F o n S) ∧ Only g w w' := by
  obtain ⟨h1, h2, c, hc, hs, hv⟩ := hr
  by_cases h0 : n = 0
  · subst h0
    refine ⟨w, run_copy_none (P := Tryd.prog) _ 27 27 3 5 _ a dl cap m cap' Tryd.underlying27 info_u8s hmin, ⟨h1, fun i hi => ?_, c, hc, hs, fun i hi => ?_⟩, Only.refl _ _⟩
    · rw [pl_out (by omega)]; exact h2 i hi
    · show c[i]? = some (Value.int .u8 ((pl F o 0 S i : Nat) : Int))
      rw [pl_out (by omega)]; exact hv i hi
  · obtain ⟨b, p, rfl, hcell⟩ := h4 (by omega)
    obtain ⟨cs, hcs⟩ : ∃ cs : List Value, cs = (List.range n).map (fun i => Value.int .u8 (S i : Nat)) := ⟨_, rfl⟩
    have hlen : cs.length = n := by rw [hcs]; simp
    have hget : ∀ j, j < n → cs[j]? = some (Value.int .u8 (S j : Nat)) := fun j hj => by rw [hcs]; simp [hj]
    have hr := run_copy_row (P := Tryd.prog) w 27 27 3 5 g o dl cap ⟨b, p, none⟩ m cap' c 5 cs Tryd.underlying27 info_u8s hc (by rw [hlen, hmin])
      (fun j u hu => by
        have hj : j < n := by
          rcases Nat.lt_or_ge j n with h9 | h9
          · exact h9
          · rw [List.getElem?_eq_none (by omega)] at hu; cases hu
        rw [hget j hj] at hu
        cases hu
        have ea : (⟨b, p, none⟩ : Addr).add j = ⟨b, p + j, none⟩ := by unfold Addr.add; split <;> simp_all
        rw [ea]
        exact hcell j hj) (by rw [hlen, hs]; omega) (fun u hu => by
        rw [hcs] at hu
        obtain ⟨x, _, rfl⟩ := List.mem_map.1 hu
        rfl)
    rw [hlen] at hr
    refine ⟨_, hr, ⟨h1, fun i hi => ?_, _, setRow_heap _ _ _ _ _ _ hc, ?_, fun i hi => ?_⟩, (Only.refl _ _).setRow _⟩
    · unfold pl
      split
      · exact hS _ (by omega)
      · exact h2 i hi
    · simp [hlen, hs]; omega
    · show _ = some (Value.int .u8 ((pl F o n S i : Nat) : Int))
      rw [List.getElem?_toArray]
      have ht : (c.toList.take o).length = o := by simp [hs]; omega
      by_cases e1 : i < o
      · rw [pl_out (by omega), List.append_assoc, List.getElem?_append_left (by rw [ht]; exact e1), List.getElem?_take_of_lt e1]
        simpa using hv i hi
      · by_cases e2 : i < o + n
        · obtain ⟨j, rfl⟩ : ∃ j, i = o + j := ⟨i - o, by omega⟩
          rw [pl_in (by omega), List.getElem?_append_left (by simp [ht, hlen]; omega), List.getElem?_append_right (by omega), ht, Nat.add_sub_cancel_left]
          exact hget j (by omega)
        · rw [pl_out (by omega), List.getElem?_append_right (by simp [ht, hlen]; omega), List.getElem?_drop]
          simp only [List.length_append, ht, hlen]
          rw [show o + n + (i - (o + n)) = i by omega]
          simpa using hv i hi
end Go.Proofs.YtehbiccpbopkfaaDoor
