import Derived.Test.YtefolifecbhgoaaGreatMbah
import Derived.Test.YtefolifecbhgoaaGreatMbar
import Derived.Deep.RegionHeld
namespace Go.Proofs.YtefolifecbhgoaaGreat
open Go.RowKit Gf2
set_option linter.unusedVariables false

set_option maxRecDepth 1000000 in
theorem zero_ker (w : World) : (zeroValue 155).run Tryz.prog w = .ok (.agg (Array.replicate 65536 (Value.int .u8 0))) w := by kernel_rfl

def LaidK (A : Array Value) (m : Nat) : Prop := A.size = 65536 ∧ ∀ a b, a < m → b < 256 → A[a * 256 + b]? = some (.int .u8 (fm 285 a b : Nat))
theorem LaidK.zero : LaidK (Array.replicate 65536 (Value.int .u8 0)) 0 := ⟨Array.size_replicate, fun a b h => absurd h (Nat.not_lt_zero _)⟩

theorem copy_ker (w : World) {g b c : Nat} {A : Array Value} (hA : w.heap[g]? = some (.cells A 155 (0, 0))) (hL : LaidK A c) (hc : c < 256)
    (hcell : ∀ i, i < 256 → w.cell? ⟨b, i, none⟩ = some (.int .u8 (fm 285 c i : Nat))) :
    ∃ A', (Builtin.copy_ #[27, 27] 3 #[.slice (some ⟨g, c * 256, none⟩) 256 256, .slice (some ⟨b, 0, none⟩) 256 256]).run Tryz.prog w = .ok (goInt 256) (w.setRow g A') ∧ LaidK A' (c + 1) := by
  obtain ⟨hs, hv⟩ := hL
  obtain ⟨cs, hcs⟩ : ∃ cs : List Value, cs = (List.range 256).map (fun i => Value.int .u8 (fm 285 c i : Nat)) := ⟨_, rfl⟩
  have hlen : cs.length = 256 := by rw [hcs, List.length_map, List.length_range]
  have hget : ∀ j, j < 256 → cs[j]? = some (Value.int .u8 (fm 285 c j : Nat)) := fun j hj => by rw [hcs, List.getElem?_map, List.getElem?_range hj]; rfl
  have hr := run_copy_row (P := Tryz.prog) w 27 27 3 5 g (c * 256) 256 256 ⟨b, 0, none⟩ 256 256 A 155 cs Tryz.underlying27 info_u8s hA (by rw [hlen]; rfl)
    (fun j u hu => by
      have hj : j < 256 := by
        rcases Nat.lt_or_ge j 256 with h9 | h9
        · exact h9
        · rw [List.getElem?_eq_none (by omega)] at hu; cases hu
      rw [hget j hj] at hu
      cases hu
      have ea : (⟨b, 0, none⟩ : Addr).add j = ⟨b, j, none⟩ := by unfold Addr.add; split <;> simp_all
      rw [ea]
      exact hcell j hj) (by rw [hlen, hs]; omega) (fun u hu => by
      rw [hcs] at hu
      obtain ⟨x, _, rfl⟩ := List.mem_map.1 hu
      rfl)
  rw [hlen] at hr
  have hsl : A.toList.length = 65536 := by rw [Array.length_toList, hs]
  have ht : (A.toList.take (c * 256)).length = c * 256 := by rw [List.length_take, hsl]; omega
  refine ⟨_, hr, ?_, fun a i ha hi => ?_⟩
  · rw [List.size_toArray, List.length_append, List.length_append, ht, hlen, List.length_drop, hsl]; omega
  · rw [List.getElem?_toArray]
    by_cases e : a = c
    · subst e
      rw [List.getElem?_append_left (by rw [List.length_append, ht, hlen]; omega), List.getElem?_append_right (by rw [ht]; omega), ht, Nat.add_sub_cancel_left]
      exact hget i hi
    · have hac : a < c := by omega
      have hlt : a * 256 + i < c * 256 := by omega
      rw [List.append_assoc, List.getElem?_append_left (by rw [ht]; exact hlt), List.getElem?_take_of_lt hlt, Array.getElem?_toList]
      exact hv a i hac hi
theorem wrap_small {a : Nat} (h : a < 256) : IntKind.u8.wrap ((a : Nat) : Int) = (a : Int) := by rw [IntKind.wrap_u8]; omega
theorem only_setRow5 (g : Nat) (w : World) (A : Array Value) : Only g w (w.setRow g A) := (Only.refl _ _).setRow _

set_option maxHeartbeats 4000000 in
set_option maxRecDepth 100000 in
theorem tknew_any (w : World) :
    Calls Tryz.prog 47 #[] w fun e w' => ∃ p, e = .returned (.pointer (some p)) ∧ Ker w' p w.heap.size w'.heap.size ∧ Below w.heap.size w w' := by
  obtain ⟨Z, hZ⟩ : ∃ Z, Z = Array.replicate 65536 (Value.int .u8 0) := ⟨_, rfl⟩
  have hz := fun w => zero_ker w
  rw [← hZ] at hz
  have HZ : Hid (LaidK Z 0) := by rw [hZ]; exact LaidK.zero
  clear hZ
  have cN := fun W => new_any W
  go_enter Tryz.func47, Tryz.ntmps47
  go_wp2_with (go_at_call 89; (with_reducible refine (cN _).mono ?_); rintro e w1 ⟨rfl, s1, t1, b1⟩)
  have b0 : Below w.heap.size w w1 := ((Below.refl _ _).alloc (Nat.le_refl _) _).trans (b1.mono (by simp))
  have hk : w1.heap[w.heap.size]? = some (.cells Z 155 (0, 0)) := (b1.block _ (by simp)).trans (heap_alloc_new _ _)
  have es : (w.alloc (.cells Z 155)).heap.size = w.heap.size + 1 := by simp
  rw [es] at s1 t1
  clear hz cN b1
  go_loopw [7] (fun i wr => ∃ a : Nat, a ≤ 256 ∧ i = .int .i64 a ∧ w.heap.size + 2 ≤ wr.heap.size ∧ (∃ A, wr.heap[w.heap.size]? = some (.cells A 155 (0, 0)) ∧ LaidK A a) ∧ Tab8 wr (w.heap.size + 1) ∧ Below w.heap.size w wr) (fun i _ => 256 - (intOf i).toNat)
  case atStart => exact ⟨0, by decide, rfl, by omega, ⟨_, hk, HZ.out⟩, t1, b0⟩
  case round =>
    obtain ⟨a, ha, rfl, hs, ⟨A, hA, hL⟩, hT, hb⟩ := hrel
    by_cases hlt : a < 256
    · have ia : ((a : Nat) : Int) < 256 := by omega
      have m1 : IntKind.u8.wrap ((a : Nat) : Int) = (a : Int) := wrap_small hlt
      have cR := trow_nat (w.heap.size + 1) a wr.drew hT hlt
      have HH : Hid (w.heap.size + 2 ≤ wr.heap.size ∧ wr.heap[w.heap.size]? = some (.cells A 155 (0, 0)) ∧ LaidK A a ∧ Tab8 wr (w.heap.size + 1) ∧ Below w.heap.size w wr) := ⟨hs, hA, hL, hT, hb⟩
      clear hs hA hL hT hb t1 s1 hk b0 HZ
      go_wp2
      go_region_held (fun _ => True) (trivial) (first
        | (go_at_call 90; (with_reducible refine cR.mono ?_); rintro e x1 ⟨rfl, r1, b1, s1⟩; obtain ⟨A', hrun, hL'⟩ := copy_ker x1 (g := w.heap.size) (b := wr.heap.size) (c := a) ((b1.block _ (Nat.lt_of_lt_of_le (Nat.lt_add_of_pos_right (by decide)) HH.out.1)).trans HH.out.2.1) HH.out.2.2.1 hlt (fun i hi => r1.cell hi)))
      clear hrun cR
      go_wp2
      go_roundw
      case rel =>
        obtain ⟨h1, h2, h3, h4, h5⟩ := HH.out
        have sz : x1.heap.size = wr.heap.size + 1 := s1
        have o1 := only_setRow5 w.heap.size x1 A'
        have bb : Below wr.heap.size wr x1 := ⟨b1.os, b1.tape, b1.output, b1.size, b1.block⟩
        refine ⟨a + 1, by omega, by go_num, by rw [o1.2.1]; omega, ⟨A', setRow_heap _ _ _ _ _ _ ((bb.block _ (by omega)).trans h2), hL'⟩, h4.of_heap ((o1.2.2 _ (by omega)).trans (bb.block _ (by omega))), (h5.trans (bb.mono (by omega))).trans (o1.below (Nat.le_refl _))⟩
      case measure => simp [intOf]; omega
    · have ha6 : a = 256 := by omega
      subst ha6
      go_wp2
      go_ret
      exact ⟨_, rfl, ⟨rfl, by omega, Nat.le_refl _, A, hA, hL.1, fun a b ha hb => hL.2 a b ha hb⟩, hb⟩
end Go.Proofs.YtefolifecbhgoaaGreat
