import Derived.Test.YtefolifecbhgoaaGreatMbak
import Derived.Test.YtefolifecbhgoaaGreatMbbl
namespace Go.Proofs.YtefolifecbhgoaaGreat
open Go.RowKit Gf2
set_option linter.unusedVariables false


def wle (f k m : Int) (c : Nat) (n : Nat → Nat) : Int := if prm f k m = 0 then (if (c : Int) = k + m then (if aeb n c then 161 else ole f (scf (some 0) n c)) else 160) else prm f k m
def wlv (f k m : Int) (c : Nat) (n : Nat → Nat) : Int := if prm f k m = 0 then (if (c : Int) = k + m then (if aeb n c then 0 else olv f (scf (some 0) n c)) else 0) else 0
theorem sum_nat {f : Int} {k m : Nat} (h : prm f k m = 0) : ∃ s : Nat, Hid (s = k + m) ∧ s ≤ 65536 ∧ wrap64 ((k : Int) + (m : Int)) = (s : Int) := by
  have hv := (prm_ok.1 h).sum
  refine ⟨k + m, rfl, by omega, ?_⟩
  unfold wrap64; omega
theorem prm_nat {f k m : Int} (h : prm f k m = 0) : ∃ a b : Nat, k = a ∧ m = b := by
  have hv := prm_ok.1 h
  obtain ⟨a, rfl⟩ := Int.eq_ofNat_of_zero_le (show 0 ≤ k by have := hv.hk; omega)
  obtain ⟨b, rfl⟩ := Int.eq_ofNat_of_zero_le (show 0 ≤ m by have := hv.hm; omega)
  exact ⟨a, b, rfl, rfl⟩
theorem lone16 (w : World) (v : Value) (c : Nat) (n : Nat → Nat) (h : Ln w v c n) (T : TypeId) : ∀ t, t < 1 → (w.alloc (.cells #[v] T)).cell? ⟨w.heap.size, t, none⟩ = some ((fun _ => v) t) ∧ Ln (w.alloc (.cells #[v] T)) ((fun _ => v) t) ((fun _ => c) t) ((fun _ => n) t) := by
  intro t ht
  obtain rfl : t = 0 := by omega
  refine ⟨?_, h.below (balloc16 _ _)⟩
  rw [cell_of_row _ _ _ _ _ _ (heap_alloc_new w _)]
  rfl
set_option maxHeartbeats 4000000 in
set_option maxRecDepth 100000 in
theorem whole16 (f k m : Int) (v : Value) (c : Nat) (n : Nat → Nat) (w : World) (hk : I64 k) (h : Ln w v c n) :
    Calls Tryz.prog 40 #[.int .i64 f, .int .i64 k, .int .i64 m, v] w fun e w' => e = .returned (.tuple #[.int .i64 (wlv f k m c n), .int .i64 (wle f k m c n)]) ∧ Below w.heap.size w w' := by
  have c1 := fun x => params16 f k m x hk
  unfold wlv wle
  by_cases hp : prm f k m = 0
  case neg =>
    rw [if_neg hp, if_neg hp]
    obtain ⟨a, cap, rfl⟩ := h.form
    generalize prm f k m = z at *
    have D1 : (z != 0) = true := by simpa using hp
    have D2 : (z == 0) = false := by simpa using hp
    clear h hk
    go_enter Tryz.func40, Tryz.ntmps40
    go_wp2_with (go_at_call 76; ((with_reducible refine (c1 _).mono ?_); (rintro e w9 ⟨rfl, hw9⟩; have hw9 := hw9.symm; subst hw9)))
    go_ret2
    exact ⟨rfl, Below.refl _ _⟩
  case pos =>
    rw [if_pos hp, if_pos hp]
    rw [hp] at c1
    obtain ⟨k, m, rfl, rfl⟩ := prm_nat hp
    obtain ⟨s, HS, -, W1⟩ := sum_nat hp
    have es : ((k : Int) + (m : Int)) = (s : Int) := by have := HS.out; omega
    rw [es]
    by_cases hc : c = s
    case neg =>
      rw [if_neg (by omega), if_neg (by omega)]
      obtain ⟨a, cap, rfl⟩ := h.form
      have hc' : ¬ s = c := fun e => hc e.symm
      clear h hk hp es
      go_enter Tryz.func40, Tryz.ntmps40
      go_wp2_with (go_at_call 76; ((with_reducible refine (c1 _).mono ?_); (rintro e w9 ⟨rfl, hw9⟩; have hw9 := hw9.symm; subst hw9)))
      go_ret2
      exact ⟨rfl, Below.refl _ _⟩
    case pos =>
      subst hc
      rw [if_pos rfl, if_pos rfl]
      have c2 := fun x (hx : Ln x v c n) => anyEmpty16 v c n x hx
      have c2 := c2 w h
      cases ha : aeb n c
      · rw [if_neg (by decide), if_neg (by decide)]
        rw [ha] at c2
        have c3 := oneLength16 f w.heap.size 1 (fun _ => v) (fun _ => c) (fun _ => n) _ (by decide) (lone16 w v c n h 33)
        have e3 : sco (fun _ => c) (fun _ => n) 1 = scf (some 0) n c := rfl
        rw [e3] at c3
        generalize scf (some 0) n c = q at *
        generalize olv f q = z1 at *
        generalize ole f q = z2 at *
        have HB : Hid (Below w.heap.size w (w.alloc (.cells #[v] 33))) := balloc16 _ _
        obtain ⟨a, cap, rfl⟩ := h.form
        clear h hk hp es ha e3
        go_enter Tryz.func40, Tryz.ntmps40
        go_wp2_with (first | (go_at_call 76; ((with_reducible refine (c1 _).mono ?_); (rintro e w9 ⟨rfl, hw9⟩; have hw9 := hw9.symm; subst hw9))) | (go_at_call 77; ((with_reducible refine (c2).mono ?_); (rintro e w9 ⟨rfl, hw9⟩; have hw9 := hw9.symm; subst hw9))) | (go_at_call 78; ((with_reducible refine (c3).mono ?_); (rintro e w9 ⟨rfl, hw9⟩; have hw9 := hw9.symm; subst hw9))))
        go_ret2
        exact ⟨rfl, HB.out⟩
      · rw [if_pos rfl, if_pos rfl]
        rw [ha] at c2
        obtain ⟨a, cap, rfl⟩ := h.form
        clear h hk hp es ha
        go_enter Tryz.func40, Tryz.ntmps40
        go_wp2_with (first | (go_at_call 76; ((with_reducible refine (c1 _).mono ?_); (rintro e w9 ⟨rfl, hw9⟩; have hw9 := hw9.symm; subst hw9))) | (go_at_call 77; ((with_reducible refine (c2).mono ?_); (rintro e w9 ⟨rfl, hw9⟩; have hw9 := hw9.symm; subst hw9))))
        go_ret2
        exact ⟨rfl, Below.refl _ _⟩
end Go.Proofs.YtefolifecbhgoaaGreat
