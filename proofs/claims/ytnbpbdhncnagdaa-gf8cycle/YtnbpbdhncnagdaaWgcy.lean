import Derived.Test.YtnbpbdhncnagdaaDtas
namespace Go.Proofs.Ytnbpbdhncnagdaa
open Go.RowKit Gf2

theorem er_nat {k : Nat} (h : k < 255) : er (k : Int) = k := by unfold er; omega
theorem er_tmod (m : Int) : er (m.tmod 255) = er m := by
  rw [tmod_255]; unfold er; split <;> omega
theorem er_add (x y : Int) : fp 285 2 (er (x + y)) = fm 285 (fp 285 2 (er x)) (fp 285 2 (er y)) := by
  rw [← fld8.fp_add, ← fld8.fp_mod (a := 2) (by decide) (by decide) (er x + er y)]
  congr 1
  unfold er
  show _ = _ % 255
  omega
theorem tmod_1000 (n : Int) : n.tmod 1000 = if 0 ≤ n then n % 1000 else -((-n) % 1000) := by
  split
  · next h => exact Int.tmod_eq_emod_of_nonneg h
  · next h =>
    have : n.tmod 1000 = -((-n).tmod 1000) := by rw [Int.neg_tmod, Int.neg_neg]
    rw [this, Int.tmod_eq_emod_of_nonneg (by omega)]
theorem tmod_1000_le (n : Int) : -1000 < n.tmod 1000 ∧ n.tmod 1000 < 1000 := by
  rw [tmod_1000]; split <;> omega

/-- what was seen in the first k rounds. -/
def seenB (k j : Nat) : Bool := decide (j ≠ 0 ∧ j < 256 ∧ l8 j < k)
theorem seen_zero (j : Nat) : seenB 0 j = false := by simp [seenB]
theorem seen_not {k : Nat} (h : k < 255) : seenB k (fp 285 2 k) = false := by simp [seenB, l8_fp h]
theorem seen_put {k j : Nat} (h : k < 255) (hj : j < 256) : (if j = fp 285 2 k then true else seenB k j) = seenB (k + 1) j := by
  have h0 : fp 285 2 k ≠ 0 := fld8.fp_ne (by decide) (by decide) k
  by_cases e : j = fp 285 2 k
  · subst e
    have := fp8_lt 2 k
    simp [seenB, l8_fp h, h0, this]
  · rw [if_neg e]
    unfold seenB
    congr 1
    apply propext
    constructor
    · rintro ⟨a, b, c⟩; exact ⟨a, b, by omega⟩
    · rintro ⟨a, b, c⟩
      refine ⟨a, b, ?_⟩
      rcases Nat.lt_or_ge (l8 j) k with h1 | h1
      · exact h1
      · exact absurd (by rw [← l8_spec b a, show l8 j = k by omega]) e

theorem zero_seen (w : World) : (zeroValue 39).run Try.prog w = .ok (.agg (Array.replicate 256 (Value.bool false))) w := by
  kernel_rfl

set_option maxHeartbeats 4000000 in
set_option maxRecDepth 100000 in
theorem gf8Cycle_any (m n : Int) (w : World) :
    Calls Try.prog 8 #[.int .i64 m, .int .i64 n] w fun e w' => e = .returned (.bool true) ∧ Below w.heap.size w w' := by
  have hz := fun w => zero_seen w
  have c0 := new_tab w
  have c1 := fun w => awake2_any w
  have c2 : ∀ t w, Tab8 w t → Calls Try.prog 17 #[.pointer (some ⟨t, 0, none⟩), .int .i64 1] w fun e w' => e = .returned (.int .u8 2) ∧ ∃ m, w' = w.drewN m := by
    intro t w ht
    have h := texp_int t 1 w ht
    rw [show fp 285 2 (er 1) = 2 by decide] at h
    exact h
  go_enter Try.func8, Try.ntmps8
  go_wp2_with (first | (go_at_call 16; ((with_reducible refine (c0).mono ?_); rintro e w' ⟨rfl, w0, rfl, hs0, ht, hb0⟩)) | (go_at_call 10; ((with_reducible refine (c1 _).mono ?_); rintro e w' ⟨rfl, rfl⟩)) | (go_at_call 17; ((with_reducible refine (c2 _ _ (ht.drewN _)).mono ?_); rintro e w' ⟨rfl, m1, rfl⟩)))
  go_loopw [7] (fun i wr => ∃ k : Nat, k ≤ 255 ∧ i = .int .i64 k ∧ wr.heap.size = w.heap.size + 2 ∧ Tab8 wr w.heap.size ∧
      wr.rowIs (w.heap.size + 1) 39 256 (fun j => .bool (seenB k j)) ∧ Below w.heap.size w wr) (fun i _ => 255 - (intOf i).toNat)
  case atStart =>
    refine ⟨0, by decide, rfl, by simp [hs0], ?_, ?_, (below_drewN' hb0 _).alloc (by simp [hs0]) _⟩
    · exact (ht.drewN m1).of_heap (Below.heap_alloc _ _ _ (by simp [hs0]))
    · have h := World.rowIs_alloc (w0.drewN m1) (Array.replicate 256 (Value.bool false)) 39 (fun j => .bool (seenB 0 j)) (fun i hi => by
        rw [Array.size_replicate] at hi
        rw [Array.getElem?_replicate, if_pos hi, seen_zero])
      rw [Array.size_replicate, World.heap_drewN, hs0] at h
      exact h
  case round =>
    obtain ⟨k, hk, rfl, hsz, htr, hr, hb⟩ := hrel
    by_cases hlt : k < 255
    · have l1 := fp8_lt 2 k
      have h0 : fp 285 2 k ≠ 0 := fld8.fp_ne (by decide) (by decide) k
      have c3 : ∀ w t, Tab8 w t → Calls Try.prog 17 #[.pointer (some ⟨t, 0, none⟩), .int .i64 (k : Nat)] w fun e w' => e = .returned (.int .u8 (fp 285 2 k : Nat)) ∧ ∃ m, w' = w.drewN m := by
        intro w t ht
        have h := texp_int t (k : Int) w ht
        rw [er_nat hlt] at h
        exact h
      have c4 : ∀ w t, Tab8 w t → Calls Try.prog 18 #[.pointer (some ⟨t, 0, none⟩), .int .u8 (fp 285 2 k : Nat)] w fun e w' => e = .returned (.tuple #[.int .i64 (k : Nat), .int .i64 0]) ∧ ∃ m, w' = w.drewN m := by
        intro w t ht
        have h := tlg_nat t (fp 285 2 k) w ht l1 h0
        rw [l8_fp hlt] at h
        exact h
      have T0 : (((fp 285 2 k : Nat) : Int) == 0) = false := by simp; omega
      have q := hr.cell (i := fp 285 2 k) l1
      have f := hr.frozen (fp 285 2 k)
      rw [seen_not hlt] at q
      have ib : ((fp 285 2 k : Nat) : Int) < 256 := by omega
      have HR : Hid (wr.heap.size = w.heap.size + 2 ∧ wr.rowIs (w.heap.size + 1) 39 256 (fun j => .bool (seenB k j))) := ⟨hsz, hr⟩
      clear hsz hr h0
      go_wp2_with (first | (go_at_call 17; ((with_reducible refine (c3 _ _ htr).mono ?_); rintro e w' ⟨rfl, m2, rfl⟩)) | (go_at_call 18; ((with_reducible refine (c4 _ _ (htr.drewN _)).mono ?_); rintro e w' ⟨rfl, m3, rfl⟩)))
      obtain ⟨g0, g1⟩ := HR.out
      refine ⟨⟨k + 1, by omega, by go_num, by simp [g0], ?_, ?_, (below_drewN' hb _).setCell (by simp) _⟩, by simp [intOf]; omega⟩
      · exact (htr.drewN (m2 + m3)).of_heap (Below.heap_setCell _ _ _ _ (by simp))
      · exact (World.rowIs.set (w := wr.drewN (m2 + m3)) g1 (fp 285 2 k) (.bool true)).congr (fun i hi => by rw [← seen_put hlt hi]; split <;> rfl)
    · have hk5 : k = 255 := by omega
      subst hk5
      clear hr
      have c5 := fun t w => tlg_zero t w
      have c6 : ∀ X t w, Tab8 w t → Calls Try.prog 17 #[.pointer (some ⟨t, 0, none⟩), .int .i64 (X.tmod 255)] w fun e w' => e = .returned (.int .u8 (fp 285 2 (er X) : Nat)) ∧ ∃ m, w' = w.drewN m := by
        intro X t w ht
        have h := texp_int t (X.tmod 255) w ht
        rw [er_tmod] at h
        exact h
      have bx := tmod_1000_le m
      have bY := tmod_1000_le n
      have e2 := er_add (m.tmod 1000) (n.tmod 1000)
      have T1 : (((fp 285 2 (er (m.tmod 1000 + n.tmod 1000)) : Nat) : Int) == ((fm 285 (fp 285 2 (er (m.tmod 1000))) (fp 285 2 (er (n.tmod 1000))) : Nat) : Int)) = true := by rw [e2]; simp
      have W1 : wrap64 (m.tmod 1000 + n.tmod 1000) = m.tmod 1000 + n.tmod 1000 := by unfold wrap64; omega
      clear bx bY e2
      have l1 := fp8_lt 2 (er (m.tmod 1000))
      have l2 := fp8_lt 2 (er (n.tmod 1000))
      obtain ⟨wq, rfl⟩ : ∃ wq : World, wr = wq.drewN 0 := ⟨wr, rfl⟩
      have htq : Tab8 wq w.heap.size := htr
      go_wp2_with (first | (go_at_call 18; ((with_reducible refine (c5 _ _).mono ?_); rintro e w' ⟨rfl, m2, rfl⟩)) | (go_at_call 17; first | ((with_reducible refine (c6 m _ _ (htq.drewN _)).mono ?_); rintro e w' ⟨rfl, m3, rfl⟩) | ((with_reducible refine (c6 n _ _ (htq.drewN _)).mono ?_); rintro e w' ⟨rfl, m3, rfl⟩) | ((with_reducible refine (texp_int _ _ _ (htq.drewN _)).mono ?_); rintro e w' ⟨rfl, m3, rfl⟩)) | (go_at_call 19; ((with_reducible refine (tmul_nat _ _ _ _ (htq.drewN _) l1 l2).mono ?_); rintro e w' ⟨rfl, m4, rfl⟩)))
      go_ret
      exact ⟨ret_bool (by simp), below_drewN' hb _⟩
end Go.Proofs.Ytnbpbdhncnagdaa
