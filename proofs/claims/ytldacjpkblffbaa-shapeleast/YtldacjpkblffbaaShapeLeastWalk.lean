import Derived.Test.YtldacjpkblffbaaYhk
namespace Go.Proofs.Ytldacjpkblffbaa
open Go.RowKit Gf2
set_option linter.unusedVariables false

theorem ceil_less {n k : Nat} (hk : 1 ≤ k) (hn : 1 ≤ n) : 1 ≤ (n + k - 1) / k ∧ k * ((n + k - 1) / k - 1) < n := by
  have h := Nat.div_add_mod n k
  have hm := Nat.mod_lt n (show 0 < k by omega)
  rw [ceil16 hk]
  split
  · rename_i e
    have : 1 ≤ n / k := by
      rcases Nat.eq_zero_or_pos (n / k) with h0 | h0
      · rw [h0, Nat.mul_zero] at h; omega
      · exact h0
    refine ⟨this, ?_⟩
    rw [Nat.mul_sub, Nat.mul_one]
    omega
  · refine ⟨Nat.succ_le_succ (Nat.zero_le _), ?_⟩
    rw [Nat.add_sub_cancel]
    omega
theorem least_nums (f : Int) {k n : Nat} (hk : 1 ≤ k) (hk2 : k ≤ 65536) (hn : 1 ≤ n) (hn2 : n ≤ 1099511627776) (step : Nat) (hs : step = if f = 2 then 2 else 1) :
    ∃ l p d q : Nat, Hid (l = ln16 f k n) ∧ 1 ≤ l ∧ l ≤ 2199023255552 ∧ l % step = 0 ∧ wrap64 ((k : Int) * (l : Int)) = (p : Int) ∧ n ≤ p ∧ wrap64 ((l : Int) - (step : Int)) = (d : Int) ∧ wrap64 ((k : Int) * (d : Int)) = (q : Int) ∧ q < n := by
  have h1 := ln16_ge f (k := k) (n := n) hk
  have h2 := ln16_le f (k := k) (n := n) hk
  obtain ⟨c1, c2⟩ := ceil_less hk hn
  obtain ⟨l, hl⟩ : ∃ l, l = ln16 f k n := ⟨_, rfl⟩
  rw [← hl] at h1 h2
  have hl2 := hl
  unfold ln16 at hl2
  obtain ⟨a, ha⟩ : ∃ a, a = (n + k - 1) / k := ⟨_, rfl⟩
  rw [← ha] at c1 c2 hl2
  have ls : step ≤ l ∧ l % step = 0 ∧ k * (l - step) < n := by
    by_cases e : f = 2
    · rw [if_pos e] at hs hl2
      subst hs
      refine ⟨by omega, by omega, ?_⟩
      have : l - 2 ≤ a - 1 := by omega
      exact Nat.lt_of_le_of_lt (Nat.mul_le_mul_left k this) c2
    · rw [if_neg e] at hs hl2
      subst hs hl2
      exact ⟨c1, Nat.mod_one _, c2⟩
  have hp : k * l ≤ 65536 * 1099511627777 := Nat.mul_le_mul hk2 (by omega)
  have hq : k * (l - step) ≤ 65536 * 1099511627777 := Nat.mul_le_mul hk2 (by omega)
  have hs1 : 1 ≤ step := by rw [hs]; split <;> decide
  refine ⟨l, k * l, l - step, k * (l - step), hl, Nat.le_trans hs1 ls.1, by omega, ls.2.1, ?_, h1, ?_, ?_, ls.2.2⟩
  · rw [← Int.natCast_mul]; generalize k * l = p at hp; unfold wrap64; omega
  · have := ls.1; unfold wrap64; omega
  · rw [← Int.natCast_mul]; generalize k * (l - step) = p at hq; unfold wrap64; omega
set_option maxHeartbeats 4000000 in
set_option maxRecDepth 100000 in
theorem least16_no (f k m n : Int) (w : World) (hk : I64 k) (h : prm f k m ≠ 0) :
    Calls Try.prog 8 #[.agg #[.int .i64 f, .int .i64 k, .int .i64 m], .int .i64 n] w fun e w' => e = .returned (.bool true) ∧ Below w.heap.size w w' := by
  obtain ⟨W, hW⟩ : ∃ W, W = w.alloc (.cells #[.int .i64 f, .int .i64 k, .int .i64 m] 35) := ⟨_, rfl⟩
  have hh := heap_alloc_new w (.cells #[.int .i64 f, .int .i64 k, .int .i64 m] 35)
  have b0 : Below w.heap.size w W := by rw [hW]; exact (Below.refl _ _).alloc (Nat.le_refl _) _
  have hlt : w.heap.size < W.heap.size := by rw [hW]; simp
  rw [← hW] at hh
  have HC : Hid (∀ x, Below W.heap.size W x → x.cell? ⟨w.heap.size, 0, none⟩ = some (.int .i64 f) ∧ x.cell? ⟨w.heap.size, 1, none⟩ = some (.int .i64 k) ∧ x.cell? ⟨w.heap.size, 2, none⟩ = some (.int .i64 m) ∧ Below w.heap.size w x) := fun x hx => by
    have c : ∀ q v, (#[.int .i64 f, .int .i64 k, .int .i64 m] : Array Value)[q]? = some v → x.cell? ⟨w.heap.size, q, none⟩ = some v := fun q v hq => by
      rw [hx.cell (p := ⟨w.heap.size, q, none⟩) hlt, cell_of_row _ _ _ _ _ _ hh]
      exact hq
    exact ⟨c 0 _ rfl, c 1 _ rfl, c 2 _ rfl, b0.trans (hx.mono b0.size)⟩
  have c0 := awake16 W
  have c1 := fun x => length16 f k m n x hk
  have c2 := fun x => params16 f k m x hk
  have e1 : lne f k m n = prm f k m := by unfold lne; rw [if_neg h]
  have e2 : lnv f k m n = 0 := by unfold lnv; rw [e1, if_neg h]
  rw [e1, e2] at c1
  generalize prm f k m = z at *
  have D1 : (z != 0) = true := by simpa using h
  have HW : Hid (W = w.alloc (.cells #[.int .i64 f, .int .i64 k, .int .i64 m] 35)) := hW
  rw [hW] at c0
  clear hW hh b0 hlt h e1 e2 hk
  go_enter Try.func8, Try.ntmps8
  go_wp2_with (go_at_call 10; ((with_reducible refine (c0).mono ?_); (rintro e w1 ⟨rfl, hb⟩; obtain ⟨z0, z1, z2, b1⟩ := HC.out w1 (by rw [HW.out]; exact hb); have HB : Hid (Below w.heap.size w w1) := b1; clear hb b1)))
  go_quiet (fail)
  go_wp2_with (first | (go_at_call 13; ((with_reducible refine (c1 _).mono ?_); (rintro e w9 ⟨rfl, hw9⟩; have hw9 := hw9.symm; subst hw9))) | (go_at_call 12; ((with_reducible refine (c2 _).mono ?_); (rintro e w9 ⟨rfl, hw9⟩; have hw9 := hw9.symm; subst hw9))))
  go_ret
  exact ⟨rfl, below_drewN HB.out _⟩
set_option maxHeartbeats 4000000 in
set_option maxRecDepth 100000 in
theorem least16_odd (f k m n : Int) (w : World) (hk : I64 k) (h : prm f k m = 0) (hn : n < 1 ∨ 1099511627776 < n) :
    Calls Try.prog 8 #[.agg #[.int .i64 f, .int .i64 k, .int .i64 m], .int .i64 n] w fun e w' => e = .returned (.bool true) ∧ Below w.heap.size w w' := by
  obtain ⟨W, hW⟩ : ∃ W, W = w.alloc (.cells #[.int .i64 f, .int .i64 k, .int .i64 m] 35) := ⟨_, rfl⟩
  have hh := heap_alloc_new w (.cells #[.int .i64 f, .int .i64 k, .int .i64 m] 35)
  have b0 : Below w.heap.size w W := by rw [hW]; exact (Below.refl _ _).alloc (Nat.le_refl _) _
  have hlt : w.heap.size < W.heap.size := by rw [hW]; simp
  rw [← hW] at hh
  have HC : Hid (∀ x, Below W.heap.size W x → x.cell? ⟨w.heap.size, 0, none⟩ = some (.int .i64 f) ∧ x.cell? ⟨w.heap.size, 1, none⟩ = some (.int .i64 k) ∧ x.cell? ⟨w.heap.size, 2, none⟩ = some (.int .i64 m) ∧ Below w.heap.size w x) := fun x hx => by
    have c : ∀ q v, (#[.int .i64 f, .int .i64 k, .int .i64 m] : Array Value)[q]? = some v → x.cell? ⟨w.heap.size, q, none⟩ = some v := fun q v hq => by
      rw [hx.cell (p := ⟨w.heap.size, q, none⟩) hlt, cell_of_row _ _ _ _ _ _ hh]
      exact hq
    exact ⟨c 0 _ rfl, c 1 _ rfl, c 2 _ rfl, b0.trans (hx.mono b0.size)⟩
  have c0 := awake16 W
  have c1 := fun x => length16 f k m n x hk
  have c2 := fun x => params16 f k m x hk
  rw [h] at c2
  by_cases h1 : n < 1
  · have e1 : lne f k m n = 163 := by unfold lne; rw [if_pos h, if_pos h1]
    have e2 : lnv f k m n = 0 := by unfold lnv; rw [e1]; rfl
    rw [e1, e2] at c1
    have D1 : decide (n < 1) = true := by simpa using h1
    have HW : Hid (W = w.alloc (.cells #[.int .i64 f, .int .i64 k, .int .i64 m] 35)) := hW
    rw [hW] at c0
    clear hW hh b0 hlt h e1 e2 hk h1 hn
    go_enter Try.func8, Try.ntmps8
    go_wp2_with (go_at_call 10; ((with_reducible refine (c0).mono ?_); (rintro e w1 ⟨rfl, hb⟩; obtain ⟨z0, z1, z2, b1⟩ := HC.out w1 (by rw [HW.out]; exact hb); have HB : Hid (Below w.heap.size w w1) := b1; clear hb b1)))
    go_quiet (fail)
    go_wp2_with (first | (go_at_call 13; ((with_reducible refine (c1 _).mono ?_); (rintro e w9 ⟨rfl, hw9⟩; have hw9 := hw9.symm; subst hw9))) | (go_at_call 12; ((with_reducible refine (c2 _).mono ?_); (rintro e w9 ⟨rfl, hw9⟩; have hw9 := hw9.symm; subst hw9))))
    go_ret
    exact ⟨rfl, below_drewN HB.out _⟩

  · have e1 : lne f k m n = 5 := by unfold lne; rw [if_pos h, if_neg h1, if_pos (by omega)]
    have e2 : lnv f k m n = 0 := by unfold lnv; rw [e1]; rfl
    rw [e1, e2] at c1
    have D1 : decide (n < 1) = false := by simpa using h1
    have D2 : decide (1099511627776 < n) = true := by simp; omega
    have HW : Hid (W = w.alloc (.cells #[.int .i64 f, .int .i64 k, .int .i64 m] 35)) := hW
    rw [hW] at c0
    clear hW hh b0 hlt h e1 e2 hk h1 hn
    go_enter Try.func8, Try.ntmps8
    go_wp2_with (go_at_call 10; ((with_reducible refine (c0).mono ?_); (rintro e w1 ⟨rfl, hb⟩; obtain ⟨z0, z1, z2, b1⟩ := HC.out w1 (by rw [HW.out]; exact hb); have HB : Hid (Below w.heap.size w w1) := b1; clear hb b1)))
    go_quiet (fail)
    go_wp2_with (first | (go_at_call 13; ((with_reducible refine (c1 _).mono ?_); (rintro e w9 ⟨rfl, hw9⟩; have hw9 := hw9.symm; subst hw9))) | (go_at_call 12; ((with_reducible refine (c2 _).mono ?_); (rintro e w9 ⟨rfl, hw9⟩; have hw9 := hw9.symm; subst hw9))))
    go_ret
    exact ⟨rfl, below_drewN HB.out _⟩
set_option maxHeartbeats 4000000 in
set_option maxRecDepth 100000 in
theorem least16_yes (f m : Int) (k n : Nat) (w : World) (hk : I64 k) (h : prm f k m = 0) (hn : 1 ≤ n) (hn2 : n ≤ 1099511627776) :
    Calls Try.prog 8 #[.agg #[.int .i64 f, .int .i64 k, .int .i64 m], .int .i64 n] w fun e w' => e = .returned (.bool true) ∧ Below w.heap.size w w' := by
  obtain ⟨W, hW⟩ : ∃ W, W = w.alloc (.cells #[.int .i64 f, .int .i64 k, .int .i64 m] 35) := ⟨_, rfl⟩
  have hh := heap_alloc_new w (.cells #[.int .i64 f, .int .i64 k, .int .i64 m] 35)
  have b0 : Below w.heap.size w W := by rw [hW]; exact (Below.refl _ _).alloc (Nat.le_refl _) _
  have hlt : w.heap.size < W.heap.size := by rw [hW]; simp
  rw [← hW] at hh
  have HC : Hid (∀ x, Below W.heap.size W x → x.cell? ⟨w.heap.size, 0, none⟩ = some (.int .i64 f) ∧ x.cell? ⟨w.heap.size, 1, none⟩ = some (.int .i64 k) ∧ x.cell? ⟨w.heap.size, 2, none⟩ = some (.int .i64 m) ∧ Below w.heap.size w x) := fun x hx => by
    have c : ∀ q v, (#[.int .i64 f, .int .i64 k, .int .i64 m] : Array Value)[q]? = some v → x.cell? ⟨w.heap.size, q, none⟩ = some v := fun q v hq => by
      rw [hx.cell (p := ⟨w.heap.size, q, none⟩) hlt, cell_of_row _ _ _ _ _ _ hh]
      exact hq
    exact ⟨c 0 _ rfl, c 1 _ rfl, c 2 _ rfl, b0.trans (hx.mono b0.size)⟩
  have c0 := awake16 W
  have c1 := fun x => length16_yes f m k n x hk h hn hn2
  have c2 := fun x => params16 f k m x hk
  rw [h] at c2
  have hv := prm_ok.1 h
  have D1 : decide ((n : Int) < 1) = false := by simp; omega
  have D2 : decide ((1099511627776 : Int) < (n : Int)) = false := by simp; omega
  obtain ⟨st, hst⟩ : ∃ st : Nat, st = if f = 2 then 2 else 1 := ⟨_, rfl⟩
  obtain ⟨l, p, d, q, HL, l1, l2, l3, W1, l4, W2, W3, l5⟩ := least_nums f (k := k) (n := n) (by have := hv.hk; omega) (by have := hv.sum; have := hv.hm; omega) hn hn2 st hst
  rw [← HL.out] at c1
  have E1 : decide ((1 : Int) ≤ (l : Int)) = true := by clear W1 W2 W3; simp; omega
  have E2 : decide ((l : Int) ≤ 2199023255552) = true := by clear W1 W2 W3; simp; omega
  have E3 : (l : Int) % (st : Int) = 0 := by clear W1 W2 W3; omega
  have T3 : (l : Int).tmod (st : Int) = 0 := by rw [← Int.ofNat_tmod, l3]; rfl
  have HW : Hid (W = w.alloc (.cells #[.int .i64 f, .int .i64 k, .int .i64 m] 35)) := hW
  rw [hW] at c0
  by_cases h2 : f = 2
  · rw [if_pos h2] at hst
    subst hst h2
    have W2 : wrap64 ((l : Int) - 2) = (d : Int) := W2
    have D9 : decide (wrap64 ((k : Int) * wrap64 ((l : Int) - 2)) < (n : Int)) = true := by rw [W2, W3]; exact decide_eq_true (Int.ofNat_lt.2 l5)
    clear hW hh b0 hlt h hk hv hn hn2 l1 l2 l3
    go_enter Try.func8, Try.ntmps8
    go_wp2_with (go_at_call 10; ((with_reducible refine (c0).mono ?_); (rintro e w1 ⟨rfl, hb⟩; obtain ⟨z0, z1, z2, b1⟩ := HC.out w1 (by rw [HW.out]; exact hb); have HB : Hid (Below w.heap.size w w1) := b1; clear hb b1)))
    go_quiet (fail)
    go_wp2_with (first | (go_at_call 13; ((with_reducible refine (c1 _).mono ?_); (rintro e w9 ⟨rfl, hw9⟩; have hw9 := hw9.symm; subst hw9))) | (go_at_call 12; ((with_reducible refine (c2 _).mono ?_); (rintro e w9 ⟨rfl, hw9⟩; have hw9 := hw9.symm; subst hw9))))
    first | rw [D9] | skip
    go_ret
    exact ⟨rfl, below_drewN HB.out _⟩

  · rw [if_neg h2] at hst
    subst hst
    have W2 : wrap64 ((l : Int) - 1) = (d : Int) := W2
    have D9 : decide (wrap64 ((k : Int) * wrap64 ((l : Int) - 1)) < (n : Int)) = true := by rw [W2, W3]; exact decide_eq_true (Int.ofNat_lt.2 l5)
    have E9 : (f == 2) = false := by simpa using h2
    clear hW hh b0 hlt h hk hv hn hn2 l1 l2 l3
    go_enter Try.func8, Try.ntmps8
    go_wp2_with (go_at_call 10; ((with_reducible refine (c0).mono ?_); (rintro e w1 ⟨rfl, hb⟩; obtain ⟨z0, z1, z2, b1⟩ := HC.out w1 (by rw [HW.out]; exact hb); have HB : Hid (Below w.heap.size w w1) := b1; clear hb b1)))
    go_quiet (fail)
    go_wp2_with (first | (go_at_call 13; ((with_reducible refine (c1 _).mono ?_); (rintro e w9 ⟨rfl, hw9⟩; have hw9 := hw9.symm; subst hw9))) | (go_at_call 12; ((with_reducible refine (c2 _).mono ?_); (rintro e w9 ⟨rfl, hw9⟩; have hw9 := hw9.symm; subst hw9))))
    first | rw [D9] | skip
    go_ret
    exact ⟨rfl, below_drewN HB.out _⟩

theorem least16 (f k m n : Int) (w : World) (hk : I64 k) :
    Calls Try.prog 8 #[.agg #[.int .i64 f, .int .i64 k, .int .i64 m], .int .i64 n] w fun e w' => e = .returned (.bool true) ∧ Below w.heap.size w w' := by
  by_cases h : prm f k m = 0
  case neg => exact least16_no f k m n w hk h
  case pos =>
    by_cases hn : n < 1 ∨ 1099511627776 < n
    · exact least16_odd f k m n w hk h hn
    · have hv := prm_ok.1 h
      obtain ⟨a, rfl⟩ := Int.eq_ofNat_of_zero_le (show 0 ≤ k by have := hv.hk; omega)
      obtain ⟨b, rfl⟩ := Int.eq_ofNat_of_zero_le (show 0 ≤ n by omega)
      exact least16_yes f m a b w hk h (by omega) (by omega)
theorem least16_any (f k m n : Int) (w : World) (hf : I64 f) (hk : I64 k) (hm : I64 m) (hn : I64 n) :
    Calls Try.prog 8 #[.agg #[.int .i64 f, .int .i64 k, .int .i64 m], .int .i64 n] w fun e w' => e = .returned (.bool true) ∧ Below w.heap.size w w' := least16 f k m n w hk
end Go.Proofs.Ytldacjpkblffbaa
