import Derived.Test.YtjoaagkhanbhiaaSra
namespace Go.Proofs.Ytjoaagkhanbhiaa
open Go.RowKit Gf2
set_option linter.unusedVariables false

set_option maxHeartbeats 2000000 in
set_option maxRecDepth 100000 in
theorem refMul7_any (c n : Nat) (u v : Value) (D S : Nat → Nat) (w : World) (hc : c < 256) (hu : Rb w u n D) (hv : Rb w v n S) (hn : n ≤ 140737488351232) :
    Calls Try.prog 17 #[.int .u8 (c : Int), u, v] w fun e w' => ∃ g C, e = .returned (.tuple #[.slice (some ⟨g, 0, none⟩) n C, .int .i64 0]) ∧ Own8 w w' g C n (fun i => fm 285 c (S i)) := by
  obtain ⟨x, cx, rfl⟩ : ∃ x cx, u = .slice x n cx := by obtain ⟨_, _, a, cap, h, _⟩ := hu; exact ⟨a, cap, h⟩
  obtain ⟨w1, g, C, F0, hrun, hC, hg, hg1, hR, hF, hb⟩ := copy_app w hu (by omega)
  obtain ⟨k1, k2, b, cb, rfl, k5, k6, k4⟩ := hv
  have HA : Hid (n ≤ C ∧ w.heap.size ≤ g ∧ Rw w1 g C F0 ∧ Below w.heap.size w w1) := ⟨hC, hg, hR, hb⟩
  clear hu hC hg hR hb hF hg1
  go_enter Try.func17, Try.ntmps17
  go_wp2_with (at_builtin; refine Lib.wpList_append_run _ rfl _ _ _ _ rfl _ _ rfl rfl _ _ hrun ?_)
  clear hrun
  obtain ⟨hC, hg, hR, hb⟩ := HA.out
  go_loopw [9] (fun i wr => ∃ k : Nat, k ≤ n ∧ i = .int .i64 k ∧ Rw wr g C (fun x => if x < k then fm 285 c (S x) else F0 x) ∧ Below w.heap.size w wr) (fun i _ => n - (intOf i).toNat)
  case atStart => exact ⟨0, Nat.zero_le _, rfl, hR.congr (fun i _ => (if_neg (Nat.not_lt_zero _)).symm), hb⟩
  case round =>
    obtain ⟨k, hk, rfl, hr, hbr⟩ := hrel
    by_cases hlt : k < n
    · have q1 := hr.2.2.cell (i := k) (by omega)
      dsimp only at q1
      rw [if_neg (Nat.lt_irrefl _)] at q1
      obtain ⟨b', o', rfl, hbl', hc'⟩ := k4 (by omega)
      have q4 := (hbr.cell (p := ⟨b', o' + k, none⟩) hbl').trans (hc' k (by omega))
      have q2 := hr.2.2.frozen k
      have ib : ((k : Nat) : Int) < (n : Int) := by omega
      have c1 := fun w => refMul_nat c (S k) w hc (k2 k hlt)
      have W1 := wrap_succ8 (j := k) (by omega)
      have HV : Hid (Rw wr g C (fun x => if x < k then fm 285 c (S x) else F0 x) ∧ Below w.heap.size w wr) := ⟨hr, hbr⟩
      clear hr hbr k1 k2 hc' k4 hR hb hn
      go_wp2_with (go_at_call 15; ((with_reducible refine (c1 _).mono ?_); (rintro e w9 ⟨rfl, hw9⟩; have hw9 := hw9.symm; subst hw9)))
      go_roundw
      case rel =>
        obtain ⟨g0, g2⟩ := HV.out
        refine ⟨k + 1, hlt, by first | rfl | (rw [W1]; rfl), ⟨g0.1, fun i hi => ?_, (g0.2.2.set k _).congr (fun i hi => ?_)⟩, g2.setCell hg _⟩
        · have := g0.2.1 i hi
          dsimp only at this ⊢
          by_cases e : i = k
          · subst e; rw [if_pos (Nat.lt_succ_self _)]; exact fm8_lt _ _
          · by_cases e2 : i < k
            · rw [if_pos e2] at this; rw [if_pos (by omega)]; exact this
            · rw [if_neg e2] at this; rw [if_neg (by omega)]; exact this
        · dsimp only
          by_cases e : i = k
          · subst e; rw [if_pos rfl, if_pos (Nat.lt_succ_self _)]
          · rw [if_neg e]
            by_cases e2 : i < k
            · rw [if_pos e2, if_pos (by omega)]
            · rw [if_neg e2, if_neg (by omega)]
      case measure => first | exact meas_lt8 hlt | (rw [W1]; exact meas_lt8 hlt)
    · have hkN : k = n := by omega
      subst hkN
      clear k4
      go_wp2
      go_ret2
      exact ⟨g, C, rfl, hC, hg, hbr, _, hr, fun i hi => if_pos hi⟩
set_option maxHeartbeats 2000000 in
set_option maxRecDepth 100000 in
theorem refMul7_lens (c n m : Nat) (u v : Value) (D S : Nat → Nat) (w : World) (hu : Rb w u n D) (hv : Rb w v m S) (hn : n ≤ 140737488351232) (hnm : n ≠ m) :
    Calls Try.prog 17 #[.int .u8 (c : Int), u, v] w fun e w' => ∃ g C, e = .returned (.tuple #[.slice (some ⟨g, 0, none⟩) n C, .int .i64 6]) ∧ Own8 w w' g C n D := by
  obtain ⟨x, cx, rfl⟩ : ∃ x cx, u = .slice x n cx := by obtain ⟨_, _, a, cap, h, _⟩ := hu; exact ⟨a, cap, h⟩
  obtain ⟨w1, g, C, F0, hrun, hC, hg, hg1, hR, hF, hb⟩ := copy_app w hu (by omega)
  obtain ⟨k1, k2, b, cb, rfl, k5, k6, k4⟩ := hv
  have HA : Hid (n ≤ C ∧ w.heap.size ≤ g ∧ Rw w1 g C F0 ∧ Below w.heap.size w w1 ∧ ∀ i, i < n → F0 i = D i) := ⟨hC, hg, hR, hb, hF⟩
  clear hu hC hg hR hb hF hg1 k4
  go_enter Try.func17, Try.ntmps17
  go_wp2_with (at_builtin; refine Lib.wpList_append_run _ rfl _ _ _ _ rfl _ _ rfl rfl _ _ hrun ?_)
  go_ret2
  obtain ⟨hC, hg, hR, hb, hF⟩ := HA.out
  exact ⟨g, C, rfl, hC, hg, hb, _, hR, hF⟩

set_option maxHeartbeats 2000000 in
set_option maxRecDepth 100000 in
theorem refAdd7_lens (c n m : Nat) (u v : Value) (D S : Nat → Nat) (w : World) (hu : Rb w u n D) (hv : Rb w v m S) (hn : n ≤ 140737488351232) (hnm : n ≠ m) :
    Calls Try.prog 19 #[.int .u8 (c : Int), u, v] w fun e w' => ∃ g C, e = .returned (.tuple #[.slice (some ⟨g, 0, none⟩) n C, .int .i64 6]) ∧ Own8 w w' g C n D := by
  obtain ⟨x, cx, rfl⟩ : ∃ x cx, u = .slice x n cx := by obtain ⟨_, _, a, cap, h, _⟩ := hu; exact ⟨a, cap, h⟩
  obtain ⟨w1, g, C, F0, hrun, hC, hg, hg1, hR, hF, hb⟩ := copy_app w hu (by omega)
  obtain ⟨k1, k2, b, cb, rfl, k5, k6, k4⟩ := hv
  have HA : Hid (n ≤ C ∧ w.heap.size ≤ g ∧ Rw w1 g C F0 ∧ Below w.heap.size w w1 ∧ ∀ i, i < n → F0 i = D i) := ⟨hC, hg, hR, hb, hF⟩
  clear hu hC hg hR hb hF hg1 k4
  go_enter Try.func19, Try.ntmps19
  go_wp2_with (at_builtin; refine Lib.wpList_append_run _ rfl _ _ _ _ rfl _ _ rfl rfl _ _ hrun ?_)
  go_ret2
  obtain ⟨hC, hg, hR, hb, hF⟩ := HA.out
  exact ⟨g, C, rfl, hC, hg, hb, _, hR, hF⟩
set_option maxHeartbeats 2000000 in
set_option maxRecDepth 100000 in
theorem refAdd7_any (c n : Nat) (u v : Value) (D S : Nat → Nat) (w : World) (hc : c < 256) (hu : Rb w u n D) (hv : Rb w v n S) (hn : n ≤ 140737488351232) :
    Calls Try.prog 19 #[.int .u8 (c : Int), u, v] w fun e w' => ∃ g C, e = .returned (.tuple #[.slice (some ⟨g, 0, none⟩) n C, .int .i64 0]) ∧ Own8 w w' g C n (fun i => D i ^^^ fm 285 c (S i)) := by
  obtain ⟨x, cx, rfl⟩ : ∃ x cx, u = .slice x n cx := by obtain ⟨_, _, a, cap, h, _⟩ := hu; exact ⟨a, cap, h⟩
  obtain ⟨w1, g, C, F0, hrun, hC, hg, hg1, hR, hF, hb⟩ := copy_app w hu (by omega)
  obtain ⟨k1, k2, b, cb, rfl, k5, k6, k4⟩ := hv
  have HA : Hid (n ≤ C ∧ w.heap.size ≤ g ∧ Rw w1 g C F0 ∧ Below w.heap.size w w1) := ⟨hC, hg, hR, hb⟩
  have HF : Hid (∀ i, i < n → F0 i = D i) := hF
  clear hu hC hg hR hb hF hg1
  go_enter Try.func19, Try.ntmps19
  go_wp2_with (at_builtin; refine Lib.wpList_append_run _ rfl _ _ _ _ rfl _ _ rfl rfl _ _ hrun ?_)
  clear hrun
  obtain ⟨hC, hg, hR, hb⟩ := HA.out
  go_loopw [9] (fun i wr => ∃ k : Nat, k ≤ n ∧ i = .int .i64 k ∧ Rw wr g C (fun x => if x < k then F0 x ^^^ fm 285 c (S x) else F0 x) ∧ Below w.heap.size w wr) (fun i _ => n - (intOf i).toNat)
  case atStart => exact ⟨0, Nat.zero_le _, rfl, hR.congr (fun i _ => (if_neg (Nat.not_lt_zero _)).symm), hb⟩
  case round =>
    obtain ⟨k, hk, rfl, hr, hbr⟩ := hrel
    by_cases hlt : k < n
    · have q1 := hr.2.2.cell (i := k) (by omega)
      dsimp only at q1
      rw [if_neg (Nat.lt_irrefl _)] at q1
      obtain ⟨b', o', rfl, hbl', hc'⟩ := k4 (by omega)
      have q4 := (hbr.cell (p := ⟨b', o' + k, none⟩) hbl').trans (hc' k (by omega))
      have q2 := hr.2.2.frozen k
      have ib : ((k : Nat) : Int) < (n : Int) := by omega
      have c1 := fun w => refMul_nat c (S k) w hc (k2 k hlt)
      have l0 : F0 k < 256 := hR.2.1 k (by omega)
      have X := u8_xor_nat (F0 k) (fm 285 c (S k)) l0 (fm8_lt _ _)
      have HX : Hid (F0 k ^^^ fm 285 c (S k) < 256) := Nat.xor_lt_two_pow (n := 8) l0 (fm8_lt _ _)
      have W1 := wrap_succ8 (j := k) (by omega)
      have HV : Hid (Rw wr g C (fun x => if x < k then F0 x ^^^ fm 285 c (S x) else F0 x) ∧ Below w.heap.size w wr) := ⟨hr, hbr⟩
      clear hr hbr k1 k2 hc' k4 hR hb hn l0
      go_wp2
      refine region_tail8 13 (by kernel_rfl) (by kernel_rfl) ?_
      simp only [List.take_succ_cons, List.take_zero, List.drop_succ_cons, List.drop_zero]
      repeat still_step
      still_call (c1 _)
      repeat still_step
      refine wpStill_nil ?_
      go_wp2
      go_roundw
      case rel =>
        obtain ⟨g0, g2⟩ := HV.out
        refine ⟨k + 1, hlt, by first | rfl | (rw [W1]; rfl), ?_⟩
        clear W1 X c1
        refine ⟨⟨g0.1, fun i hi => ?_, World.rowIs.drew ((g0.2.2.set k _).congr (fun i hi => ?_))⟩, (g2.setCell hg _).drew⟩
        · have := g0.2.1 i hi
          dsimp only at this ⊢
          by_cases e : i = k
          · subst e; rw [if_pos (Nat.lt_succ_self _)]; exact HX.out
          · by_cases e2 : i < k
            · rw [if_pos e2] at this; rw [if_pos (by omega)]; exact this
            · rw [if_neg e2] at this; rw [if_neg (by omega)]; exact this
        · dsimp only
          by_cases e : i = k
          · subst e; rw [if_pos rfl, if_pos (Nat.lt_succ_self _)]
          · rw [if_neg e]
            by_cases e2 : i < k
            · rw [if_pos e2, if_pos (by omega)]
            · rw [if_neg e2, if_neg (by omega)]
      case measure => first | exact meas_lt8 hlt | (rw [W1]; exact meas_lt8 hlt)
    · have hkN : k = n := by omega
      subst hkN
      clear k4
      go_wp2
      go_ret2
      exact ⟨g, C, rfl, hC, hg, hbr, _, hr, fun i hi => by dsimp only; rw [if_pos hi, HF.out i hi]⟩

/-- the error, and what dst must hold. -/
def we7 (nD nS : Nat) : Int := if nD = nS then 0 else 6
def wt7 (f : Nat → Nat → Nat) (nD nS : Nat) (D S : Nat → Nat) (i : Nat) : Nat := if nD = nS then f (D i) (S i) else D i
theorem ref7_mul (c nD nS : Nat) (u v : Value) (D S : Nat → Nat) (w : World) (hc : c < 256) (hu : Rb w u nD D) (hv : Rb w v nS S) (hn : nD ≤ 140737488351232) :
    Calls Try.prog 17 #[.int .u8 (c : Int), u, v] w fun e w' => ∃ g C, e = .returned (.tuple #[.slice (some ⟨g, 0, none⟩) nD C, .int .i64 (we7 nD nS)]) ∧ Own8 w w' g C nD (wt7 (fun _ s => fm 285 c s) nD nS D S) := by
  unfold we7 wt7
  by_cases h : nD = nS
  · subst h
    simp only [if_true]
    exact refMul7_any c nD u v D S w hc hu hv hn
  · simp only [if_neg h]
    exact refMul7_lens c nD nS u v D S w hu hv hn h
theorem ref7_add (c nD nS : Nat) (u v : Value) (D S : Nat → Nat) (w : World) (hc : c < 256) (hu : Rb w u nD D) (hv : Rb w v nS S) (hn : nD ≤ 140737488351232) :
    Calls Try.prog 19 #[.int .u8 (c : Int), u, v] w fun e w' => ∃ g C, e = .returned (.tuple #[.slice (some ⟨g, 0, none⟩) nD C, .int .i64 (we7 nD nS)]) ∧ Own8 w w' g C nD (wt7 (fun d s => d ^^^ fm 285 c s) nD nS D S) := by
  unfold we7 wt7
  by_cases h : nD = nS
  · subst h
    simp only [if_true]
    exact refAdd7_any c nD u v D S w hc hu hv hn
  · simp only [if_neg h]
    exact refAdd7_lens c nD nS u v D S w hu hv hn h
theorem pl_self (F : Nat → Nat) (o n i : Nat) : F i = pl F o n (fun j => F (o + j)) i := by
  unfold pl
  split
  · next e => congr 1; omega
  · rfl
/-- the kernel's call on a piece of a row, src apart from it. -/
theorem piece7_mul (p : Addr) (lo hi c nD nS g o N : Nat) (F S : Nat → Nat) (x : Option Addr) (ca cx : Nat) (hca : nD ≤ ca) (hcx : nS ≤ cx) (w : World) (hk : Sk w p lo hi) (hc : c < 256) (hn : nD ≤ big) (hg : g < lo ∨ hi ≤ g)
    (hR : Rw w g N F) (hoN : o + nD ≤ N) (hx : Fk w g nS x S) :
    Calls Try.prog 18 #[.pointer (some p), .int .u8 (c : Int), .slice (some ⟨g, o, none⟩) nD ca, .slice x nS cx] w fun e w' => e = .returned (.int .i64 (we7 nD nS)) ∧ Kp g w w' ∧ ∃ F', Rw w' g N F' ∧ ∀ i, F' i = pl F o nD (wt7 (fun _ s => fm 285 c s) nD nS (fun j => F (o + j)) S) i := by
  unfold we7 wt7
  by_cases h : nD = nS
  · subst h
    simp only [if_true]
    exact (smul_far p lo hi c nD g o N F S _ x ca cx hca hcx w hk hc hn hg hR (fun _ => rfl) hoN hx).mono fun e w' ⟨h1, h2, h3⟩ => ⟨h1, h2, _, h3, fun i => rfl⟩
  · simp only [if_neg h]
    refine (smul_lens p lo hi c nD nS _ x ca cx w hk h).mono fun e w' ⟨h1, h2⟩ => ?_
    subst h2
    exact ⟨h1, Kp.refl _ _, F, hR, fun i => pl_self F o nD i⟩
theorem piece7_add (p : Addr) (lo hi c nD nS g o N : Nat) (F S : Nat → Nat) (x : Option Addr) (ca cx : Nat) (hca : nD ≤ ca) (hcx : nS ≤ cx) (w : World) (hk : Sk w p lo hi) (hc : c < 256) (hn : nD ≤ big) (hg : g < lo ∨ hi ≤ g)
    (hR : Rw w g N F) (hoN : o + nD ≤ N) (hx : Fk w g nS x S) :
    Calls Try.prog 20 #[.pointer (some p), .int .u8 (c : Int), .slice (some ⟨g, o, none⟩) nD ca, .slice x nS cx] w fun e w' => e = .returned (.int .i64 (we7 nD nS)) ∧ Kp g w w' ∧ ∃ F', Rw w' g N F' ∧ ∀ i, F' i = pl F o nD (wt7 (fun d s => d ^^^ fm 285 c s) nD nS (fun j => F (o + j)) S) i := by
  unfold we7 wt7
  by_cases h : nD = nS
  · subst h
    simp only [if_true]
    exact (sadd_far p lo hi c nD g o N F S _ x ca cx hca hcx w hk hc hn hg hR (fun _ => rfl) hoN hx).mono fun e w' ⟨h1, h2, h3⟩ => ⟨h1, h2, _, h3, fun i => rfl⟩
  · simp only [if_neg h]
    refine (sadd_lens p lo hi c nD nS _ x ca cx w hk h).mono fun e w' ⟨h1, h2⟩ => ?_
    subst h2
    exact ⟨h1, Kp.refl _ _, F, hR, fun i => pl_self F o nD i⟩
theorem same7_mul (p : Addr) (lo hi c n g o N : Nat) (F : Nat → Nat) (ca cx : Nat) (hca : n ≤ ca) (hcx : n ≤ cx) (w : World) (hk : Sk w p lo hi) (hc : c < 256) (hn : n ≤ big) (hg : g < lo ∨ hi ≤ g) (hR : Rw w g N F) (hoN : o + n ≤ N) :
    Calls Try.prog 18 #[.pointer (some p), .int .u8 (c : Int), .slice (some ⟨g, o, none⟩) n ca, .slice (some ⟨g, o, none⟩) n cx] w fun e w' => e = .returned (.int .i64 (we7 n n)) ∧ Kp g w w' ∧ ∃ F', Rw w' g N F' ∧ ∀ i, F' i = pl F o n (wt7 (fun _ s => fm 285 c s) n n (fun j => F (o + j)) (fun j => F (o + j))) i := by
  unfold we7 wt7
  simp only [if_true]
  exact (smul_same p lo hi c n g o N F _ ca cx hca hcx w hk hc hn hg hR (fun _ => rfl) hoN).mono fun e w' ⟨h1, h2, h3⟩ => ⟨h1, h2, _, h3, fun i => rfl⟩
theorem same7_add (p : Addr) (lo hi c n g o N : Nat) (F : Nat → Nat) (ca cx : Nat) (hca : n ≤ ca) (hcx : n ≤ cx) (w : World) (hk : Sk w p lo hi) (hc : c < 256) (hn : n ≤ big) (hg : g < lo ∨ hi ≤ g) (hR : Rw w g N F) (hoN : o + n ≤ N) :
    Calls Try.prog 20 #[.pointer (some p), .int .u8 (c : Int), .slice (some ⟨g, o, none⟩) n ca, .slice (some ⟨g, o, none⟩) n cx] w fun e w' => e = .returned (.int .i64 (we7 n n)) ∧ Kp g w w' ∧ ∃ F', Rw w' g N F' ∧ ∀ i, F' i = pl F o n (wt7 (fun d s => d ^^^ fm 285 c s) n n (fun j => F (o + j)) (fun j => F (o + j))) i := by
  unfold we7 wt7
  simp only [if_true]
  exact (sadd_same p lo hi c n g o N F _ ca cx hca hcx w hk hc hn hg hR (fun _ => rfl) hoN).mono fun e w' ⟨h1, h2, h3⟩ => ⟨h1, h2, _, h3, fun i => rfl⟩
/-- a roomy row behind the call: marks as they were, the piece as it must be. -/
theorem rmy_turn (f : Nat → Nat → Nat) {nD nS : Nat} {D S F F' S' : Nat → Nat} (h : ∀ i, i < nD + 15 → F i = rmy nD D i) (hS : ∀ j, j < nD → nD = nS → S' j = S j) (e : ∀ i, F' i = pl F 3 nD (wt7 f nD nS (fun j => F (3 + j)) S') i) :
    Mrk nD F' ∧ ∀ j, j < nD → F' (3 + j) = wt7 f nD nS D S j := by
  have hM := Mrk.rmy h
  refine ⟨fun i hi => ⟨fun h1 => ?_, fun h1 => ?_⟩, fun j hj => ?_⟩
  · rw [e i, pl_out (by omega)]; exact (hM i hi).1 h1
  · rw [e i, pl_out (by omega)]; exact (hM i hi).2 h1
  · rw [e (3 + j), pl_in hj]
    unfold wt7
    dsimp only
    rw [h (3 + j) (by omega), rmy_mid hj]
    split
    · next e1 => rw [hS j hj e1]
    · rfl
end Go.Proofs.Ytjoaagkhanbhiaa
