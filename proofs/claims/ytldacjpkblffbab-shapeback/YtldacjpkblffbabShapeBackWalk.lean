import Derived.Test.YtldacjpkblffbabYif
namespace Go.Proofs.Ytldacjpkblffbab
open Go.RowKit Gf2
set_option linter.unusedVariables false

-- layer 16: ShapeBack (laid by wip/genyback.py)
theorem ln16_even {f : Int} {k n : Nat} (h : f = 2) : ln16 f k n % 2 = 0 := by unfold ln16; rw [if_pos h]; omega
theorem ln16_pos {f : Int} {k n : Nat} (hk : 1 ≤ k) (hn : 1 ≤ n) : 1 ≤ ln16 f k n := by
  have := ln16_ge f (k := k) (n := n) hk
  rcases Nat.eq_zero_or_pos (ln16 f k n) with e | e
  · rw [e, Nat.mul_zero] at this; omega
  · exact e
theorem aeb_uni {l c : Nat} (hl : 1 ≤ l) : aeb (fun _ => l) c = false := aeb_no.2 (fun _ _ => by omega)
theorem jne_uni {f : Int} {k m c l : Nat} {N : Int} (hp : prm f k m = 0) (hc : k ≤ c) (hl : 1 ≤ l) (hev : f = 2 → l % 2 = 0) : jne f k m c (fun _ => l) N = if N < 0 ∨ ((k * l : Nat) : Int) < N then 164 else 0 := by
  have hk : 0 < k := by have := (prm_ok.1 hp).hk; omega
  have e1 : scf (some 0) (fun _ => l) k = some l := scf_uni (by omega) (fun _ _ => rfl) hk
  have ho : ¬ (f = 2 ∧ l % 2 = 1) := fun e => by have := hev e.1; omega
  unfold jne
  rw [if_pos hp, if_neg (by omega), Int.toNat_natCast, aeb_uni hl, if_neg (by decide), e1, ole_even ho, if_pos rfl, olv_even ho, Int.natCast_mul]
theorem whole_uni {f : Int} {k m l : Nat} (hp : prm f k m = 0) (hl : 1 ≤ l) (hev : f = 2 → l % 2 = 0) : wle f k m (k + m) (fun _ => l) = 0 ∧ wlv f k m (k + m) (fun _ => l) = (l : Int) := by
  have hk : 0 < k := by have := (prm_ok.1 hp).hk; omega
  have e1 : scf (some 0) (fun _ => l) (k + m) = some l := scf_uni (by omega) (fun _ _ => rfl) (by omega)
  have ho : ¬ (f = 2 ∧ l % 2 = 1) := fun e => by have := hev e.1; omega
  have ec : ((k + m : Nat) : Int) = (k : Int) + (m : Int) := by omega
  unfold wle wlv
  rw [if_pos hp, if_pos hp, if_pos ec, if_pos ec, aeb_uni hl, if_neg (by decide), if_neg (by decide), e1, ole_even ho, olv_even ho]
  exact ⟨rfl, rfl⟩
theorem jnb_spl {l n : Nat} {D : Nat → Nat} (i : Nat) : jnb l (spl l n D) i = if i < n then D i else 0 := by
  unfold jnb spl
  rw [Nat.mul_comm, Nat.div_add_mod]
theorem spl_parity {k l n : Nat} {D : Nat → Nat} (h : n ≤ k * l) {j i : Nat} (hj : k ≤ j) : spl l n D j i = 0 := by
  unfold spl
  rw [if_neg]
  have : k * l ≤ j * l := Nat.mul_le_mul_right _ hj
  omega
set_option maxHeartbeats 8000000 in
set_option maxRecDepth 100000 in
theorem back16_no (f K M : Int) (a : Option Addr) (n cap : Nat) (D : Nat → Nat) (w : World) (hk : I64 K) (hD : Rb w (.slice a n cap) n D) (hn : n ≤ 140737488351232) (h : lne f K M n ≠ 0) :
    Calls Try.prog 3 #[.agg #[.int .i64 f, .int .i64 K, .int .i64 M], .slice a n cap] w fun e w' => e = .returned (.bool true) ∧ Below w.heap.size w w' := by
  obtain ⟨X0, hX⟩ : ∃ X, X = w.alloc (.cells #[.int .i64 f, .int .i64 K, .int .i64 M] 23) := ⟨_, rfl⟩
  have hh := heap_alloc_new w (.cells #[.int .i64 f, .int .i64 K, .int .i64 M] 23)
  have b0 : Below w.heap.size w X0 := by rw [hX]; exact balloc16 _ _
  have hlt : w.heap.size < X0.heap.size := by rw [hX]; simp
  rw [← hX] at hh
  have HC : Hid (∀ x, Below X0.heap.size X0 x → x.cell? ⟨w.heap.size, 0, none⟩ = some (.int .i64 f) ∧ x.cell? ⟨w.heap.size, 1, none⟩ = some (.int .i64 K) ∧ x.cell? ⟨w.heap.size, 2, none⟩ = some (.int .i64 M)) := fun x hx => by
    have c : ∀ q v, (#[.int .i64 f, .int .i64 K, .int .i64 M] : Array Value)[q]? = some v → x.cell? ⟨w.heap.size, q, none⟩ = some v := fun q v hq => by
      rw [hx.cell (p := ⟨w.heap.size, q, none⟩) hlt, cell_of_row _ _ _ _ _ _ hh]
      exact hq
    exact ⟨c 0 _ rfl, c 1 _ rfl, c 2 _ rfl⟩
  have c0 := awake16 X0
  have hD0 := hD.below b0
  have HK : Hid ((∀ X1 q, Below X0.heap.size X0 X1 → Calls Try.prog 7 #[.agg #[.int .i64 0, .int .i64 f, .int .i64 K, .int .i64 M, .int .i64 0, .slice none 0 0, .slice none 0 0, .slice a n cap]] (X1.drewN q) fun e w' => ∃ b, e = .returned (.bool b) ∧ Below (X1.drewN q).heap.size (X1.drewN q) w') ∧
      (∀ X2, Below X0.heap.size X0 X2 → ∃ X3 g Cg, (Builtin.append_ #[24, 24] 24 #[.slice (some ⟨X2.heap.size, 0, none⟩) 0 0, .slice a n cap]).run Try.prog (X2.alloc (.cells #[] 5)) = .ok (.slice (some ⟨g, 0, none⟩) n Cg) X3 ∧ Below X0.heap.size X0 X3 ∧ Rb X3 (.slice (some ⟨g, 0, none⟩) n Cg) n D)) := by
    refine ⟨fun X1 q h1 => great16_split 0 (by decide) f K M 0 _ _ _ (X1.drewN q) n D ((hD0.below h1).drewN q), fun X2 h2 => ?_⟩
    obtain ⟨X3, g, Cg, F, hrun, hC, hg, hg1, hR, hF, hb2⟩ := copy_app X2 (hD0.below h2) (by omega)
    exact ⟨X3, g, Cg, hrun, bthen16 h2 hb2, ((hR.rb (o := 0) (n := n) (cap := Cg) (by omega) hC hR.1).congr (fun i hi => by rw [Nat.zero_add]; exact hF i hi))⟩
  have HD : Hid (Rb X0 (.slice a n cap) n D ∧ n ≤ 140737488351232 ∧ I64 K ∧ Below w.heap.size w X0) := ⟨hD0, hn, hk, b0⟩
  have HX : Hid (X0 = w.alloc (.cells #[.int .i64 f, .int .i64 K, .int .i64 M] 23)) := hX
  rw [hX] at c0
  have c2 := fun x => length16 f K M n x hk
  have c3 : ∀ X v, Rb X v n D → _ := fun X v hv => split16_no f K M v n D X hk hv h
  unfold lnv at c2
  rw [if_neg h] at c2
  generalize lne f K M n = z at *
  have D1 : (z != 0) = true := by simpa using h
  have D2 : (z == 0) = false := by simpa using h
  clear hX hh b0 hlt h hk hn hD hD0
  go_enter Try.func3, Try.ntmps3
  go_wp2_with (go_at_call 6; ((with_reducible refine (c0).mono ?_); (rintro e X1 ⟨rfl, hb⟩; have hb : Below X0.heap.size X0 X1 := (by rw [HX.out]; exact hb); obtain ⟨z0, z1, z2⟩ := HC.out X1 hb; have H1 : Hid (Below X0.heap.size X0 X1) := hb; have c1 := fun q => HK.out.1 X1 q hb; clear hb)))
  go_quiet (fail)
  go_wp2_with (first
    | (go_at_call 7; (with_reducible refine (c1 _).mono ?_); rintro e X2 ⟨b, rfl, hb⟩; have hb2 : Below X0.heap.size X0 X2 := bthen16 (below_drewN H1.out _) hb; obtain ⟨X3, g, Cg, hrun, hb3, hr3⟩ := HK.out.2 X2 hb2; have H2 : Hid (Below X0.heap.size X0 X2) := hb2; have H3 : Hid (Below X0.heap.size X0 X3 ∧ Rb X3 (.slice (some ⟨g, 0, none⟩) n Cg) n D) := ⟨hb3, hr3⟩; clear c1 hb hb2 hb3 hr3 HK; cases b)
    | (go_at_call 8; (with_reducible refine (c2 _).mono ?_); rintro e w9 ⟨rfl, hw9⟩; have hw9 := hw9.symm; subst hw9; clear hw9 c2)
    | (at_builtin; refine Lib.wpList_append_run _ rfl _ _ _ _ rfl _ _ rfl rfl _ _ hrun ?_; clear hrun; have d3 := c3 X3 _ H3.out.2)
    | (go_at_call 9; (with_reducible refine d3.mono ?_); rintro e w9 ⟨rfl, hw9⟩; have hw9 := hw9.symm; subst hw9))
  · go_ret
    exact ⟨rfl, bthen16 HD.out.2.2.2 H3.out.1⟩
  · go_ret
    exact ⟨rfl, bthen16 HD.out.2.2.2 H2.out⟩
set_option maxHeartbeats 8000000 in
set_option maxRecDepth 100000 in
theorem back16_big (f : Int) (K M : Nat) (a : Option Addr) (n cap : Nat) (D : Nat → Nat) (w : World) (hk : I64 K) (hD : Rb w (.slice a n cap) n D) (hn : n ≤ 140737488351232) (h : lne f K M n = 0) (hbig : 67108864 < (K + M) * ln16 f K n) :
    Calls Try.prog 3 #[.agg #[.int .i64 f, .int .i64 (K : Int), .int .i64 (M : Int)], .slice a n cap] w fun e w' => e = .returned (.bool true) ∧ Below w.heap.size w w' := by
  obtain ⟨X0, hX⟩ : ∃ X, X = w.alloc (.cells #[.int .i64 f, .int .i64 (K : Int), .int .i64 (M : Int)] 23) := ⟨_, rfl⟩
  have hh := heap_alloc_new w (.cells #[.int .i64 f, .int .i64 (K : Int), .int .i64 (M : Int)] 23)
  have b0 : Below w.heap.size w X0 := by rw [hX]; exact balloc16 _ _
  have hlt : w.heap.size < X0.heap.size := by rw [hX]; simp
  rw [← hX] at hh
  have HC : Hid (∀ x, Below X0.heap.size X0 x → x.cell? ⟨w.heap.size, 0, none⟩ = some (.int .i64 f) ∧ x.cell? ⟨w.heap.size, 1, none⟩ = some (.int .i64 (K : Int)) ∧ x.cell? ⟨w.heap.size, 2, none⟩ = some (.int .i64 (M : Int))) := fun x hx => by
    have c : ∀ q v, (#[.int .i64 f, .int .i64 (K : Int), .int .i64 (M : Int)] : Array Value)[q]? = some v → x.cell? ⟨w.heap.size, q, none⟩ = some v := fun q v hq => by
      rw [hx.cell (p := ⟨w.heap.size, q, none⟩) hlt, cell_of_row _ _ _ _ _ _ hh]
      exact hq
    exact ⟨c 0 _ rfl, c 1 _ rfl, c 2 _ rfl⟩
  have c0 := awake16 X0
  have hD0 := hD.below b0
  have HK : Hid ((∀ X1 q, Below X0.heap.size X0 X1 → Calls Try.prog 7 #[.agg #[.int .i64 0, .int .i64 f, .int .i64 (K : Int), .int .i64 (M : Int), .int .i64 0, .slice none 0 0, .slice none 0 0, .slice a n cap]] (X1.drewN q) fun e w' => ∃ b, e = .returned (.bool b) ∧ Below (X1.drewN q).heap.size (X1.drewN q) w') ∧
      (∀ X2, Below X0.heap.size X0 X2 → ∃ X3 g Cg, (Builtin.append_ #[24, 24] 24 #[.slice (some ⟨X2.heap.size, 0, none⟩) 0 0, .slice a n cap]).run Try.prog (X2.alloc (.cells #[] 5)) = .ok (.slice (some ⟨g, 0, none⟩) n Cg) X3 ∧ Below X0.heap.size X0 X3 ∧ Rb X3 (.slice (some ⟨g, 0, none⟩) n Cg) n D)) := by
    refine ⟨fun X1 q h1 => great16_split 0 (by decide) f K M 0 _ _ _ (X1.drewN q) n D ((hD0.below h1).drewN q), fun X2 h2 => ?_⟩
    obtain ⟨X3, g, Cg, F, hrun, hC, hg, hg1, hR, hF, hb2⟩ := copy_app X2 (hD0.below h2) (by omega)
    exact ⟨X3, g, Cg, hrun, bthen16 h2 hb2, ((hR.rb (o := 0) (n := n) (cap := Cg) (by omega) hC hR.1).congr (fun i hi => by rw [Nat.zero_add]; exact hF i hi))⟩
  have HD : Hid (Rb X0 (.slice a n cap) n D ∧ n ≤ 140737488351232 ∧ I64 K ∧ Below w.heap.size w X0) := ⟨hD0, hn, hk, b0⟩
  have HX : Hid (X0 = w.alloc (.cells #[.int .i64 f, .int .i64 (K : Int), .int .i64 (M : Int)] 23)) := hX
  rw [hX] at c0
  have c2 := fun x => length16 f K M n x hk
  have c3 : ∀ X v, Rb X v n D → _ := fun X v hv => split16_big f K M v n D X hk hv h hbig
  unfold lnv at c2
  rw [if_pos h, h] at c2
  have c2 : ∀ x, Calls Try.prog 8 #[.int .i64 f, .int .i64 (K : Int), .int .i64 (M : Int), .int .i64 (n : Int)] x fun e w' => e = .returned (.tuple #[.int .i64 (ln16 f K n : Nat), .int .i64 0]) ∧ w' = x := c2
  obtain ⟨hp, hn1, hn2⟩ := lne_ok h
  have hv' := prm_ok.1 hp
  obtain ⟨s, d, HS, Wa, T1, Wb, hs0⟩ := split_quo (k := K) (m := M) (by have := hv'.hk; omega) (by have := hv'.sum; omega) 67108864 (by decide)
  have T1 : (67108864 : Int).tdiv (s : Int) = (d : Int) := T1
  have hdl : d < ln16 f K n := by
    rw [HS.out.2]
    have : 0 < K + M := by have := hv'.hk; clear Wa Wb; omega
    rw [Nat.div_lt_iff_lt_mul this, Nat.mul_comm]
    exact hbig
  generalize ln16 f K n = l at *
  clear hX hh b0 hlt h hk hn hD hD0 hp hn1 hn2 hv' hbig
  go_enter Try.func3, Try.ntmps3
  go_wp2_with (go_at_call 6; ((with_reducible refine (c0).mono ?_); (rintro e X1 ⟨rfl, hb⟩; have hb : Below X0.heap.size X0 X1 := (by rw [HX.out]; exact hb); obtain ⟨z0, z1, z2⟩ := HC.out X1 hb; have H1 : Hid (Below X0.heap.size X0 X1) := hb; have c1 := fun q => HK.out.1 X1 q hb; clear hb)))
  go_quiet (fail)
  go_wp2_with (first
    | (go_at_call 7; (with_reducible refine (c1 _).mono ?_); rintro e X2 ⟨b, rfl, hb⟩; have hb2 : Below X0.heap.size X0 X2 := bthen16 (below_drewN H1.out _) hb; obtain ⟨X3, g, Cg, hrun, hb3, hr3⟩ := HK.out.2 X2 hb2; have H2 : Hid (Below X0.heap.size X0 X2) := hb2; have H3 : Hid (Below X0.heap.size X0 X3 ∧ Rb X3 (.slice (some ⟨g, 0, none⟩) n Cg) n D) := ⟨hb3, hr3⟩; clear c1 hb hb2 hb3 hr3 HK; cases b)
    | (go_at_call 8; (with_reducible refine (c2 _).mono ?_); rintro e w9 ⟨rfl, hw9⟩; have hw9 := hw9.symm; subst hw9; clear hw9 c2)
    | (at_builtin; refine Lib.wpList_append_run _ rfl _ _ _ _ rfl _ _ rfl rfl _ _ hrun ?_; clear hrun; have d3 := c3 X3 _ H3.out.2)
    | (go_at_call 9; (with_reducible refine d3.mono ?_); rintro e w9 ⟨rfl, hw9⟩; have hw9 := hw9.symm; subst hw9))
  · go_ret
    exact ⟨rfl, bthen16 HD.out.2.2.2 H3.out.1⟩
  · go_ret
    exact ⟨rfl, bthen16 HD.out.2.2.2 H2.out⟩
/-- what is left of ShapeBack: the shards u, with the data. -/
structure Bst (X0 X : World) (u : Value) (s l n : Nat) (D : Nat → Nat) (vD : Value) : Prop where
  bel : Below X0.heap.size X0 X
  u : Lb X u s (fun _ => l) (spl l n D)
  d : Rb X vD n D
theorem Bst.below {X0 X X' : World} {u : Value} {s l n : Nat} {D : Nat → Nat} {vD : Value} (h : Bst X0 X u s l n D vD) (hb : Below X.heap.size X X') : Bst X0 X' u s l n D vD := ⟨bthen16 h.bel hb, Lb.below h.u hb, h.d.below hb⟩
/-- a join of the shards. -/
theorem back_join {X0 X : World} {x : Option Addr} {c cu : Nat} {f : Int} {K M l n : Nat} {D : Nat → Nat} (N : Nat) (h : Lb X (.slice x c cu) c (fun _ => l) (spl l n D)) (hk : I64 K) (hp : prm f K M = 0) (hc : K ≤ c) (hcb : c ≤ 65536) (hl : 1 ≤ l) (hlb : l ≤ 67108864) (hkl : K * l ≤ 67108864) (hev : f = 2 → l % 2 = 0) (hN : N ≤ K * l) :
    Calls Try.prog 11 #[.int .i64 f, .int .i64 (K : Int), .int .i64 (M : Int), .slice x c cu, .int .i64 (N : Int)] X fun e w' => ∃ g, e = .returned (.tuple #[.slice (some ⟨g, 0, none⟩) N N, .int .i64 0]) ∧ Below X.heap.size X w' ∧ Rw w' g N (fun i => if i < n then D i else 0) := by
  have e0 : jne f K M c (fun _ => l) N = 0 := by rw [jne_uni hp hc hl hev, if_neg (by omega)]
  have hk0 : 0 < K := by have := (prm_ok.1 hp).hk; omega
  have e1 : scf (some 0) (fun _ => l) K = some l := scf_uni (by omega) (fun _ _ => rfl) hk0
  refine (join16 f K M N _ c _ _ X hk ⟨by omega, by omega⟩ h (by omega) (fun _ _ => by omega) (fun _ _ l' hl' => by rw [Int.toNat_natCast] at hl' ⊢; rw [e1] at hl'; cases hl'; omega)).mono fun e w' ⟨u, he, hA⟩ => ?_
  obtain ⟨l', h1, h2, hb, g, hu, hg, hr⟩ := hA.yes e0
  rw [Int.toNat_natCast, e1] at h1
  cases h1
  rw [Int.toNat_natCast] at hu hr
  subst hu
  rw [e0] at he
  exact ⟨g, he, hb, hr.congr (fun i _ => jnb_spl i)⟩
set_option maxHeartbeats 16000000 in
set_option maxRecDepth 100000 in
theorem back16_yes (f : Int) (K M : Nat) (a : Option Addr) (n cap : Nat) (D : Nat → Nat) (w : World) (hk : I64 K) (hD : Rb w (.slice a n cap) n D) (hn : n ≤ 140737488351232) (h : lne f K M n = 0) (hsm : (K + M) * ln16 f K n ≤ 67108864) :
    Calls Try.prog 3 #[.agg #[.int .i64 f, .int .i64 (K : Int), .int .i64 (M : Int)], .slice a n cap] w fun e w' => e = .returned (.bool true) ∧ Below w.heap.size w w' := by
  obtain ⟨X0, hX⟩ : ∃ X, X = w.alloc (.cells #[.int .i64 f, .int .i64 (K : Int), .int .i64 (M : Int)] 23) := ⟨_, rfl⟩
  have hh := heap_alloc_new w (.cells #[.int .i64 f, .int .i64 (K : Int), .int .i64 (M : Int)] 23)
  have b0 : Below w.heap.size w X0 := by rw [hX]; exact balloc16 _ _
  have hlt : w.heap.size < X0.heap.size := by rw [hX]; simp
  rw [← hX] at hh
  have HC : Hid (∀ x, Below X0.heap.size X0 x → x.cell? ⟨w.heap.size, 0, none⟩ = some (.int .i64 f) ∧ x.cell? ⟨w.heap.size, 1, none⟩ = some (.int .i64 (K : Int)) ∧ x.cell? ⟨w.heap.size, 2, none⟩ = some (.int .i64 (M : Int))) := fun x hx => by
    have c : ∀ q v, (#[.int .i64 f, .int .i64 (K : Int), .int .i64 (M : Int)] : Array Value)[q]? = some v → x.cell? ⟨w.heap.size, q, none⟩ = some v := fun q v hq => by
      rw [hx.cell (p := ⟨w.heap.size, q, none⟩) hlt, cell_of_row _ _ _ _ _ _ hh]
      exact hq
    exact ⟨c 0 _ rfl, c 1 _ rfl, c 2 _ rfl⟩
  have c0 := awake16 X0
  have hD0 := hD.below b0
  have HK : Hid ((∀ X1 q, Below X0.heap.size X0 X1 → Calls Try.prog 7 #[.agg #[.int .i64 0, .int .i64 f, .int .i64 (K : Int), .int .i64 (M : Int), .int .i64 0, .slice none 0 0, .slice none 0 0, .slice a n cap]] (X1.drewN q) fun e w' => ∃ b, e = .returned (.bool b) ∧ Below (X1.drewN q).heap.size (X1.drewN q) w') ∧
      (∀ X2, Below X0.heap.size X0 X2 → ∃ X3 g Cg, (Builtin.append_ #[24, 24] 24 #[.slice (some ⟨X2.heap.size, 0, none⟩) 0 0, .slice a n cap]).run Try.prog (X2.alloc (.cells #[] 5)) = .ok (.slice (some ⟨g, 0, none⟩) n Cg) X3 ∧ Below X0.heap.size X0 X3 ∧ Rb X3 (.slice (some ⟨g, 0, none⟩) n Cg) n D)) := by
    refine ⟨fun X1 q h1 => great16_split 0 (by decide) f K M 0 _ _ _ (X1.drewN q) n D ((hD0.below h1).drewN q), fun X2 h2 => ?_⟩
    obtain ⟨X3, g, Cg, F, hrun, hC, hg, hg1, hR, hF, hb2⟩ := copy_app X2 (hD0.below h2) (by omega)
    exact ⟨X3, g, Cg, hrun, bthen16 h2 hb2, ((hR.rb (o := 0) (n := n) (cap := Cg) (by omega) hC hR.1).congr (fun i hi => by rw [Nat.zero_add]; exact hF i hi))⟩
  have HD : Hid (Rb X0 (.slice a n cap) n D ∧ n ≤ 140737488351232 ∧ I64 K ∧ Below w.heap.size w X0) := ⟨hD0, hn, hk, b0⟩
  have HX : Hid (X0 = w.alloc (.cells #[.int .i64 f, .int .i64 (K : Int), .int .i64 (M : Int)] 23)) := hX
  rw [hX] at c0
  have c2 := fun x => length16 f K M n x hk
  have c3 : ∀ X v, Rb X v n D → _ := fun X v hv => split16_yes f K M v n D X hk hv h hsm
  unfold lnv at c2
  rw [if_pos h, h] at c2
  have c2 : ∀ x, Calls Try.prog 8 #[.int .i64 f, .int .i64 (K : Int), .int .i64 (M : Int), .int .i64 (n : Int)] x fun e w' => e = .returned (.tuple #[.int .i64 (ln16 f K n : Nat), .int .i64 0]) ∧ w' = x := c2
  obtain ⟨hp, hn1, hn2⟩ := lne_ok h
  have hv' := prm_ok.1 hp
  have hK1 : 1 ≤ K := by have := hv'.hk; omega
  have hM1 : 1 ≤ M := by have := hv'.hm; omega
  have hKM : K + M ≤ 65536 := by have := hv'.sum; omega
  have hl1 : 1 ≤ ln16 f K n := ln16_pos hK1 (by omega)
  have hkl := ln16_ge f (k := K) (n := n) hK1
  have hev : f = 2 → ln16 f K n % 2 = 0 := fun e => ln16_even e
  obtain ⟨s, d, HS, Wa, T1, Wb, hs0⟩ := split_quo (k := K) (m := M) hK1 hKM 67108864 (by decide)
  have T1 : (67108864 : Int).tdiv (s : Int) = (d : Int) := T1
  have hdl : ¬ d < ln16 f K n := by
    rw [HS.out.2]
    have : 0 < K + M := by clear Wa Wb; omega
    rw [Nat.div_lt_iff_lt_mul this, Nat.mul_comm]
    exact Nat.not_lt.2 hsm
  obtain ⟨l, hl⟩ : ∃ l, l = ln16 f K n := ⟨_, rfl⟩
  rw [← hl] at c2 hl1 hkl hev hdl hsm
  have c3 : ∀ X v, Rb X v n D → Calls Try.prog 9 #[.int .i64 f, .int .i64 (K : Int), .int .i64 (M : Int), v] X fun e w' => ∃ u, e = .returned (.tuple #[u, .int .i64 0]) ∧ An16 X w' u s l (spl l n D) := fun X v hv => by rw [hl, HS.out.1]; exact c3 X v hv
  have hll : l ≤ 67108864 := Nat.le_trans (Nat.le_mul_of_pos_left l (by clear Wa Wb; omega : 0 < K + M)) hsm
  have hKl : K * l ≤ 67108864 := Nat.le_trans (Nat.mul_le_mul_right l (by clear Wa Wb; omega)) hsm
  obtain ⟨p, HP, Wp⟩ := join_nums (k := K) (l := l) (by clear Wa Wb; omega) (by clear Wa Wb; omega)
  have Wq : wrap64 ((p : Int) + 1) = ((p + 1 : Nat) : Int) := by have := HP.out; clear Wa Wb Wp; unfold wrap64; omega
  obtain ⟨p1, hp1⟩ : ∃ p1, p1 = p + 1 := ⟨_, rfl⟩
  rw [← hp1] at Wq
  have HN : Hid (prm f K M = 0 ∧ 1 ≤ K ∧ 1 ≤ M ∧ K + M ≤ 65536 ∧ 1 ≤ l ∧ l ≤ 67108864 ∧ K * l ≤ 67108864 ∧ (f = 2 → l % 2 = 0) ∧ n ≤ K * l ∧ s = K + M ∧ p = K * l) := ⟨hp, hK1, hM1, hKM, hl1, hll, hKl, hev, hkl, HS.out.1, HP.out⟩
  have HW : Hid (wrap64 ((K : Int) + (M : Int)) = (s : Int) ∧ wrap64 ((K : Int) * (l : Int)) = (p : Int) ∧ wrap64 ((p : Int) + 1) = (p1 : Int)) := ⟨Wa, Wp, Wq⟩
  have JB : Hid (∀ X x c cu N, Lb X (.slice x c cu) c (fun _ => l) (spl l n D) → K ≤ c ∧ c ≤ 65536 → N ≤ K * l → Calls Try.prog 11 #[.int .i64 f, .int .i64 (K : Int), .int .i64 (M : Int), .slice x c cu, .int .i64 (N : Int)] X fun e w' => ∃ g, e = .returned (.tuple #[.slice (some ⟨g, 0, none⟩) N N, .int .i64 0]) ∧ Below X.heap.size X w' ∧ Rw w' g N (fun i => if i < n then D i else 0)) := fun X x c cu N hL hc hN' => back_join (X0 := X0) N hL hk hp hc.1 hc.2 hl1 hll hKl hev hN'
  have JE : Hid (∀ X x cu, Lb X (.slice x s cu) s (fun _ => l) (spl l n D) → Calls Try.prog 11 #[.int .i64 f, .int .i64 (K : Int), .int .i64 (M : Int), .slice x s cu, .int .i64 (p1 : Int)] X fun e w' => e = .returned (.tuple #[.slice none 0 0, .int .i64 164]) ∧ Below X.heap.size X w') := fun X x cu hL => by
    have hs' := HS.out.1
    have hp' := HP.out
    have hKs : K ≤ s := by clear Wa Wb Wp Wq; omega
    have e0 : jne f K M s (fun _ => l) (p1 : Int) = 164 := by rw [jne_uni hp hKs hl1 hev, if_pos (by right; rw [← hp']; clear Wa Wb Wp Wq; omega)]
    have e1 : scf (some 0) (fun _ => l) K = some l := scf_uni (by clear Wa Wb Wp Wq; omega) (fun _ _ => rfl) hK1
    refine (join16 f K M (p1 : Int) _ s _ _ X hk ⟨by clear Wa Wb Wp Wq; omega, by clear Wa Wb Wp Wq; omega⟩ hL (by clear Wa Wb Wp Wq; omega) (fun _ _ => by clear Wa Wb Wp Wq; omega) (fun _ _ l' hl' => by rw [Int.toNat_natCast] at hl' ⊢; rw [e1] at hl'; cases hl'; clear Wa Wb Wp Wq; omega)).mono fun e w' ⟨u, he, hA⟩ => ?_
    rw [hA.no (by rw [e0]; decide), e0] at he
    exact ⟨he, hA.bel⟩
  have HWh : Hid (∀ X x cu, Lb X (.slice x s cu) s (fun _ => l) (spl l n D) → Calls Try.prog 10 #[.int .i64 f, .int .i64 (K : Int), .int .i64 (M : Int), .slice x s cu] X fun e w' => e = .returned (.tuple #[.int .i64 (l : Nat), .int .i64 0]) ∧ Below X.heap.size X w') := fun X x cu hL => by
    have hs' := HS.out.1
    have := whole16 f K M (.slice x s cu) s (fun _ => l) X hk (hL.ln (by clear Wa Wb Wp Wq; omega))
    rw [hs', (whole_uni hp hl1 hev).1, (whole_uni hp hl1 hev).2] at this
    rw [hs']
    exact this
  have HH : Hid (∀ x cu X, Lb X (.slice x s cu) s (fun _ => l) (spl l n D) → ∃ x', Lb X (.slice x' K cu) K (fun _ => l) (spl l n D) ∧ ∀ W : World, (Instr.slice 27 (.slice x s cu) none (some (.int .i64 (K : Int))) none).run Try.prog W = .ok (.slice x' K cu) W) := fun x cu X hL => by
    have hKs : K ≤ s := by have := HS.out.1; clear Wa Wb Wp Wq; omega
    have hcu : s ≤ cu := by obtain ⟨V, ⟨_, a', cap', e, h5, _⟩, _⟩ := hL; cases e; exact h5
    obtain ⟨x', h1, h2⟩ := head16 x s cu K (Nat.le_trans hKs hcu)
    exact ⟨x', hL.head hKs h1, h2⟩
  clear hX hh b0 hlt h hk hn hD hD0 hp hn1 hn2 hv' hsm hK1 hM1 hKM hl1 hkl hev hl hll hKl Wq hp1
  go_enter Try.func3, Try.ntmps3
  go_wp2_with (go_at_call 6; ((with_reducible refine (c0).mono ?_); (rintro e X1 ⟨rfl, hb⟩; have hb : Below X0.heap.size X0 X1 := (by rw [HX.out]; exact hb); obtain ⟨z0, z1, z2⟩ := HC.out X1 hb; have H1 : Hid (Below X0.heap.size X0 X1) := hb; have c1 := fun q => HK.out.1 X1 q hb; clear hb)))
  go_quiet (fail)
  go_wp2_with (first
    | (go_at_call 7; (with_reducible refine (c1 _).mono ?_); rintro e X2 ⟨b, rfl, hb⟩; have hb2 : Below X0.heap.size X0 X2 := bthen16 (below_drewN H1.out _) hb; obtain ⟨X3, g, Cg, hrun, hb3, hr3⟩ := HK.out.2 X2 hb2; have H2 : Hid (Below X0.heap.size X0 X2) := hb2; have H3 : Hid (Below X0.heap.size X0 X3 ∧ Rb X3 (.slice (some ⟨g, 0, none⟩) n Cg) n D) := ⟨hb3, hr3⟩; clear c1 hb hb2 hb3 hr3 HK; cases b)
    | (go_at_call 8; (with_reducible refine (c2 _).mono ?_); rintro e w9 ⟨rfl, hw9⟩; have hw9 := hw9.symm; subst hw9; clear hw9 c2)
    | (at_builtin; refine Lib.wpList_append_run _ rfl _ _ _ _ rfl _ _ rfl rfl _ _ hrun ?_; clear hrun; have d3 := c3 X3 _ H3.out.2)
    | (go_at_call 9; (with_reducible refine d3.mono ?_); rintro e X4 ⟨u, rfl, hA⟩; obtain ⟨B, hC⟩ := hA.cs; have hlb := hC.lb; obtain ⟨xu, cu, hu⟩ := lb_form hlb; subst hu; have H4 : Hid (Bst X0 X4 (.slice xu s cu) s l n D (.slice a n cap)) := ⟨bthen16 H3.out.1 hA.bel, hlb, HD.out.1.below (bthen16 H3.out.1 hA.bel)⟩; have hlb := H4.out.u; have c5 := HWh.out X4 xu cu hlb; clear hA hC hlb d3 c3)
    | (go_at_call 10; (with_reducible refine c5.mono ?_); rintro e X5 ⟨rfl, hb⟩; have H5 : Hid (Bst X0 X5 (.slice xu s cu) s l n D (.slice a n cap)) := H4.out.below hb; have c6 := JB.out X5 xu s cu n H5.out.u (by have := HN.out; omega) HN.out.2.2.2.2.2.2.2.2.1; clear c5 hb)
    | (go_at_call 11; first
        | ((with_reducible refine c6.mono ?_); rintro e X6 ⟨g6, rfl, hb, hr⟩; have H6 : Hid (Bst X0 X6 (.slice xu s cu) s l n D (.slice a n cap)) := H5.out.below hb; have c7 := sb16_true _ _ n _ D X6 hr.rb0 H6.out.d (fun i hi => if_pos hi); clear c6 hb hr)
        | ((with_reducible refine c8.mono ?_); rintro e X8 ⟨g8, rfl, hb, hr⟩; have H8 : Hid (Bst X0 X8 (.slice xu s cu) s l n D (.slice a n cap) ∧ Rw X8 g8 p (fun i => if i < n then D i else 0)) := ⟨H7.out.below hb, hr⟩; clear c8 hb hr))
    | (go_at_call 12; (with_reducible refine c7.mono ?_); rintro e X7 ⟨rfl, q, hq⟩; have b7 : Below X6.heap.size X6 X7 := (by rw [hq]; exact below_drewN (Below.refl _ _) q); have H7 : Hid (Bst X0 X7 (.slice xu s cu) s l n D (.slice a n cap)) := H6.out.below b7; obtain ⟨x', hx', hsl⟩ := HH.out xu cu X7 H7.out.u; have hsl := hsl X7; have c8 := JB.out X7 x' K cu p hx' (by have := HN.out; omega) (Nat.le_of_eq HN.out.2.2.2.2.2.2.2.2.2.2); clear c7 hq b7))
  · clear Wa Wb T1 hdl hs0 hsl Wp
    go_loopw [16] (fun i wr => ∃ t : Nat, n ≤ t ∧ t ≤ p ∧ i = .int .i64 t ∧ wr = X8) (fun i _ => p - (intOf i).toNat)
    case atStart => exact ⟨n, Nat.le_refl _, by have := HN.out; omega, rfl, rfl⟩
    case round =>
      obtain ⟨t, hnt, htp, rfl, rfl⟩ := hrel
      have Wp := HW.out.2.1
      by_cases hlt : t < p
      · have q1 := H8.out.2.2.2.cell hlt
        have e0 : (if t < n then D t else 0) = 0 := if_neg (by clear Wp; omega)
        simp only [e0] at q1
        have it : ((t : Nat) : Int) < (p : Int) := Int.ofNat_lt.2 hlt
        have W1 := wrap_succ8 (j := t) (by have := HN.out; unfold big; clear Wp; omega)
        have HX : Hid (t < p ∧ n ≤ t) := ⟨hlt, hnt⟩
        clear hnt htp hlt e0
        go_wp2
        go_roundw
        case rel => first | exact ⟨t + 1, Nat.le_succ_of_le HX.out.2, HX.out.1, by first | rfl | (rw [W1]; rfl), by trivial⟩ | exact ⟨_, ⟨t + 1, Nat.le_succ_of_le HX.out.2, HX.out.1, rfl, rfl⟩, by first | (rw [W1]; rfl) | rfl⟩
        case measure => first | exact meas_lt8 HX.out.1 | (rw [W1]; exact meas_lt8 HX.out.1)
      · have htl : ¬ ((t : Nat) : Int) < (p : Int) := fun e => hlt (Int.ofNat_lt.1 e)
        have htp' : t = p := by clear Wp htl; omega
        clear hnt htp hlt
        go_wp2
        clear htl Wp
        go_loopw [17] (fun i w2 => ∃ j : Nat, K ≤ j ∧ j ≤ s ∧ i = .int .i64 j ∧ w2 = wr) (fun i _ => s - (intOf i).toNat)
        case atStart => exact ⟨K, Nat.le_refl _, by have := HN.out; omega, rfl, rfl⟩
        case round =>
          obtain ⟨j, hKj, hjs, rfl, rfl⟩ := hrel
          have Wa := HW.out.1
          by_cases hlj : j < s
          · have ij : ((j : Nat) : Int) < (s : Int) := Int.ofNat_lt.2 hlj
            have Wj := wrap_succ8 (j := j) (by have := HN.out; unfold big; clear Wa; omega)
            have HJ : Hid (j < s ∧ K ≤ j) := ⟨hlj, hKj⟩
            obtain ⟨V, ⟨-, a5, cap5, e5, -, -, h4⟩, hV⟩ := H8.out.1.u
            cases e5
            obtain ⟨bx, ox, rfl, -, hcx⟩ := h4 (Nat.lt_of_le_of_lt (Nat.zero_le _) hlj)
            have q1 := hcx j hlj
            obtain ⟨-, -, y1, y2, ev, -, -, h4r⟩ := hV j hlj
            rw [ev] at q1
            have HR : Hid (0 < l → ∃ b o, y1 = some ⟨b, o, none⟩ ∧ ∀ i, i < l → wr.cell? ⟨b, o + i, none⟩ = some (.int .u8 0)) := fun h0 => by
              obtain ⟨b, o, e, -, hc⟩ := h4r h0
              exact ⟨b, o, e, fun i hi => by rw [hc i hi, spl_parity HN.out.2.2.2.2.2.2.2.2.1 hKj]; rfl⟩
            clear hKj hjs hlj h4 hV hcx ev h4r
            go_wp2
            clear ij Wa
            go_loopw [18] (fun i w3 => ∃ c : Nat, c ≤ l ∧ i = .int .i64 c ∧ w3 = wr) (fun i _ => l - (intOf i).toNat)
            case atStart => exact ⟨0, Nat.zero_le _, rfl, rfl⟩
            case round =>
              obtain ⟨c, hcl, rfl, rfl⟩ := hrel
              by_cases hlc : c < l
              · obtain ⟨b, o, rfl, hcz⟩ := HR.out (Nat.lt_of_le_of_lt (Nat.zero_le _) hlc)
                have q2 := hcz c hlc
                have ic : ((c : Nat) : Int) < (l : Int) := Int.ofNat_lt.2 hlc
                have ij : ((j : Nat) : Int) < (s : Int) := Int.ofNat_lt.2 HJ.out.1
                have Wc := wrap_succ8 (j := c) (by have := HN.out; unfold big; omega)
                have HX : Hid (c < l) := hlc
                clear hcz hlc hcl
                go_wp2
                go_roundw
                case rel => exact ⟨c + 1, HX.out, by first | rfl | (rw [Wc]; rfl), by trivial⟩
                case measure => first | exact meas_lt8 HX.out | (rw [Wc]; exact meas_lt8 HX.out)
              · have hcl' : ¬ ((c : Nat) : Int) < (l : Int) := fun e => hlc (Int.ofNat_lt.1 e)
                clear hcl hlc q1
                go_wp2
                go_roundw
                case rel => first | exact ⟨j + 1, Nat.le_succ_of_le HJ.out.2, HJ.out.1, by first | rfl | (rw [Wj]; rfl), by trivial⟩ | exact ⟨_, ⟨j + 1, Nat.le_succ_of_le HJ.out.2, HJ.out.1, rfl, rfl⟩, by first | rfl | (rw [Wj]; rfl)⟩
                case measure => first | exact meas_lt8 HJ.out.1 | (rw [Wj]; exact meas_lt8 HJ.out.1)
          · have hjl : ¬ ((j : Nat) : Int) < (s : Int) := fun e => hlj (Int.ofNat_lt.1 e)
            have hj9 : j = s := by clear Wa hjl; omega
            have c9 := JE.out wr xu cu H8.out.1.u
            have Wp := HW.out.2.1
            have Wq := HW.out.2.2
            clear hKj hjs hlj hj9
            go_wp2_with (go_at_call 11; ((with_reducible refine (c9).mono ?_); (rintro e X9 ⟨rfl, hb⟩; have H9 : Hid (Below X0.heap.size X0 X9) := bthen16 H8.out.1.bel hb; clear c9 hb)))
            go_ret
            exact ⟨rfl, bthen16 HD.out.2.2.2 H9.out⟩
  · go_ret
    exact ⟨rfl, bthen16 HD.out.2.2.2 H2.out⟩
theorem back16 (f K M : Int) (a : Option Addr) (n cap : Nat) (w : World) (hf : I64 f) (hk : I64 K) (hm : I64 M) (h : Rbm w a n cap) :
    Calls Try.prog 3 #[.agg #[.int .i64 f, .int .i64 K, .int .i64 M], .slice a n cap] w fun e w' => e = .returned (.bool true) ∧ Below w.heap.size w w' := by
  obtain ⟨hn, D, hD⟩ := h
  by_cases h0 : lne f K M n = 0
  · obtain ⟨hp, -, -⟩ := lne_ok h0
    obtain ⟨k, m, rfl, rfl⟩ := prm_nat hp
    by_cases hb : (k + m) * ln16 f k n ≤ 67108864
    · exact back16_yes f k m a n cap D w hk hD hn h0 hb
    · exact back16_big f k m a n cap D w hk hD hn h0 (by omega)
  · exact back16_no f K M a n cap D w hk hD hn h0
end Go.Proofs.Ytldacjpkblffbab
