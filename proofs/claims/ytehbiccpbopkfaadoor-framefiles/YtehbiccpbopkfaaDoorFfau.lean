import Derived.Test.YtehbiccpbopkfaaDoorFfat
namespace Go.Proofs.YtehbiccpbopkfaaDoor
open Go.RowKit Gf2
set_option linter.unusedVariables false

-- layer 25: Read's refusals, the program's and the document's
theorem results_crt4_25 {P : Program} {fn : Func} {p u v x : Tmp} {ty : TypeId} (h : fn.results = #[.cell p ty, .tmp u, .tmp v, .tmp x]) (tmps : Array Value) (w : World) (g : Nat) (t : TypeId) (cs : Array Value) (fr : Nat × Nat) (d : TypeDesc)
    (hp : tmps.getD p undef = .pointer (some ⟨g, 0, none⟩)) (hg : w.heap[g]? = some (.cells cs t fr)) (hu : P.underlying ty = some d) (hd : (match d with | .struct _ | .array _ _ => true | _ => false) = true) (hi : (P.info? ty).map (·.size) = some cs.size) :
    (results fn tmps).run P w = .ok (.tuple #[.agg cs, tmps.getD u undef, tmps.getD v undef, tmps.getD x undef]) w := by
  have hp' : tmps[p]?.getD undef = .pointer (some ⟨g, 0, none⟩) := by simpa using hp
  simp [results, h, hp', asAddr, run_loadVar_row w g t ty cs fr d hg hu hd hi]
theorem one_box25 {w w9 : World} {T : TypeId} {A : Array Value} (hb : Below (w.alloc (.cells A T)).heap.size (w.alloc (.cells A T)) w9) : w9.heap[w.heap.size]? = some (.cells A T (0, 0)) ∧ Below w.heap.size w w9 :=
  ⟨(hb.block _ (by simp)).trans (heap_alloc_new _ _), ((Below.refl w.heap.size w).alloc (Nat.le_refl _) _).trans (hb.mono (by simp))⟩
set_option maxHeartbeats 8000000 in
set_option maxRecDepth 100000 in
theorem read25_no (v : Value) (c : Int) (w : World) (hc : c ≠ 0)
    (cR : ∀ W, Below w.heap.size w W → Calls Tryd.prog 44 #[v] W fun e w' => e = .returned (.tuple #[hd25 0 0 0 0 0 0 0 0, .int .i64 c]) ∧ Below W.heap.size W w') :
    Calls Tryd.prog 35 #[v] w fun e w' => e = .returned (.tuple #[hd25 0 0 0 0 0 0 0 0, .slice none 0 0, .slice none 0 0, .int .i64 c]) ∧ Below w.heap.size w w' := by
  have c1 := cR _ ((Below.refl w.heap.size w).alloc (Nat.le_refl _) (.cells #[.int .i64 0, .int .i64 0, .int .i64 0, .int .i64 0, .int .i64 0, .int .i64 0, .int .i64 0, .int .u64 0] 38))
  have E1 : (c == 0) = false := beq_eq_false_iff_ne.2 hc
  have E2 : (c != 0) = true := bne_iff_ne.2 hc
  unfold hd25 at *
  clear cR hc
  go_enter Tryd.func35, Tryd.ntmps35
  go_wp2_with (go_at_call 44; (with_reducible refine c1.mono ?_); rintro e w9 ⟨rfl, hb9⟩; clear c1; obtain ⟨ka, kc⟩ := one_box25 hb9; obtain ⟨⟨z0, z1, z2, z3, z4, z5, z6, z7⟩, ⟨f0, f1, f2, f3, f4, f5, f6, f7⟩, ⟨e0, e1, e2, e3, e4, e5, e6, e7⟩⟩ := zero_facts25 ka)
  refine bodyPost_ret (results_crt4_25 rfl _ _ w.heap.size _ #[.int .i64 0, .int .i64 0, .int .i64 0, .int .i64 0, .int .i64 0, .int .i64 0, .int .i64 0, .int .u64 0] _ _ rfl ka Tryd.underlying38 rfl info_head25) rfl ?_
  exact ⟨rfl, kc⟩
set_option maxHeartbeats 8000000 in
set_option maxRecDepth 100000 in
theorem rread25_no (v : Value) (c : Int) (w : World) (hc : c ≠ 0)
    (cR : ∀ W, Below w.heap.size w W → Calls Tryd.prog 32 #[v] W fun e w' => e = .returned (.tuple #[hd25 0 0 0 0 0 0 0 0, .int .i64 c]) ∧ Below W.heap.size W w') :
    Calls Tryd.prog 36 #[v] w fun e w' => e = .returned (.tuple #[hd25 0 0 0 0 0 0 0 0, .slice none 0 0, .slice none 0 0, .int .i64 c]) ∧ Below w.heap.size w w' := by
  have b0 : Below w.heap.size w (w.alloc (.cells #[.int .i64 0, .int .i64 0, .int .i64 0, .int .i64 0, .int .i64 0, .int .i64 0, .int .i64 0, .int .u64 0] 26)) := (Below.refl _ _).alloc (Nat.le_refl _) _
  have c1 := cR _ b0
  have HB : Hid (Below w.heap.size w (w.alloc (.cells #[.int .i64 0, .int .i64 0, .int .i64 0, .int .i64 0, .int .i64 0, .int .i64 0, .int .i64 0, .int .u64 0] 26))) := b0
  have E1 : (c == 0) = false := beq_eq_false_iff_ne.2 hc
  have E2 : (c != 0) = true := bne_iff_ne.2 hc
  unfold hd25 at *
  clear cR hc b0
  go_enter Tryd.func36, Tryd.ntmps36
  go_wp2_with (go_at_call 32; (with_reducible refine c1.mono ?_); rintro e w9 ⟨rfl, hb9⟩; clear c1; obtain ⟨ka, kb, kc⟩ := two_box25 (T := 26) HB.out hb9; obtain ⟨Z, hZ⟩ : ∃ Z, w9.alloc (.cells #[.int .i64 0, .int .i64 0, .int .i64 0, .int .i64 0, .int .i64 0, .int .i64 0, .int .i64 0, .int .u64 0] 26) = Z := ⟨_, rfl⟩; rw [hZ] at ka kb kc; obtain ⟨⟨z0, z1, z2, z3, z4, z5, z6, z7⟩, ⟨f0, f1, f2, f3, f4, f5, f6, f7⟩, ⟨e0, e1, e2, e3, e4, e5, e6, e7⟩⟩ := zero_facts25 ka; obtain ⟨⟨y0, y1, y2, y3, y4, y5, y6, y7⟩, ⟨g0, g1, g2, g3, g4, g5, g6, g7⟩, ⟨d0, d1, d2, d3, d4, d5, d6, d7⟩⟩ := zero_facts25 kb)
  refine bodyPost_ret (results_crt4_25 rfl _ _ w.heap.size _ #[.int .i64 0, .int .i64 0, .int .i64 0, .int .i64 0, .int .i64 0, .int .i64 0, .int .i64 0, .int .u64 0] _ _ rfl ka Tryd.underlying26 rfl info_rhead25) rfl ?_
  exact ⟨rfl, kc⟩
end Go.Proofs.YtehbiccpbopkfaaDoor
namespace Go.Proofs.YtehbiccpbopkfaaDoor
open Go.RowKit Gf2
set_option linter.unusedVariables false

-- layer 25: the law's long
set_option maxHeartbeats 4000000 in
set_option maxRecDepth 100000 in
theorem long25_zero (w : World) : Calls Tryd.prog 34 #[hd25 0 0 0 0 0 0 0 0] w fun e w' => e = .returned (.bool false) ∧ Below w.heap.size w w' := by
  unfold hd25
  go_enter Tryd.func34, Tryd.ntmps34
  go_wp2
  go_ret
  exact ⟨rfl, (Below.refl _ _).alloc (Nat.le_refl _) _⟩
set_option maxHeartbeats 4000000 in
set_option maxRecDepth 100000 in
theorem long25_good (f k m i s l b st : Nat) (w : World) (h : Gh25 f k m i s l b) (r : Bool) (hr : decide (1048576 < l) = r) :
    Calls Tryd.prog 34 #[hd25 f k m i s l b st] w fun e w' => e = .returned (.bool r) ∧ Below w.heap.size w w' := by
  have b0 : Below w.heap.size w (w.alloc (.cells (hc25 f k m i s l b st) 26)) := (Below.refl _ _).alloc (Nat.le_refl _) _
  have H0 : Hid (∀ X, Below (w.alloc (.cells (hc25 f k m i s l b st) 26)).heap.size (w.alloc (.cells (hc25 f k m i s l b st) 26)) X → Below w.heap.size w X) := fun X hb => b0.trans (hb.mono (by simp))
  have HB : Hid (Below w.heap.size w (w.alloc (.cells (hc25 f k m i s l b st) 26))) := b0
  have c1 : Hid (∀ W, Calls Tryd.prog 14 #[hd25 f k m i s l b st] W fun e w' => e = .returned (.int .i64 0) ∧ Below W.heap.size W w') := fun W => rcheck25_yes f k m i s l b st W h
  unfold hd25 at c1 ⊢
  unfold hc25 at H0 HB
  by_cases hl : 1048576 < l
  · have D1 : decide ((1048576 : Int) < ((l : Nat) : Int)) = true := decide_eq_true (by omega)
    have er : r = true := by rw [← hr]; exact decide_eq_true hl
    subst er
    clear h b0 hl hr
    go_enter Tryd.func34, Tryd.ntmps34
    go_wp2_with (go_at_call 14; (with_reducible refine (c1.out _).mono ?_); rintro e w9 ⟨rfl, hw9⟩; clear c1)
    go_ret
    exact ⟨rfl, H0.out _ hw9⟩
  · have D1 : decide ((1048576 : Int) < ((l : Nat) : Int)) = false := decide_eq_false (by omega)
    have er : r = false := by rw [← hr]; exact decide_eq_false hl
    subst er
    clear h b0 hl hr c1
    go_enter Tryd.func34, Tryd.ntmps34
    go_wp2
    go_ret
    exact ⟨rfl, HB.out⟩
end Go.Proofs.YtehbiccpbopkfaaDoor
namespace Go.Proofs.YtehbiccpbopkfaaDoor
open Go.RowKit Gf2
set_option linter.unusedVariables false

-- layer 25: what Read answers: mathematics
/-- is block j all there, and its sum right? -/
def okb25 (n : Nat) (F : Nat → Nat) (HS l b j : Nat) : Bool :=
  decide (48 + j * b + 4 * j + gb25 l b j + 4 ≤ n) && decide (le25 (fun c => F (48 + j * b + 4 * j + gb25 l b j + c)) 4 = bsm25 HS j (gb25 l b j) (fun c => F (48 + j * b + 4 * j + c)))
/-- the shard's byte x. -/
def rs25 (n : Nat) (F : Nat → Nat) (HS l b x : Nat) : Nat := if okb25 n F HS l b (x / b) = true then F (48 + x + 4 * (x / b)) else 0
/-- behind j blocks. -/
def sp25 (n : Nat) (F : Nat → Nat) (HS l b j x : Nat) : Nat := if x < j * b then rs25 n F HS l b x else 0
theorem div_in25 {b j x : Nat} (h1 : j * b ≤ x) (h2 : x < j * b + b) : x / b = j := by
  apply Nat.div_eq_of_lt_le
  · exact h1
  · rw [Nat.add_mul, Nat.one_mul]; exact h2
theorem sp_zero25 {n : Nat} {F : Nat → Nat} {HS l b x : Nat} : sp25 n F HS l b 0 x = 0 := by
  unfold sp25
  rw [if_neg (by omega)]
theorem sp_yes25 {n : Nat} {F : Nat → Nat} {HS l b j x : Nat} (hb : 1 ≤ b) (h : j * b < l) (hx : x < l) (ho : okb25 n F HS l b j = true) :
    pl (sp25 n F HS l b j) (j * b) (gb25 l b j) (fun c => F (48 + j * b + 4 * j + c)) x = sp25 n F HS l b (j + 1) x := by
  have hq : (x < j * b + b → x < j * b + gb25 l b j) ∧ gb25 l b j ≤ b := by
    refine ⟨fun h9 => ?_, gb_le25 l b j⟩
    unfold gb25
    rcases Nat.le_total (j * b + b) l with h8 | h8
    · have e : Nat.min (j * b + b) l = j * b + b := Nat.min_eq_left h8
      rw [e]
      omega
    · have e : Nat.min (j * b + b) l = l := Nat.min_eq_right h8
      rw [e]
      omega
  generalize gb25 l b j = q at hq
  unfold pl
  show (if _ then F (48 + j * b + 4 * j + (x - j * b)) else if x < j * b then rs25 n F HS l b x else 0) = if x < (j + 1) * b then rs25 n F HS l b x else 0
  rw [Nat.add_mul, Nat.one_mul]
  by_cases h1 : x < j * b
  · rw [if_neg (by omega), if_pos h1, if_pos (by omega)]
  · by_cases h2 : x < j * b + b
    · have h3 := hq.1 h2
      rw [if_pos (by omega), if_pos h2]
      unfold rs25
      rw [div_in25 (by omega) h2, if_pos ho]
      congr 1
      omega
    · have h3 := hq.2
      rw [if_neg (by omega), if_neg h1, if_neg h2]
theorem sp_no25 {n : Nat} {F : Nat → Nat} {HS l b j x : Nat} (ho : okb25 n F HS l b j = false) : sp25 n F HS l b j x = sp25 n F HS l b (j + 1) x := by
  unfold sp25
  rw [Nat.add_mul, Nat.one_mul]
  by_cases h1 : x < j * b
  · rw [if_pos h1, if_pos (by omega)]
  · rw [if_neg h1]
    by_cases h2 : x < j * b + b
    · rw [if_pos h2]
      unfold rs25
      rw [div_in25 (by omega) h2, if_neg (by rw [ho]; decide)]
    · rw [if_neg h2]
/-- the bad blocks among the first j. -/
def bl25 (n : Nat) (F : Nat → Nat) (HS l b j : Nat) : List Nat := (List.range j).filter (fun t => !okb25 n F HS l b t)
def blv25 (n : Nat) (F : Nat → Nat) (HS l b j i : Nat) : Int := ((bl25 n F HS l b j).getD i 0 : Nat)
theorem bl_yes25 {n : Nat} {F : Nat → Nat} {HS l b j : Nat} (ho : okb25 n F HS l b j = true) : bl25 n F HS l b (j + 1) = bl25 n F HS l b j := by
  unfold bl25
  rw [List.range_succ, List.filter_append]
  simp [ho]
theorem bl_no25 {n : Nat} {F : Nat → Nat} {HS l b j : Nat} (ho : okb25 n F HS l b j = false) : bl25 n F HS l b (j + 1) = bl25 n F HS l b j ++ [j] := by
  unfold bl25
  rw [List.range_succ, List.filter_append]
  simp [ho]
theorem bl_len25 (n : Nat) (F : Nat → Nat) (HS l b j : Nat) : (bl25 n F HS l b j).length ≤ j := by
  have h := List.length_filter_le (fun t => !okb25 n F HS l b t) (List.range j)
  rw [List.length_range] at h
  exact h
theorem blv_no25 {n : Nat} {F : Nat → Nat} {HS l b j i : Nat} (ho : okb25 n F HS l b j = false) : (if i < (bl25 n F HS l b j).length then blv25 n F HS l b j i else if i = (bl25 n F HS l b j).length then ((j : Nat) : Int) else 0) = if i ≤ (bl25 n F HS l b j).length then blv25 n F HS l b (j + 1) i else 0 := by
  unfold blv25
  rw [bl_no25 ho]
  by_cases h : i < (bl25 n F HS l b j).length
  · rw [if_pos h, if_pos (by omega), List.getD_eq_getElem?_getD, List.getD_eq_getElem?_getD, List.getElem?_append_left h]
  · rw [if_neg h]
    by_cases h2 : i = (bl25 n F HS l b j).length
    · rw [if_pos h2, if_pos (by omega), h2, List.getD_eq_getElem?_getD, List.getElem?_append_right (Nat.le_refl _), Nat.sub_self]
      rfl
    · rw [if_neg h2, if_neg (by omega)]
end Go.Proofs.YtehbiccpbopkfaaDoor
namespace Go.Proofs.YtehbiccpbopkfaaDoor
open Go.RowKit Gf2
set_option linter.unusedVariables false

-- layer 25: the document's Read of a file that is too long
set_option maxHeartbeats 8000000 in
set_option maxRecDepth 100000 in
theorem rread25_long (a : Option Addr) (n cap : Nat) (f k m i s l b st : Nat) (w : World) (hg : Gh25 f k m i s l b) (hn : 48 + l + 4 * nb25 l b < n)
    (cR : ∀ W, Below w.heap.size w W → Calls Tryd.prog 32 #[.slice a n cap] W fun e w' => e = .returned (.tuple #[hd25 f k m i s l b st, .int .i64 0]) ∧ Below W.heap.size W w') :
    Calls Tryd.prog 36 #[.slice a n cap] w fun e w' => e = .returned (.tuple #[hd25 0 0 0 0 0 0 0 0, .slice none 0 0, .slice none 0 0, .int .i64 252]) ∧ Below w.heap.size w w' := by
  have b0 : Below w.heap.size w (w.alloc (.cells #[.int .i64 0, .int .i64 0, .int .i64 0, .int .i64 0, .int .i64 0, .int .i64 0, .int .i64 0, .int .u64 0] 26)) := (Below.refl _ _).alloc (Nat.le_refl _) _
  have c1 := cR _ b0
  have HB : Hid (Below w.heap.size w (w.alloc (.cells #[.int .i64 0, .int .i64 0, .int .i64 0, .int .i64 0, .int .i64 0, .int .i64 0, .int .i64 0, .int .u64 0] 26))) := b0
  have hb1 : 1 ≤ b := by have := hg.blk.1; omega
  have hb2 : b ≤ 1048576 := by have := hg.blk.2.1; omega
  have hl2 := hg.l2
  have hcn := hg.cnt
  have c2 : Hid (∀ W, Calls Tryd.prog 28 #[.int .i64 (l : Int), .int .i64 (b : Int)] W fun e w' => e = .returned (.int .i64 ((nb25 l b : Nat) : Int)) ∧ w' = W) := fun W => spans25 l b W (by omega) hb1 hb2
  generalize nb25 l b = nb at c2 hcn hn
  have W1 : wrap64 (48 + ((l : Nat) : Int)) = 48 + ((l : Nat) : Int) := by clear hn; unfold wrap64; omega
  have W2 : wrap64 (4 * ((nb : Nat) : Int)) = 4 * ((nb : Nat) : Int) := by clear hn W1; unfold wrap64; omega
  have W3 : wrap64 (48 + ((l : Nat) : Int) + 4 * ((nb : Nat) : Int)) = 48 + ((l : Nat) : Int) + 4 * ((nb : Nat) : Int) := by clear hn W1 W2; unfold wrap64; omega
  have D1 : decide (48 + ((l : Nat) : Int) + 4 * ((nb : Nat) : Int) < ((n : Nat) : Int)) = true := decide_eq_true (by omega)
  unfold hd25 at *
  clear cR hg hn b0 hb1 hb2 hl2 hcn
  go_enter Tryd.func36, Tryd.ntmps36
  go_wp2_with (go_at_call 32; (with_reducible refine c1.mono ?_); rintro e w9 ⟨rfl, hb9⟩; clear c1; obtain ⟨ka, kb, kc⟩ := two_boxh25 (T := 26) (A := #[.int .i64 (f : Int), .int .i64 (k : Int), .int .i64 (m : Int), .int .i64 (i : Int), .int .i64 (s : Int), .int .i64 (l : Int), .int .i64 (b : Int), .int .u64 (st : Int)]) HB.out hb9 (Below.refl _ _); obtain ⟨X1, hX1⟩ : ∃ X1, w9.alloc (.cells #[.int .i64 (f : Int), .int .i64 (k : Int), .int .i64 (m : Int), .int .i64 (i : Int), .int .i64 (s : Int), .int .i64 (l : Int), .int .i64 (b : Int), .int .u64 (st : Int)] 26) = X1 := ⟨_, rfl⟩; rw [hX1] at ka kb kc; obtain ⟨q0, q1, q2, q3, q4, q5, q6, q7⟩ := hcellsT25 kb)
  go_quiet (first | (go_at_call 28; with_reducible exact Calls.quiet_of_same (c2.out _)))
  have ka2 : (X1.drewN nq).heap[w.heap.size]? = some (.cells #[.int .i64 0, .int .i64 0, .int .i64 0, .int .i64 0, .int .i64 0, .int .i64 0, .int .i64 0, .int .u64 0] 26 (0, 0)) := ka
  have kc2 := below_drewN kc nq
  obtain ⟨X2, hX2⟩ : ∃ X2, X1.drewN nq = X2 := ⟨_, rfl⟩
  rw [hX2] at ka2 kc2 ⊢
  obtain ⟨⟨z0, z1, z2, z3, z4, z5, z6, z7⟩, ⟨f0, f1, f2, f3, f4, f5, f6, f7⟩, ⟨e0, e1, e2, e3, e4, e5, e6, e7⟩⟩ := zero_facts25 ka2
  clear q0 q1 q2 q3 q4 q5 q6 q7 ka kb kc hX1 hX2
  go_wp2
  refine bodyPost_ret (results_crt4_25 rfl _ _ w.heap.size _ #[.int .i64 0, .int .i64 0, .int .i64 0, .int .i64 0, .int .i64 0, .int .i64 0, .int .i64 0, .int .u64 0] _ _ rfl ka2 Tryd.underlying26 rfl info_rhead25) rfl ?_
  exact ⟨rfl, kc2⟩
end Go.Proofs.YtehbiccpbopkfaaDoor
namespace Go.Proofs.YtehbiccpbopkfaaDoor
open Go.RowKit Gf2
set_option linter.unusedVariables false

-- layer 25: Read of a file whose head is read
/-- Read on its way: the head in its box, the shard in block g, the bad blocks. -/
structure Rd25 (w X : World) (bx g l : Nat) (G : Nat → Nat) (vb : Value) (L : Nat) (S : Nat → Int) (f k m i s ll b : Int) (st : Nat) : Prop where
  bel : Below bx w X
  blk : X.heap[bx]? = some (.cells (hc25 f k m i s ll b st) 38 (0, 0))
  lt : bx < g
  rw : Rw X g l G
  gj : Gj (g + 1) X vb L S
  bw : bx = w.heap.size
section
variable {w X X' : World} {bx g l : Nat} {G G' : Nat → Nat} {vb vb' : Value} {L L' : Nat} {S S' : Nat → Int} {f k m i s ll b : Int} {st : Nat}
theorem Rd25.szl (h : Rd25 w X bx g l G vb L S f k m i s ll b st) : bx < X.heap.size := (Array.getElem?_eq_some_iff.1 h.blk).1
theorem Rd25.below (h : Rd25 w X bx g l G vb L S f k m i s ll b st) (hb : Below X.heap.size X X') : Rd25 w X' bx g l G vb L S f k m i s ll b st :=
  ⟨h.bel.trans (hb.mono (Nat.le_of_lt h.szl)), (hb.block _ h.szl).trans h.blk, h.lt, h.rw.of_block (hb.block _ h.rw.lt), h.gj.below hb, h.bw⟩
theorem Rd25.only (h : Rd25 w X bx g l G vb L S f k m i s ll b st) (ho : Only g X X') (hr : Rw X' g l G') : Rd25 w X' bx g l G' vb L S f k m i s ll b st :=
  ⟨h.bel.trans (ho.below (Nat.le_of_lt h.lt)), (ho.2.2 _ (Nat.ne_of_lt h.lt)).trans h.blk, h.lt, hr, h.gj.keep ho.kp.ke (fun x hx e => by have : x = g := e; omega), h.bw⟩
theorem Rd25.app (h : Rd25 w X bx g l G vb L S f k m i s ll b st) (hb : Below (g + 1) X X') (hj : Gj (g + 1) X' vb' L' S') : Rd25 w X' bx g l G vb' L' S' f k m i s ll b st :=
  ⟨h.bel.trans (hb.mono (by have := h.lt; omega)), (hb.block _ (by have := h.lt; omega)).trans h.blk, h.lt, h.rw.of_block (hb.block _ (by omega)), hj, h.bw⟩
theorem Rd25.congr (h : Rd25 w X bx g l G vb L S f k m i s ll b st) (e : ∀ c, c < l → G c = G' c) (e2 : ∀ c, c < L → S c = S' c) : Rd25 w X bx g l G' vb L S' f k m i s ll b st :=
  ⟨h.bel, h.blk, h.lt, h.rw.congr e, h.gj.congr e2, h.bw⟩
end
theorem start25 {w w9 X1 : World} {l : Nat} {f k m i s ll b : Int} {st : Nat} (hl : l ≤ 67108864) (kc : Below w.heap.size w w9) (k1 : X1.heap[w.heap.size]? = some (.cells (hc25 f k m i s ll b st) 38 (0, 0))) (k2 : Only w.heap.size w9 X1) (S : Nat → Int) :
    Rd25 w (X1.alloc (.cells (madeCells #[.int .u8 0] l) 5)) w.heap.size X1.heap.size l (fun _ => 0) (.slice none 0 0) 0 S f k m i s ll b st := by
  have hlt := (Array.getElem?_eq_some_iff.1 k1).1
  have b1 : Below X1.heap.size X1 (X1.alloc (.cells (madeCells #[.int .u8 0] l) 5)) := (Below.refl _ _).alloc (Nat.le_refl _) _
  exact ⟨(kc.trans (k2.below (Nat.le_refl _))).trans (b1.mono (Nat.le_of_lt hlt)), (b1.block _ hlt).trans k1, hlt, made_rw l (by omega) X1, Gj.start _ _ _, rfl⟩
theorem same_facts25 {X : World} {g : Nat} {f k m i s l b : Int} {st : Nat} (h : X.heap[g]? = some (.cells (hc25 f k m i s l b st) 38 (0, 0))) :
    (X.cell? ⟨g, 0, none⟩ = some (.int .i64 f) ∧ X.cell? ⟨g, 1, none⟩ = some (.int .i64 k) ∧ X.cell? ⟨g, 2, none⟩ = some (.int .i64 m) ∧ X.cell? ⟨g, 3, none⟩ = some (.int .i64 i) ∧ X.cell? ⟨g, 4, none⟩ = some (.int .i64 s) ∧ X.cell? ⟨g, 5, none⟩ = some (.int .i64 l) ∧ X.cell? ⟨g, 6, none⟩ = some (.int .i64 b) ∧ X.cell? ⟨g, 7, none⟩ = some (.int .u64 (st : Int))) ∧
    (X.frozen? ⟨g, 0, none⟩ = false ∧ X.frozen? ⟨g, 1, none⟩ = false ∧ X.frozen? ⟨g, 2, none⟩ = false ∧ X.frozen? ⟨g, 3, none⟩ = false ∧ X.frozen? ⟨g, 4, none⟩ = false ∧ X.frozen? ⟨g, 5, none⟩ = false ∧ X.frozen? ⟨g, 6, none⟩ = false ∧ X.frozen? ⟨g, 7, none⟩ = false) ∧
    (X.setCell ⟨g, 0, none⟩ (.int .i64 f) = X ∧ X.setCell ⟨g, 1, none⟩ (.int .i64 k) = X ∧ X.setCell ⟨g, 2, none⟩ (.int .i64 m) = X ∧ X.setCell ⟨g, 3, none⟩ (.int .i64 i) = X ∧ X.setCell ⟨g, 4, none⟩ (.int .i64 s) = X ∧ X.setCell ⟨g, 5, none⟩ (.int .i64 l) = X ∧ X.setCell ⟨g, 6, none⟩ (.int .i64 b) = X ∧ X.setCell ⟨g, 7, none⟩ (.int .u64 (st : Int)) = X) :=
  ⟨hcells25 h,
   ⟨frozen_of_row _ _ _ _ _ h, frozen_of_row _ _ _ _ _ h, frozen_of_row _ _ _ _ _ h, frozen_of_row _ _ _ _ _ h, frozen_of_row _ _ _ _ _ h, frozen_of_row _ _ _ _ _ h, frozen_of_row _ _ _ _ _ h, frozen_of_row _ _ _ _ _ h⟩,
   ⟨setCell_id25 h rfl, setCell_id25 h rfl, setCell_id25 h rfl, setCell_id25 h rfl, setCell_id25 h rfl, setCell_id25 h rfl, setCell_id25 h rfl, setCell_id25 h rfl⟩⟩
set_option maxHeartbeats 8000000 in
set_option maxRecDepth 100000 in
theorem read25_yes (fb o n cap : Nat) (F : Nat → Nat) (f k m i s l b st : Nat) (w : World) (h : Rb w (.slice (some ⟨fb, o, none⟩) n cap) n F) (hn : 48 ≤ n) (hg : Gh25 f k m i s l b) (hT : Fsh w)
    (cR : ∀ W, Below w.heap.size w W → Calls Tryd.prog 44 #[.slice (some ⟨fb, o, none⟩) n cap] W fun e w' => e = .returned (.tuple #[hd25 f k m i s l b st, .int .i64 0]) ∧ Below W.heap.size W w') :
    Calls Tryd.prog 35 #[.slice (some ⟨fb, o, none⟩) n cap] w fun e w' => ∃ g vb, e = .returned (.tuple #[hd25 f k m i s l b st, .slice (some ⟨g, 0, none⟩) l l, vb, .int .i64 0]) ∧ Below w.heap.size w w' ∧ w.heap.size ≤ g ∧
      Rw w' g l (rs25 n F (hs25 F) l b) ∧ Gj (g + 1) w' vb (bl25 n F (hs25 F) l b (nb25 l b)).length (blv25 n F (hs25 F) l b (nb25 l b)) := by
  have hb1 : 1 ≤ b := by have := hg.blk.1; omega
  have hb2 : b ≤ 1048576 := by have := hg.blk.2.1; omega
  have hl2 := hg.l2
  have hcn := hg.cnt
  have c1 := cR _ ((Below.refl w.heap.size w).alloc (Nat.le_refl _) (.cells #[.int .i64 0, .int .i64 0, .int .i64 0, .int .i64 0, .int .i64 0, .int .i64 0, .int .i64 0, .int .u64 0] 38))
  have c3 : Hid (∀ W, Calls Tryd.prog 20 #[hd25 f k m i s l b st] W fun e w' => e = .returned (.int .i64 ((nb25 l b : Nat) : Int)) ∧ Below W.heap.size W w') := fun W => blocksOf25 f k m i s l b st W (by omega) hb1 hb2
  have hmk : ∀ w, (Instr.makeSlice 27 (.int .i64 (l : Int)) (.int .i64 (l : Int))).run Tryd.prog w = .ok (.slice (some ⟨w.heap.size, 0, none⟩) l l) (w.alloc (.cells (madeCells #[.int .u8 0] l) 5)) := fun w => make_u8 l (by omega) w
  obtain ⟨nb, hnb9⟩ : ∃ nb, Hid (nb25 l b = nb) := ⟨_, rfl⟩
  rw [hnb9.out] at c3 hcn ⊢
  have HH : Hid (1 ≤ b ∧ b ≤ 1048576 ∧ l ≤ 67108864 ∧ nb ≤ 65536 ∧ 48 ≤ n ∧ Fsh w ∧ Rb w (.slice (some ⟨fb, o, none⟩) n cap) n F) := ⟨hb1, hb2, hl2, hcn, hn, hT, h⟩
  obtain ⟨HS, hHS⟩ : ∃ HS, Hid (hs25 F = HS) := ⟨_, rfl⟩
  rw [hHS.out]
  unfold hd25 at c1 c3 ⊢
  clear cR h hn hg hT hb1 hb2 hl2 hcn
  go_enter Tryd.func35, Tryd.ntmps35
  go_wp2_with (first
    | (go_at_call 44; (with_reducible refine c1.mono ?_); rintro e w9 ⟨rfl, hb9⟩; clear c1; obtain ⟨ka, kc⟩ := one_box25 hb9; obtain ⟨⟨z0, z1, z2, z3, z4, z5, z6, z7⟩, ⟨f0, f1, f2, f3, f4, f5, f6, f7⟩, -⟩ := zero_facts25 ka; have kst := store8_25 ka (.int .i64 (f : Int)) (.int .i64 (k : Int)) (.int .i64 (m : Int)) (.int .i64 (i : Int)) (.int .i64 (s : Int)) (.int .i64 (l : Int)) (.int .i64 (b : Int)) (.int .u64 (st : Int)); obtain ⟨X1, hX1⟩ : ∃ X1, ((((((((w9.setCell ⟨w.heap.size, 0, none⟩ (.int .i64 (f : Int))).setCell ⟨w.heap.size, 1, none⟩ (.int .i64 (k : Int))).setCell ⟨w.heap.size, 2, none⟩ (.int .i64 (m : Int))).setCell ⟨w.heap.size, 3, none⟩ (.int .i64 (i : Int))).setCell ⟨w.heap.size, 4, none⟩ (.int .i64 (s : Int))).setCell ⟨w.heap.size, 5, none⟩ (.int .i64 (l : Int))).setCell ⟨w.heap.size, 6, none⟩ (.int .i64 (b : Int))).setCell ⟨w.heap.size, 7, none⟩ (.int .u64 (st : Int))) = X1 := ⟨_, rfl⟩; rw [hX1] at kst; obtain ⟨ks1, ks2⟩ := kst; obtain ⟨q0, q1, q2, q3, q4, q5, q6, q7⟩ := hcells25 ks1; have P1 := start25 (l := l) HH.out.2.2.1 kc ks1 ks2 (blv25 n F HS l b 0); obtain ⟨X2, hX2⟩ : ∃ X2, X1.alloc (.cells (madeCells #[.int .u8 0] l) 5) = X2 := ⟨_, rfl⟩; rw [hX2] at P1; obtain ⟨g, hgs⟩ : ∃ g, Hid (X1.heap.size = g) := ⟨_, rfl⟩; have P2 := P1; obtain ⟨u0, u1, u2, u3, u4, u5, u6, u7⟩ := hcells25 P1.blk)
    | (go_at_call 20; (with_reducible refine (c3.out _).mono ?_); rintro e w11 ⟨rfl, hb11⟩; clear c3; have P3 := P2.below hb11; clear P1 P2 q0 q1 q2 q3 q4 q5 q6 q7 u0 u1 u2 u3 u4 u5 u6 u7 z0 z1 z2 z3 z4 z5 z6 z7 f0 f1 f2 f3 f4 f5 f6 f7 hb11)
)
  have HX9 : Hid (Rd25 w w11 w.heap.size X1.heap.size l (fun _ => 0) (.slice none 0 0) 0 (blv25 n F HS l b 0) f k m i s l b st) := P3
  clear P3 ka kc ks1 ks2 hX1 hX2 hmk
  go_loopw [4, 27] (fun sb sj wr => ∃ (j : Nat) (vb : Value), j ≤ nb ∧ sj = .int .i64 ((j : Nat) : Int) ∧ sb = vb ∧ Rd25 w wr w.heap.size X1.heap.size l (sp25 n F HS l b j) vb (bl25 n F HS l b j).length (blv25 n F HS l b j) f k m i s l b st) (fun _ sj _ => nb - (intOf sj).toNat)
  case atStart => exact ⟨0, _, Nat.zero_le _, rfl, rfl, HX9.out.congr (fun c _ => sp_zero25.symm) (fun c hc => absurd hc (Nat.not_lt_zero _))⟩
  case round =>
    clear HX9
    obtain ⟨j, vb, hj, rfl, hvb, P⟩ := hrel
    have hvb2 := hvb.symm
    clear hvb
    subst hvb2
    by_cases hjn : j < nb
    · have ib : ((j : Nat) : Int) < (nb : Int) := Int.ofNat_lt.2 hjn
      have hjl : j * b < l := (nb_lt25 HH.out.1).1 (by rw [hnb9.out]; exact hjn)
      have hj2 : j ≤ 1048576 := by have := HH.out; omega
      have hyx := gb_pos25 HH.out.1 hjl
      have hL8 : ((bl25 n F HS l b j).length + 1) * 8 ≤ 140737488355328 := by have := bl_len25 n F HS l b j; omega
      have HB : Hid (∀ W, Calls Tryd.prog 21 #[hd25 f k m i s l b st, .int .i64 (j : Int)] W fun e w' => e = .returned (.tuple #[.int .i64 ((j * b : Nat) : Int), .int .i64 ((Nat.min (j * b + b) l : Nat) : Int)]) ∧ Below W.heap.size W w') := fun W => bounds25 f k m i s l b st j W (by have := HH.out; omega) HH.out.2.1 hj2
      have HW : Hid (wrap64 (((j : Nat) : Int) + 1) = ((j : Nat) : Int) + 1 ∧ j < nb) := ⟨wrap_succ8 (j := j) (by unfold big; omega), hjn⟩
      have HP : Hid (Rd25 w wr w.heap.size X1.heap.size l (sp25 n F HS l b j) vb (bl25 n F HS l b j).length (blv25 n F HS l b j) f k m i s l b st) := P
      obtain ⟨q0, q1, q2, q3, q4, q5, q6, q7⟩ := hcells25 P.blk
      unfold hd25 at HB
      by_cases hwh : 48 + j * b + 4 * j + gb25 l b j + 4 ≤ n
      · skip
        have hcap : n ≤ cap := by
          obtain ⟨-, -, a9, c9, e9, h9, -, -⟩ := HH.out.2.2.2.2.2.2
          cases e9
          exact h9
        have HE : Hid (∀ W, Calls Tryd.prog 22 #[.slice (some ⟨fb, o, none⟩) n cap, hd25 f k m i s l b st, .int .i64 (j : Int)] W fun e w' => e = .returned (.tuple #[.slice (some ⟨fb, o + (48 + j * b + 4 * j), none⟩) (gb25 l b j) (cap - (48 + j * b + 4 * j)), .slice (some ⟨fb, o + (48 + j * b + 4 * j + gb25 l b j), none⟩) 4 (cap - (48 + j * b + 4 * j + gb25 l b j)), .bool true]) ∧ Below W.heap.size W w') := fun W => by
          have c := held25_yes fb o n cap f k m i s l b st j _ W (by have := HH.out; omega) HH.out.2.1 hj2 rfl hyx (by unfold gb25 at hwh; omega) hcap
          have e : 48 + 4 * j + Nat.min (j * b + b) l = 48 + j * b + 4 * j + gb25 l b j := by unfold gb25; omega
          rw [e] at c
          exact c
        unfold hd25 at HE
        have HN : Hid (∀ W, Below w.heap.size w W → Calls Tryd.prog 43 #[.slice (some ⟨fb, o + (48 + j * b + 4 * j + gb25 l b j), none⟩) 4 (cap - (48 + j * b + 4 * j + gb25 l b j))] W fun e w' => e = .returned (.int .u64 ((le25 (fun c => F (48 + j * b + 4 * j + gb25 l b j + c)) 4 : Nat) : Int)) ∧ w' = W) := fun W hW => number25 _ 4 _ W (rb_piece25 (HH.out.2.2.2.2.2.2.below hW) hwh hcap) (by decide)
        have HS2 : Hid (∀ W, Below w.heap.size w W → Calls Tryd.prog 24 #[.slice (some ⟨fb, o, none⟩) n cap, .int .i64 (j : Int), .slice (some ⟨fb, o + (48 + j * b + 4 * j), none⟩) (gb25 l b j) (cap - (48 + j * b + 4 * j))] W fun e w' => e = .returned (.int .u32 ((bsm25 HS j (gb25 l b j) (fun c => F (48 + j * b + 4 * j + c)) : Nat) : Int)) ∧ Below W.heap.size W w') := fun W hW => by
          have c := blockSum25 _ _ n (gb25 l b j) j _ _ W (HH.out.2.2.2.2.2.2.below hW) (rb_piece25 (HH.out.2.2.2.2.2.2.below hW) (x := 48 + j * b + 4 * j) (d := gb25 l b j) (by omega) hcap) (HH.out.2.2.2.2.2.1.below hW) HH.out.2.2.2.2.1 hj2
          rw [hHS.out] at c
          exact c
        have hF : ∀ c, c < n → F c < 256 := HH.out.2.2.2.2.2.2.2.1
        have lHS : HS < 4294967296 := by rw [← hHS.out]; exact hs_lt25 (fun c hc => hF _ (by have := HH.out; omega))
        have lB : bsm25 HS j (gb25 l b j) (fun c => F (48 + j * b + 4 * j + c)) < 4294967296 := bsm_lt25 lHS (fun c hc => hF _ (by omega))
        have U1 : IntKind.u64.wrap ((bsm25 HS j (gb25 l b j) (fun c => F (48 + j * b + 4 * j + c)) : Nat) : Int) = ((bsm25 HS j (gb25 l b j) (fun c => F (48 + j * b + 4 * j + c)) : Nat) : Int) := by rw [IntKind.wrap_u64]; omega
        by_cases heq : le25 (fun c => F (48 + j * b + 4 * j + gb25 l b j + c)) 4 = bsm25 HS j (gb25 l b j) (fun c => F (48 + j * b + 4 * j + c))
        · have ho : okb25 n F HS l b j = true := by
            unfold okb25
            rw [decide_eq_true hwh, decide_eq_true heq]
            rfl
          have HC1 : Hid (∀ W, (Instr.slice 27 (.slice (some ⟨X1.heap.size, 0, none⟩) l l) (some (.int .i64 ((j * b : Nat) : Int))) (some (.int .i64 ((Nat.min (j * b + b) l : Nat) : Int))) none).run Tryd.prog W = .ok (.slice (some ⟨X1.heap.size, j * b, none⟩) (gb25 l b j) (l - j * b)) W) := fun W => by
            have c := cut25 X1.heap.size 0 l l (j * b) _ hyx (Nat.min_le_right _ _) W
            rw [Nat.zero_add] at c
            exact c
          have HC : Hid (∀ X, Rd25 w X w.heap.size X1.heap.size l (sp25 n F HS l b j) vb (bl25 n F HS l b j).length (blv25 n F HS l b j) f k m i s l b st → ∃ w12, (Builtin.copy_ #[27, 27] 3 #[.slice (some ⟨X1.heap.size, j * b, none⟩) (gb25 l b j) (l - j * b), .slice (some ⟨fb, o + (48 + j * b + 4 * j), none⟩) (gb25 l b j) (cap - (48 + j * b + 4 * j))]).run Tryd.prog X = .ok (goInt (gb25 l b j)) w12 ∧ Rd25 w w12 w.heap.size X1.heap.size l (sp25 n F HS l b (j + 1)) vb (bl25 n F HS l b (j + 1)).length (blv25 n F HS l b (j + 1)) f k m i s l b st) := fun X hX => by
            have hyl : Nat.min (j * b + b) l ≤ l := Nat.min_le_right _ _
            obtain ⟨w8, h1, h2, h3⟩ := copy8_min X (g := X1.heap.size) (o := j * b) (N := l) (dl := gb25 l b j) (cap := l - j * b) hX.rw (a := some ⟨fb, o + (48 + j * b + 4 * j), none⟩) (m := gb25 l b j) (n := gb25 l b j) (cap' := cap - (48 + j * b + 4 * j)) (S := fun c => F (48 + j * b + 4 * j + c)) (fun c hc => hF _ (by omega)) (fun _ => ⟨fb, o + (48 + j * b + 4 * j), rfl, fun c hc => by
              obtain ⟨-, -, a9, c9, e9, -, -, h9⟩ := HH.out.2.2.2.2.2.2.below hX.bel
              cases e9
              obtain ⟨b8, o8, e8, -, h8⟩ := h9 (by omega)
              cases e8
              rw [Nat.add_assoc]
              exact h8 _ (by omega)⟩) (by unfold gb25; omega) (Nat.le_refl _) (Nat.le_refl _) (Nat.min_self _)
            refine ⟨w8, h1, ?_⟩
            have hY := (hX.only h3 h2).congr (fun c hc => sp_yes25 HH.out.1 hjl hc ho) (fun c _ => (rfl : blv25 n F HS l b j c = blv25 n F HS l b j c))
            have e1 : blv25 n F HS l b (j + 1) = blv25 n F HS l b j := by funext c; unfold blv25; rw [bl_yes25 ho]
            rw [e1, bl_yes25 ho]
            exact hY
          generalize bsm25 HS j (gb25 l b j) (fun c => F (48 + j * b + 4 * j + c)) = bs9 at HS2 U1 heq
          generalize le25 (fun c => F (48 + j * b + 4 * j + gb25 l b j + c)) 4 = rd9 at HN heq
          generalize 48 + j * b + 4 * j + gb25 l b j = z at HE HN
          generalize 48 + j * b + 4 * j = t at HE HS2 HC
          generalize Nat.min (j * b + b) l = y at HB HC1
          generalize gb25 l b j = q at HE HS2 HC HC1
          generalize j * b = x at HB HC HC1
          clear P hj hjn hjl hj2 hyx lHS lB hF hwh hcap
          have E1 : (((rd9 : Nat) : Int) == ((bs9 : Nat) : Int)) = true := by rw [heq]; simp
          have C1 := HC1.out
          clear heq HC1
          go_wp2_with (first
            | (go_at_call 21; (with_reducible refine (HB.out _).mono ?_); rintro e w6 ⟨rfl, hb⟩; clear HB q0 q1 q2 q3 q4 q5 q6 q7; have P6 := HP.out.below hb; clear hb HP; obtain ⟨q0, q1, q2, q3, q4, q5, q6, q7⟩ := hcells25 P6.blk)
            | (go_at_call 22; (with_reducible refine (HE.out _).mono ?_); rintro e w7 ⟨rfl, hb⟩; clear HE q0 q1 q2 q3 q4 q5 q6 q7; have P7 := P6.below hb; clear hb P6)
            | (go_at_call 43; (with_reducible refine (HN.out _ P7.bel).mono ?_); rintro e w8 ⟨rfl, hw⟩; subst hw; clear HN)
            | (go_at_call 24; (with_reducible refine (HS2.out _ P7.bel).mono ?_); rintro e w9 ⟨rfl, hb⟩; clear HS2; have P8 := P7.below hb; clear hb P7; obtain ⟨w12, hcp, P10⟩ := HC.out _ P8; clear P8))
          have W3 := HW.out.1
          go_wp2
          go_roundw
          case rel => exact ⟨j + 1, vb, HW.out.2, by first | rfl | (rw [W3]; rfl), rfl, P10⟩
          case measure => first | exact meas_lt8 HW.out.2 | (rw [W3]; exact meas_lt8 HW.out.2)
        · have ho : okb25 n F HS l b j = false := by
            unfold okb25
            rw [decide_eq_true hwh, decide_eq_false heq]
            rfl
          have HV9 : Hid (∀ c, c < (bl25 n F HS l b j).length + 1 → (fun i => if i < (bl25 n F HS l b j).length then blv25 n F HS l b j i else ((j : Nat) : Int)) c = blv25 n F HS l b (j + 1) c) := fun c hc => by
            have h9 := blv_no25 (i := c) ho
            rw [if_pos (by omega : c ≤ (bl25 n F HS l b j).length)] at h9
            rw [← h9]
            show (if _ then _ else _) = _
            by_cases h8 : c < (bl25 n F HS l b j).length
            · rw [if_pos h8, if_pos h8]
            · rw [if_neg h8, if_neg h8, if_pos (by omega)]
          have hbn : (bl25 n F HS l b (j + 1)).length = (bl25 n F HS l b j).length + 1 := by rw [bl_no25 ho]; simp
          generalize bsm25 HS j (gb25 l b j) (fun c => F (48 + j * b + 4 * j + c)) = bs9 at HS2 U1 heq
          generalize le25 (fun c => F (48 + j * b + 4 * j + gb25 l b j + c)) 4 = rd9 at HN heq
          generalize 48 + j * b + 4 * j + gb25 l b j = z at HE HN
          generalize 48 + j * b + 4 * j = t at HE HS2
          generalize Nat.min (j * b + b) l = y at HB
          generalize gb25 l b j = q at HE HS2
          generalize j * b = x at HB
          clear P hj hjn hjl hj2 hyx lHS lB hF hwh hcap
          have E1 : (((rd9 : Nat) : Int) == ((bs9 : Nat) : Int)) = false := beq_eq_false_iff_ne.2 (fun h9 => heq (by omega))
          clear heq
          go_wp2_with (first
            | (go_at_call 21; (with_reducible refine (HB.out _).mono ?_); rintro e w6 ⟨rfl, hb⟩; clear HB q0 q1 q2 q3 q4 q5 q6 q7; have P6 := HP.out.below hb; clear hb HP; obtain ⟨q0, q1, q2, q3, q4, q5, q6, q7⟩ := hcells25 P6.blk)
            | (go_at_call 22; (with_reducible refine (HE.out _).mono ?_); rintro e w7 ⟨rfl, hb⟩; clear HE q0 q1 q2 q3 q4 q5 q6 q7; have P7 := P6.below hb; clear hb P6)
            | (go_at_call 43; (with_reducible refine (HN.out _ P7.bel).mono ?_); rintro e w8 ⟨rfl, hw⟩; subst hw; clear HN)
            | (go_at_call 24; (with_reducible refine (HS2.out _ P7.bel).mono ?_); rintro e w9 ⟨rfl, hb⟩; clear HS2; have P8 := P7.below hb; clear hb P7; obtain ⟨w12, vb2, hrun, g9, b9⟩ := app_gj P8.gj (by have := P8.rw.lt; omega) ((j : Nat) : Int) hL8; have P10 := P8.app b9 g9)
            | (at_builtin; refine Lib.wpList_append_run _ rfl _ _ _ _ rfl _ _ rfl rfl _ _ hrun ?_; clear hrun))
          have W3 := HW.out.1
          go_wp2
          go_roundw
          case rel => exact ⟨j + 1, vb2, HW.out.2, by first | rfl | (rw [W3]; rfl), rfl, by rw [hbn]; exact P10.congr (fun c _ => sp_no25 ho) (fun c hc => HV9.out c hc)⟩
          case measure => first | exact meas_lt8 HW.out.2 | (rw [W3]; exact meas_lt8 HW.out.2)
      · skip
        have ho : okb25 n F HS l b j = false := by
          unfold okb25
          rw [decide_eq_false hwh]
          rfl
        have HV9 : Hid (∀ c, c < (bl25 n F HS l b j).length + 1 → (fun i => if i < (bl25 n F HS l b j).length then blv25 n F HS l b j i else ((j : Nat) : Int)) c = blv25 n F HS l b (j + 1) c) := fun c hc => by
          have h9 := blv_no25 (i := c) ho
          rw [if_pos (by omega : c ≤ (bl25 n F HS l b j).length)] at h9
          rw [← h9]
          show (if _ then _ else _) = _
          by_cases h8 : c < (bl25 n F HS l b j).length
          · rw [if_pos h8, if_pos h8]
          · rw [if_neg h8, if_neg h8, if_pos (by omega)]
        have hbn : (bl25 n F HS l b (j + 1)).length = (bl25 n F HS l b j).length + 1 := by rw [bl_no25 ho]; simp
        have HE : Hid (∀ W, Calls Tryd.prog 22 #[.slice (some ⟨fb, o, none⟩) n cap, hd25 f k m i s l b st, .int .i64 (j : Int)] W fun e w' => e = .returned (.tuple #[.slice none 0 0, .slice none 0 0, .bool false]) ∧ Below W.heap.size W w') := fun W =>
          held25_no (some ⟨fb, o, none⟩) n cap f k m i s l b st j _ W (by have := HH.out; omega) HH.out.2.1 hj2 rfl hyx (by unfold gb25 at hwh; omega)
        unfold hd25 at HE
        generalize Nat.min (j * b + b) l = y at HB hyx
        generalize j * b = x at HB hyx
        clear P hj hjn hjl hj2 hyx hwh
        go_wp2_with (first
          | (go_at_call 21; (with_reducible refine (HB.out _).mono ?_); rintro e w6 ⟨rfl, hb⟩; clear HB q0 q1 q2 q3 q4 q5 q6 q7; have P6 := HP.out.below hb; clear hb HP; obtain ⟨q0, q1, q2, q3, q4, q5, q6, q7⟩ := hcells25 P6.blk)
          | (go_at_call 22; (with_reducible refine (HE.out _).mono ?_); rintro e w7 ⟨rfl, hb⟩; clear HE q0 q1 q2 q3 q4 q5 q6 q7; have P7 := P6.below hb; clear hb P6; obtain ⟨w12, vb2, hrun, g9, b9⟩ := app_gj P7.gj (by have := P7.rw.lt; omega) ((j : Nat) : Int) hL8; have P10 := P7.app b9 g9)
          | (at_builtin; refine Lib.wpList_append_run _ rfl _ _ _ _ rfl _ _ rfl rfl _ _ hrun ?_; clear hrun))
        have W3 := HW.out.1
        go_wp2
        go_roundw
        case rel => exact ⟨j + 1, vb2, HW.out.2, by first | rfl | (rw [W3]; rfl), rfl, by rw [hbn]; exact P10.congr (fun c _ => sp_no25 ho) (fun c hc => HV9.out c hc)⟩
        case measure => first | exact meas_lt8 HW.out.2 | (rw [W3]; exact meas_lt8 HW.out.2)
    · have hin2 : j = nb := by omega
      have ib : ¬ ((j : Nat) : Int) < (nb : Int) := by omega
      have D9 : decide (((j : Nat) : Int) < (nb : Int)) = false := decide_eq_false ib
      rw [hin2, ← hnb9.out] at P
      obtain ⟨⟨z0, z1, z2, z3, z4, z5, z6, z7⟩, ⟨f0, f1, f2, f3, f4, f5, f6, f7⟩, ⟨e0, e1, e2, e3, e4, e5, e6, e7⟩⟩ := same_facts25 P.blk
      clear hj hin2 hjn
      go_wp2
      refine bodyPost_ret (results_crt4_25 rfl _ _ w.heap.size _ #[.int .i64 f, .int .i64 k, .int .i64 m, .int .i64 i, .int .i64 s, .int .i64 l, .int .i64 b, .int .u64 st] _ _ rfl P.blk Tryd.underlying38 rfl info_head25) rfl ?_
      rw [← hnb9.out]
      exact ⟨X1.heap.size, _, rfl, P.bel, Nat.le_of_lt P.lt, P.rw.congr (fun c hc => by
        unfold sp25
        rw [if_pos (Nat.lt_of_lt_of_le hc (nb_all25 HH.out.1))]), P.gj⟩
end Go.Proofs.YtehbiccpbopkfaaDoor
