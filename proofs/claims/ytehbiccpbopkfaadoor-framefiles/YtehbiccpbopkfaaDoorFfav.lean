import Derived.Test.YtehbiccpbopkfaaDoorFfau
import Derived.Test.YtehbiccpbopkfaaDoorFfao
namespace Go.Proofs.YtehbiccpbopkfaaDoor
open Go.RowKit Gf2
set_option linter.unusedVariables false

-- layer 25: the document's Read of a good file
theorem tail25 (b o n cx m : Nat) (hm : m < n) (hn : n ≤ cx) (W : World) : (Instr.slice 27 (.slice (some ⟨b, o, none⟩) n cx) (some (.int .i64 (m : Int))) none none).run Tryd.prog W = .ok (.slice (some ⟨b, o + m, none⟩) (n - m) (cx - m)) W := by
  have hu : Tryd.prog.underlying 27 = some (.slice (Tryd.prog.elem 27)) := by rw [elem_u25]; exact Tryd.underlying27
  have h := run_slice_l (P := Tryd.prog) (w := W) 27 (some ⟨b, o, none⟩) n cx hu .i64 (m : Int) (by omega) (by omega)
  rw [h, elem_u25, size_u25]
  have e2 : (m : Int).toNat = m := by omega
  have e3 : (if cx = m then some (⟨b, o, none⟩ : Addr) else (some (⟨b, o, none⟩ : Addr)).map (·.add m)) = some ⟨b, o + m, none⟩ := by
    rw [if_neg (by omega)]
    show some ((⟨b, o, none⟩ : Addr).add m) = _
    rw [Addr.add_lit]
  simp only [Result.andThen, sliced, e2, Nat.mul_one, e3]
theorem cut0_25 (x : Option Addr) (n cx m : Nat) (hm : m ≤ cx) (W : World) : (Instr.slice 27 (.slice x n cx) none (some (.int .i64 (m : Int))) none).run Tryd.prog W = .ok (.slice x m cx) W := by
  have hu : Tryd.prog.underlying 27 = some (.slice (Tryd.prog.elem 27)) := by rw [elem_u25]; exact Tryd.underlying27
  have h := run_slice_h (P := Tryd.prog) (w := W) 27 x n cx hu .i64 (m : Int) (by omega) (by omega)
  have e : (if cx = 0 then x else x.map (·.add 0)) = x := by
    split
    · rfl
    · cases x with
      | none => rfl
      | some a => show some (a.add 0) = some a; unfold Addr.add; split <;> simp_all
  rw [h, elem_u25, size_u25]
  simp only [Result.andThen, sliced, Int.toNat_natCast, Nat.mul_one, Nat.sub_zero]
  first | rw [e] | congr 2
theorem i64w25 (n : Int) : IntKind.i64.wrap n = wrap64 n := by unfold wrap64; exact IntKind.wrap_i64 n
theorem wrn25 {z : Nat} (h : z ≤ 1152921504606846976) : wrap64 ((z : Nat) : Int) = ((z : Nat) : Int) := by unfold wrap64; omega
/-- the document's Read on its way: the empty head, the head in its box, the shard in block g, the bad blocks. -/
structure Re25 (w X : World) (y g l : Nat) (G : Nat → Nat) (vb : Value) (L : Nat) (S : Nat → Int) (f k m i s ll b : Int) (st : Nat) : Prop where
  bel : Below w.heap.size w X
  zer : X.heap[w.heap.size]? = some (.cells #[.int .i64 0, .int .i64 0, .int .i64 0, .int .i64 0, .int .i64 0, .int .i64 0, .int .i64 0, .int .u64 0] 26 (0, 0))
  blk : X.heap[y]? = some (.cells (hc25 f k m i s ll b st) 26 (0, 0))
  lz : w.heap.size < y
  lt : y < g
  rw : Rw X g l G
  gj : Gj (g + 1) X vb L S
section
variable {w X X' : World} {y g l : Nat} {G G' : Nat → Nat} {vb vb' : Value} {L L' : Nat} {S S' : Nat → Int} {f k m i s ll b : Int} {st : Nat}
theorem Re25.below (h : Re25 w X y g l G vb L S f k m i s ll b st) (hb : Below X.heap.size X X') : Re25 w X' y g l G vb L S f k m i s ll b st :=
  ⟨h.bel.trans (hb.mono h.bel.size), (hb.block _ (Array.getElem?_eq_some_iff.1 h.zer).1).trans h.zer, (hb.block _ (Array.getElem?_eq_some_iff.1 h.blk).1).trans h.blk, h.lz, h.lt, h.rw.of_block (hb.block _ h.rw.lt), h.gj.below hb⟩
theorem Re25.drewN (h : Re25 w X y g l G vb L S f k m i s ll b st) (n : Nat) : Re25 w (X.drewN n) y g l G vb L S f k m i s ll b st := h.below (below_drewN (Below.refl _ _) n)
theorem Re25.drew (h : Re25 w X y g l G vb L S f k m i s ll b st) : Re25 w X.drew y g l G vb L S f k m i s ll b st := h.drewN 1
theorem Re25.only (h : Re25 w X y g l G vb L S f k m i s ll b st) (ho : Only g X X') (hr : Rw X' g l G') : Re25 w X' y g l G' vb L S f k m i s ll b st :=
  ⟨h.bel.trans (ho.below (Nat.le_of_lt (Nat.lt_trans h.lz h.lt))), (ho.2.2 _ (Nat.ne_of_lt (Nat.lt_trans h.lz h.lt))).trans h.zer, (ho.2.2 _ (Nat.ne_of_lt h.lt)).trans h.blk, h.lz, h.lt, hr, h.gj.keep ho.kp.ke (fun x hx e => by have : x = g := e; omega)⟩
theorem Re25.app (h : Re25 w X y g l G vb L S f k m i s ll b st) (hb : Below (g + 1) X X') (hj : Gj (g + 1) X' vb' L' S') : Re25 w X' y g l G vb' L' S' f k m i s ll b st :=
  ⟨h.bel.trans (hb.mono (by have := h.lt; have := h.lz; omega)), (hb.block _ (by have := h.lt; have := h.lz; omega)).trans h.zer, (hb.block _ (by have := h.lt; omega)).trans h.blk, h.lz, h.lt, h.rw.of_block (hb.block _ (by omega)), hj⟩
theorem Re25.congr (h : Re25 w X y g l G vb L S f k m i s ll b st) (e : ∀ c, c < l → G c = G' c) (e2 : ∀ c, c < L → S c = S' c) : Re25 w X y g l G' vb L S' f k m i s ll b st :=
  ⟨h.bel, h.zer, h.blk, h.lz, h.lt, h.rw.congr e, h.gj.congr e2⟩
end
theorem rstart25 {w X2 : World} {y l : Nat} {f k m i s ll b : Int} {st : Nat} (hl : l ≤ 67108864) (kc : Below w.heap.size w X2) (ka : X2.heap[w.heap.size]? = some (.cells #[.int .i64 0, .int .i64 0, .int .i64 0, .int .i64 0, .int .i64 0, .int .i64 0, .int .i64 0, .int .u64 0] 26 (0, 0))) (kb : X2.heap[y]? = some (.cells (hc25 f k m i s ll b st) 26 (0, 0))) (ly : w.heap.size < y) (S : Nat → Int) :
    Re25 w (X2.alloc (.cells (madeCells #[.int .u8 0] l) 5)) y X2.heap.size l (fun _ => 0) (.slice none 0 0) 0 S f k m i s ll b st := by
  have b1 : Below X2.heap.size X2 (X2.alloc (.cells (madeCells #[.int .u8 0] l) 5)) := (Below.refl _ _).alloc (Nat.le_refl _) _
  have hly := (Array.getElem?_eq_some_iff.1 kb).1
  have hlz := (Array.getElem?_eq_some_iff.1 ka).1
  exact ⟨kc.trans (b1.mono kc.size), (b1.block _ hlz).trans ka, (b1.block _ hly).trans kb, ly, hly, made_rw l (by omega) X2, Gj.start _ _ _⟩
set_option maxHeartbeats 16000000 in
set_option maxRecDepth 100000 in
theorem rread25_yes (fb o n cap : Nat) (F : Nat → Nat) (f k m i s l b st : Nat) (w : World) (h : Rb w (.slice (some ⟨fb, o, none⟩) n cap) n F) (hn : 48 ≤ n) (hg : Gh25 f k m i s l b) (hs : hs25 F = hsum25 F) (hn2 : ¬ 48 + l + 4 * nb25 l b < n)
    (cR : ∀ W, Below w.heap.size w W → Calls Tryd.prog 32 #[.slice (some ⟨fb, o, none⟩) n cap] W fun e w' => e = .returned (.tuple #[hd25 f k m i s l b st, .int .i64 0]) ∧ Below W.heap.size W w') :
    Calls Tryd.prog 36 #[.slice (some ⟨fb, o, none⟩) n cap] w fun e w' => ∃ g vb, e = .returned (.tuple #[hd25 f k m i s l b st, .slice (some ⟨g, 0, none⟩) l l, vb, .int .i64 0]) ∧ Below w.heap.size w w' ∧ w.heap.size ≤ g ∧
      Rw w' g l (rs25 n F (hs25 F) l b) ∧ Gj (g + 1) w' vb (bl25 n F (hs25 F) l b (nb25 l b)).length (blv25 n F (hs25 F) l b (nb25 l b)) := by
  have b0 : Below w.heap.size w (w.alloc (.cells #[.int .i64 0, .int .i64 0, .int .i64 0, .int .i64 0, .int .i64 0, .int .i64 0, .int .i64 0, .int .u64 0] 26)) := (Below.refl _ _).alloc (Nat.le_refl _) _
  have c1 := cR _ b0
  have HB : Hid (Below w.heap.size w (w.alloc (.cells #[.int .i64 0, .int .i64 0, .int .i64 0, .int .i64 0, .int .i64 0, .int .i64 0, .int .i64 0, .int .u64 0] 26))) := b0
  have hb1 : 1 ≤ b := by have := hg.blk.1; omega
  have hb2 : b ≤ 1048576 := by have := hg.blk.2.1; omega
  have hl2 := hg.l2
  have hcn := hg.cnt
  have c2 : Hid (∀ W, Calls Tryd.prog 28 #[.int .i64 (l : Int), .int .i64 (b : Int)] W fun e w' => e = .returned (.int .i64 ((nb25 l b : Nat) : Int)) ∧ w' = W) := fun W => spans25 l b W (by omega) hb1 hb2
  have hmk : ∀ w, (Instr.makeSlice 27 (.int .i64 (l : Int)) (.int .i64 (l : Int))).run Tryd.prog w = .ok (.slice (some ⟨w.heap.size, 0, none⟩) l l) (w.alloc (.cells (madeCells #[.int .u8 0] l) 5)) := fun w => make_u8 l (by omega) w
  obtain ⟨nb, hnb9⟩ : ∃ nb, Hid (nb25 l b = nb) := ⟨_, rfl⟩
  rw [hnb9.out] at c2 hcn hn2 ⊢
  have W1 : wrap64 (48 + ((l : Nat) : Int)) = 48 + ((l : Nat) : Int) := by clear hn hn2; unfold wrap64; omega
  have W2 : wrap64 (4 * ((nb : Nat) : Int)) = 4 * ((nb : Nat) : Int) := by clear hn hn2 W1; unfold wrap64; omega
  have W3 : wrap64 (48 + ((l : Nat) : Int) + 4 * ((nb : Nat) : Int)) = 48 + ((l : Nat) : Int) + 4 * ((nb : Nat) : Int) := by clear hn hn2 W1 W2; unfold wrap64; omega
  have D1 : decide (48 + ((l : Nat) : Int) + 4 * ((nb : Nat) : Int) < ((n : Nat) : Int)) = false := decide_eq_false (by omega)
  have HH : Hid (1 ≤ b ∧ b ≤ 1048576 ∧ l ≤ 67108864 ∧ nb ≤ 65536 ∧ 48 ≤ n ∧ n ≤ 48 + l + 4 * nb ∧ Rb w (.slice (some ⟨fb, o, none⟩) n cap) n F ∧ hs25 F = hsum25 F) := ⟨hb1, hb2, hl2, hcn, hn, by omega, h, hs⟩
  obtain ⟨HS, hHS⟩ : ∃ HS, Hid (hs25 F = HS) := ⟨_, rfl⟩
  rw [hHS.out]
  unfold hd25 at c1 ⊢
  clear cR h hn hg hb1 hb2 hl2 hcn hs hn2 b0
  go_enter Tryd.func36, Tryd.ntmps36
  go_wp2_with (go_at_call 32; (with_reducible refine c1.mono ?_); rintro e w9 ⟨rfl, hb9⟩; clear c1; obtain ⟨ka, kb, kc⟩ := two_boxh25 (T := 26) (A := #[.int .i64 (f : Int), .int .i64 (k : Int), .int .i64 (m : Int), .int .i64 (i : Int), .int .i64 (s : Int), .int .i64 (l : Int), .int .i64 (b : Int), .int .u64 (st : Int)]) HB.out hb9 (Below.refl _ _); have hly : w.heap.size < w9.heap.size := Nat.lt_of_lt_of_le (by simp) hb9.size; obtain ⟨y9, hy9⟩ : ∃ y9, w9.heap.size = y9 := ⟨_, rfl⟩; obtain ⟨X1, hX1⟩ : ∃ X1, w9.alloc (.cells #[.int .i64 (f : Int), .int .i64 (k : Int), .int .i64 (m : Int), .int .i64 (i : Int), .int .i64 (s : Int), .int .i64 (l : Int), .int .i64 (b : Int), .int .u64 (st : Int)] 26) = X1 := ⟨_, rfl⟩; rw [hX1] at ka kb kc; rw [hy9] at kb hly; obtain ⟨q0, q1, q2, q3, q4, q5, q6, q7⟩ := hcellsT25 kb)
  go_quiet (first | (go_at_call 28; with_reducible exact Calls.quiet_of_same (c2.out _)))
  have ka2 : (X1.drewN nq).heap[w.heap.size]? = some (.cells #[.int .i64 0, .int .i64 0, .int .i64 0, .int .i64 0, .int .i64 0, .int .i64 0, .int .i64 0, .int .u64 0] 26 (0, 0)) := ka
  have kb2 : (X1.drewN nq).heap[y9]? = some (.cells #[.int .i64 (f : Int), .int .i64 (k : Int), .int .i64 (m : Int), .int .i64 (i : Int), .int .i64 (s : Int), .int .i64 (l : Int), .int .i64 (b : Int), .int .u64 (st : Int)] 26 (0, 0)) := kb
  have kc2 := below_drewN kc nq
  obtain ⟨X2, hX2⟩ : ∃ X2, X1.drewN nq = X2 := ⟨_, rfl⟩
  rw [hX2] at ka2 kb2 kc2 ⊢
  have P1 := rstart25 (l := l) HH.out.2.2.1 kc2 ka2 kb2 hly (blv25 n F HS l b 0)
  clear q0 q1 q2 q3 q4 q5 q6 q7 ka kb kc hX1 hX2
  obtain ⟨q0, q1, q2, q3, q4, q5, q6, q7⟩ := hcellsT25 kb2
  obtain ⟨g, hgs⟩ : ∃ g, Hid (X2.heap.size = g) := ⟨_, rfl⟩
  have P2 := P1
  rw [hgs.out] at P1
  have HX9 : Hid (Re25 w (X2.alloc (.cells (madeCells #[.int .u8 0] l) 5)) y9 g l (fun _ => 0) (.slice none 0 0) 0 (blv25 n F HS l b 0) f k m i s l b st) := P1
  have hg9 := hgs.out
  clear P1 P2
  go_wp2
  clear W1 W2 W3 D1 HB hly hy9 hg9 hgs q0 q1 q2 q3 q4 q5 q6 q7 ka2 kb2 kc2 hmk hb9
  go_loopw [9, 10, 11] (fun sb sa sj wr => ∃ (j : Nat) (vb : Value), j ≤ nb ∧ sj = .int .i64 ((j : Nat) : Int) ∧ sa = .int .i64 ((en25 l b j : Nat) : Int) ∧ sb = vb ∧ Re25 w wr y9 g l (sp25 n F HS l b j) vb (bl25 n F HS l b j).length (blv25 n F HS l b j) f k m i s l b st) (fun _ _ sj _ => nb - (intOf sj).toNat)
  case atStart => exact ⟨0, _, Nat.zero_le _, rfl, by rw [en_first25]; rfl, rfl, HX9.out.congr (fun c _ => sp_zero25.symm) (fun c hc => absurd hc (Nat.not_lt_zero _))⟩
  case round =>
    clear HX9
    obtain ⟨j, vb, hj, rfl, rfl, hvb, P⟩ := hrel
    have hvb2 := hvb.symm
    clear hvb
    subst hvb2
    have hcc := hcellsT25 P.blk
    obtain ⟨q0, q1, q2, q3, q4, q5, q6, q7⟩ := hcc
    have HP : Hid (Re25 w wr y9 g l (sp25 n F HS l b j) vb (bl25 n F HS l b j).length (blv25 n F HS l b j) f k m i s l b st) := P
    by_cases hjn : j < nb
    · have ib : ((j : Nat) : Int) < (nb : Int) := Int.ofNat_lt.2 hjn
      have hjl : j * b < l := (nb_lt25 HH.out.1).1 (by rw [hnb9.out]; exact hjn)
      have hj2 : j ≤ 65536 := by have := HH.out; omega
      have hyx := gb_pos25 HH.out.1 hjl
      have hgb := gb_le25 l b j
      have hg0 : 0 < gb25 l b j := by unfold gb25; omega
      have hL8 : ((bl25 n F HS l b j).length + 1) * 8 ≤ 140737488355328 := by have := bl_len25 n F HS l b j; omega
      have HW9 : Hid (wrap64 (((j : Nat) : Int) + 1) = ((j : Nat) : Int) + 1) := wrap_succ8 (j := j) (by unfold big; omega)
      have HJ : Hid (j < nb) := hjn
      have hmin : (l < j * b + b → gb25 l b j = l - j * b) ∧ (¬ l < j * b + b → gb25 l b j = b) := by
        unfold gb25
        refine ⟨fun h => ?_, fun h => ?_⟩
        · have e : Nat.min (j * b + b) l = l := Nat.min_eq_right (by omega)
          rw [e]
        · have e : Nat.min (j * b + b) l = j * b + b := Nat.min_eq_left (by omega)
          rw [e]
          omega
      have HE2 : Hid (en25 l b (j + 1) = 48 + j * b + 4 * j + gb25 l b j + 4) := en_next25 HH.out.1 hjl
      obtain ⟨x, hx⟩ : ∃ x, Hid (j * b = x) := ⟨_, rfl⟩
      obtain ⟨t, ht⟩ : ∃ t, Hid (48 + j * b + 4 * j = t) := ⟨_, rfl⟩
      obtain ⟨q, hq⟩ : ∃ q, Hid (gb25 l b j = q) := ⟨_, rfl⟩
      rw [en_mid25 hjl, ht.out]
      have hcap : n ≤ cap := by
        obtain ⟨-, -, a9, c9, e9, h9, -, -⟩ := HH.out.2.2.2.2.2.2.1
        cases e9
        exact h9
      have hxl : x < l := by rw [← hx.out]; exact hjl
      have hq0 : 0 < q := by rw [← hq.out]; exact hg0
      have hqb : q ≤ b := by rw [← hq.out]; exact hgb
      have htx : t = 48 + x + 4 * j := by rw [← ht.out, ← hx.out]
      have hqm : (l < x + b → q = l - x) ∧ (¬ l < x + b → q = b) := by rw [← hx.out, ← hq.out]; exact hmin
      have hxq : x + q ≤ l := by
        rcases Classical.em (l < x + b) with h | h
        · have := hqm.1 h; omega
        · have := hqm.2 h; omega
      have hb2 : b ≤ 1048576 := HH.out.2.1
      have hl2 : l ≤ 67108864 := HH.out.2.2.1
      have hB1 : j * b ≤ 1152921504606846976 := by omega
      have hB2 : x + b ≤ 1152921504606846976 := by omega
      have hB3 : t + q ≤ 1152921504606846976 := by omega
      have hB4 : t + q + 4 ≤ 1152921504606846976 := by omega
      have S0 : ∀ W, (Instr.slice 27 (.slice (some ⟨fb, o, none⟩) n cap) none (some (.int .i64 44)) none).run Tryd.prog W = .ok (.slice (some ⟨fb, o, none⟩) 44 cap) W := fun W => cut0_25 _ n cap 44 (by have := HH.out; omega) W
      have T0 : ∀ W, (Instr.slice 27 (.slice (some ⟨g, 0, none⟩) l l) (some (.int .i64 ((x : Nat) : Int))) none none).run Tryd.prog W = .ok (.slice (some ⟨g, x, none⟩) (l - x) (l - x)) W := fun W => by
        have c := tail25 g 0 l l x hxl (Nat.le_refl _) W
        rw [Nat.zero_add] at c
        exact c
      have HT0 : Hid (∀ W, (Instr.slice 27 (.slice (some ⟨g, 0, none⟩) l l) (some (.int .i64 ((x : Nat) : Int))) none none).run Tryd.prog W = .ok (.slice (some ⟨g, x, none⟩) (l - x) (l - x)) W) := T0
      have HW1 : Hid (wrap64 (((j : Nat) : Int) * ((b : Nat) : Int)) = ((x : Nat) : Int)) := by
        show _ = _
        rw [← hx.out, ← Int.natCast_mul]
        exact wrn25 hB1
      have HW2 : Hid (wrap64 (((x : Nat) : Int) + ((b : Nat) : Int)) = ((x : Nat) : Int) + ((b : Nat) : Int)) := by
        show _ = _
        rw [← Int.natCast_add]
        exact wrn25 hB2
      have HW3 : Hid (wrap64 (((t : Nat) : Int) + ((q : Nat) : Int)) = ((t + q : Nat) : Int)) := by
        show _ = _
        rw [← Int.natCast_add]
        exact wrn25 hB3
      have HW4 : Hid (wrap64 (((t + q : Nat) : Int) + 4) = ((t + q + 4 : Nat) : Int)) := wrn25 hB4
      have hF : ∀ c, c < n → F c < 256 := HH.out.2.2.2.2.2.2.1.2.1
      by_cases hwh : t + q + 4 ≤ n
      · skip
        have S1 : ∀ W, (Instr.slice 27 (.slice (some ⟨fb, o, none⟩) n cap) (some (.int .i64 ((t : Nat) : Int))) (some (.int .i64 ((t + q : Nat) : Int))) none).run Tryd.prog W = .ok (.slice (some ⟨fb, o + t, none⟩) q (cap - t)) W := fun W => by
          have c := cut25 fb o n cap t (t + q) (by omega) (by omega) W
          rw [Nat.add_sub_cancel_left] at c
          exact c
        have S2 : ∀ W, (Instr.slice 27 (.slice (some ⟨fb, o, none⟩) n cap) (some (.int .i64 ((t + q : Nat) : Int))) (some (.int .i64 ((t + q + 4 : Nat) : Int))) none).run Tryd.prog W = .ok (.slice (some ⟨fb, o + (t + q), none⟩) 4 (cap - (t + q))) W := fun W => by
          have c := cut25 fb o n cap (t + q) (t + q + 4) (by omega) (by omega) W
          rw [Nat.add_sub_cancel_left] at c
          exact c
        have HN : Hid (∀ W, Below w.heap.size w W → Calls Tryd.prog 42 #[.slice (some ⟨fb, o + (t + q), none⟩) 4 (cap - (t + q))] W fun e w' => e = .returned (.int .u64 ((le25 (fun c => F (t + q + c)) 4 : Nat) : Int)) ∧ w' = W) := fun W hW => rnumber25 _ 4 _ W (rb_piece25 (HH.out.2.2.2.2.2.2.1.below hW) hwh hcap) (by decide)
        have HS44 : nt (fol25 (nt 0) F 44) = HS := by
          have h9 : hs25 F = nt (fol25 (nt 0) F 44) := HH.out.2.2.2.2.2.2.2
          rw [← h9]
          exact hHS.out
        have lHS : HS < 4294967296 := by rw [← hHS.out]; exact hs_lt25 (fun c hc => hF _ (by have := HH.out; omega))
        have lB : bsm25 HS j q (fun c => F (t + c)) < 4294967296 := bsm_lt25 lHS (fun c hc => hF _ (by omega))
        have HU : Hid (∀ W, Below w.heap.size w W → Calls Tryd.prog 31 #[.slice (some ⟨fb, o, none⟩) 44 cap, .int .i64 (j : Int), .slice (some ⟨fb, o + t, none⟩) q (cap - t)] W fun e w' => ∃ gg, e = .returned (.slice (some ⟨gg, 0, none⟩) 4 4) ∧ Below W.heap.size W w' ∧
            (Calls Tryd.prog 42 #[.slice (some ⟨gg, 0, none⟩) 4 4] w' fun e w2 => e = .returned (.int .u64 ((bsm25 HS j q (fun c => F (t + c)) : Nat) : Int)) ∧ w2 = w')) := fun W hW => by
          have hR := HH.out.2.2.2.2.2.2.1.below hW
          refine (rblockSum25 _ _ 44 q j HS F (fun c => F (t + c)) W (hR.cut (by have := HH.out; omega) (by have := HH.out; omega)) (rb_piece25 hR (x := t) (d := q) (by omega) hcap) HS44 (by omega)).mono ?_
          rintro e w' ⟨gg, rfl, hb, -, hr⟩
          refine ⟨gg, rfl, hb, ?_⟩
          have c := rnumber25 _ 4 _ w' hr.rb0 (by decide)
          rw [le_by25, Nat.mod_eq_of_lt (show _ < 2 ^ (8 * 4) by exact lB)] at c
          exact c
        have Dw2 : decide (t + q + 4 ≤ n) = true := decide_eq_true hwh
        have Dw : decide (((t + q + 4 : Nat) : Int) ≤ ((n : Nat) : Int)) = true := decide_eq_true (by omega)
        have HT1 : Hid (t + q + 4 = en25 l b (j + 1)) := by
          show _ = _
          rw [HE2.out, ht.out, hq.out]
        by_cases heq : le25 (fun c => F (t + q + c)) 4 = bsm25 HS j q (fun c => F (t + c))
        · skip
          have ho : okb25 n F HS l b j = true := by
            unfold okb25
            rw [ht.out, hq.out, decide_eq_true hwh, decide_eq_true heq]
            rfl
          have E1 : (((le25 (fun c => F (t + q + c)) 4 : Nat) : Int) == ((bsm25 HS j q (fun c => F (t + c)) : Nat) : Int)) = true := by rw [heq]; simp
          have E2 : (le25 (fun c => F (t + q + c)) 4 == bsm25 HS j q (fun c => F (t + c))) = true := by rw [heq]; simp
          have hsp := fun c hc => sp_yes25 (x := c) HH.out.1 hjl hc ho
          rw [ht.out, hq.out, hx.out] at hsp
          have HC : Hid (∀ X, Re25 w X y9 g l (sp25 n F HS l b j) vb (bl25 n F HS l b j).length (blv25 n F HS l b j) f k m i s l b st → ∃ w14, (Builtin.copy_ #[27, 27] 3 #[.slice (some ⟨g, x, none⟩) (l - x) (l - x), .slice (some ⟨fb, o + t, none⟩) q (cap - t)]).run Tryd.prog X = .ok (goInt q) w14 ∧ Re25 w w14 y9 g l (sp25 n F HS l b (j + 1)) vb (bl25 n F HS l b (j + 1)).length (blv25 n F HS l b (j + 1)) f k m i s l b st) := fun X hX => by
            obtain ⟨w8, h1, h2, h3⟩ := copy8_min X (g := g) (o := x) (N := l) (dl := l - x) (cap := l - x) hX.rw (a := some ⟨fb, o + t, none⟩) (m := q) (n := q) (cap' := cap - t) (S := fun c => F (t + c)) (fun c hc => hF _ (by omega)) (fun _ => ⟨fb, o + t, rfl, fun c hc => by
              obtain ⟨-, -, a9, c9, e9, -, -, h9⟩ := HH.out.2.2.2.2.2.2.1.below hX.bel
              cases e9
              obtain ⟨b8, o8, e8, -, h8⟩ := h9 (by omega)
              cases e8
              rw [Nat.add_assoc]
              exact h8 _ (by omega)⟩) (by omega) (by omega) (Nat.le_refl _) (Nat.min_eq_left (by omega))
            refine ⟨w8, h1, ?_⟩
            have hY := (hX.only h3 h2).congr hsp (fun c _ => (rfl : blv25 n F HS l b j c = blv25 n F HS l b j c))
            have e1 : blv25 n F HS l b (j + 1) = blv25 n F HS l b j := by funext c; unfold blv25; rw [bl_yes25 ho]
            rw [e1, bl_yes25 ho]
            exact hY
          clear hsp
          by_cases hcut : l < x + b
          · have hq2 := hqm.1 hcut
            have D3 : decide (((l : Nat) : Int) < ((x : Nat) : Int) + ((b : Nat) : Int)) = true := decide_eq_true (by omega)
            have HW5 : Hid (wrap64 (((l : Nat) : Int) - ((x : Nat) : Int)) = ((q : Nat) : Int)) := by
              show _ = _
              have e9 : ((l : Nat) : Int) - ((x : Nat) : Int) = ((q : Nat) : Int) := by omega
              rw [e9]
              exact wrn25 (by omega)
            have W5 := HW5.out
            clear hcut hq2
            clear hqm hxq hjl hyx hgb hg0 hmin hB1 hB2 hB3 hB4 hxl hq0 hqb htx hj2 hb2 hl2 hF HS44 lHS lB hwh hj hjn hcap
            generalize le25 (fun c => F (t + q + c)) 4 = rd9 at HN E1 E2 heq
            generalize bsm25 HS j q (fun c => F (t + c)) = bs9 at HU E1 E2 heq
            clear heq
            have W1 := HW1.out
            have W2 := HW2.out
            have W3 := HW3.out
            have W4 := HW4.out
            have W9 := HW9.out
            generalize hz4 : t + q + 4 = z4 at *
            generalize hz : t + q = z at *
            have V3 : IntKind.i64.wrap (((t : Nat) : Int) + ((q : Nat) : Int)) = ((z : Nat) : Int) := (i64w25 _).trans W3
            have V4 : IntKind.i64.wrap (((z : Nat) : Int) + 4) = ((z4 : Nat) : Int) := (i64w25 _).trans W4
            go_wp2_with (go_at_call 28; (with_reducible refine (c2.out _).mono ?_); rintro e w10 ⟨rfl, hw10⟩; have hw10 := hw10.symm; subst hw10; clear c2)
            refine region_planI (fun _ => True) [0, 1, 2, 3, 4, 5, 6, 7, 8, 9, 10, 11, 12, 13, 14, 15, 16, 18, 19, 20, 21, 22, 23, 24, 25, 26, 17, 27, 28, 29, 30] [5, 20, 0, 0, 2] 117 trivial (by kernel_rfl) (by kernel_rfl) (fun _ a d v _ h => by cases d <;> exact h) ?_
            simp only [atI, List.getElem?_cons_zero, List.getElem?_cons_succ]
            refine planH_step ?A1x1 rfl (fun w' hS => ?s1x1) rfl (fun K hK => ?n1x1)
            case s1x1 =>
              simp only [List.take_succ_cons, List.take_zero]
              repeat still_step
              exact rfl
            case n1x1 =>
            go_simp
            go_wp2
            refine hK _ _ trivial ?_
            clear hK K
            refine planH_step ?A2x1 rfl (fun w' hS => ?s2x1) rfl (fun K hK => ?n2x1)
            case s2x1 =>
              simp only [List.take_succ_cons, List.take_zero]
              repeat still_step
              exact rfl
            case n2x1 =>
            go_simp
            go_wp2_with (go_at_call 42; (with_reducible refine (HN.out _ HP.out.drew.bel).mono ?_); rintro e w11 ⟨rfl, hw11⟩; have hw11 := hw11.symm; subst hw11; clear HN)
            refine hK _ _ trivial ?_
            clear hK K
            refine planH_step ?A3x1 rfl (fun w' hS => ?s3x1) rfl (fun K hK => ?n3x1)
            case s3x1 =>
              simp only [List.take_zero]
              repeat still_step
              exact rfl
            case n3x1 =>
            go_simp
            go_wp2_with (go_at_call 31; (with_reducible refine (HU.out _ HP.out.drew.bel).mono ?_); rintro e w12 ⟨gg, rfl, hb12, hn12⟩; clear HU)
            refine hK _ _ trivial ?_
            clear hK K
            refine planH_step ?A4x1 rfl (fun w' hS => ?s4x1) rfl (fun K hK => ?n4x1)
            case s4x1 =>
              simp only [List.take_zero]
              repeat still_step
              exact rfl
            case n4x1 =>
            go_simp
            go_wp2_with (go_at_call 42; (with_reducible refine hn12.mono ?_); rintro e w13 ⟨rfl, hw13⟩; have hw13 := hw13.symm; subst hw13; clear hn12)
            refine hK _ _ trivial ?_
            clear hK K
            refine planH_last ?A5x1 rfl (fun w' hS => ?s5x1) rfl ?n5x1
            case s5x1 =>
              simp only [List.take_succ_cons, List.take_zero]
              repeat still_step
              exact rfl
            case n5x1 =>
            have P12 := HP.out.drew.below hb12
            clear hb12 HP P q0 q1 q2 q3 q4 q5 q6 q7
            obtain ⟨w14, hcp, P14⟩ := HC.out _ P12.drew
            clear HC
            go_wp2
            refine region_planI (fun _ => True) [0, 1, 2, 3, 4, 5, 6, 7, 8, 9] [9, 0] 117 trivial (by kernel_rfl) (by kernel_rfl) (fun _ a d v _ h => by cases d <;> exact h) ?_
            simp only [atI, List.getElem?_cons_zero, List.getElem?_cons_succ]
            refine planH_step ?B1x1 rfl (fun w' hS => ?r1x1) rfl (fun K hK => ?m1x1)
            case r1x1 =>
              simp only [List.take_succ_cons, List.take_zero]
              repeat still_step
              exact rfl
            case m1x1 =>
            go_simp
            refine hK _ _ trivial ?_
            clear hK K
            refine planH_last ?B2x1 rfl (fun w' hS => ?r2x1) rfl ?m2x1
            case r2x1 =>
              simp only [List.take_zero]
              exact rfl
            case m2x1 =>
            go_wp2
            go_roundw
            case rel => exact ⟨j + 1, vb, HJ.out, by first | rfl | (rw [W9]; rfl), by first | (rw [HT1.out]) | (rw [← HT1.out]), rfl, P14⟩
            case measure => first | exact meas_lt8 HJ.out | (rw [W9]; exact meas_lt8 HJ.out)
          · have hq2 := (hqm.2 hcut).symm
            have D3 : decide (((l : Nat) : Int) < ((x : Nat) : Int) + ((b : Nat) : Int)) = false := decide_eq_false (by omega)
            have HQ9 : Hid (b = q) := hq2
            clear hcut hq2
            clear hqm hxq hjl hyx hgb hg0 hmin hB1 hB2 hB3 hB4 hxl hq0 hqb htx hj2 hb2 hl2 hF HS44 lHS lB hwh hj hjn hcap
            generalize le25 (fun c => F (t + q + c)) 4 = rd9 at HN E1 E2 heq
            generalize bsm25 HS j q (fun c => F (t + c)) = bs9 at HU E1 E2 heq
            clear heq
            have hqb9 := HQ9.out
            clear HQ9 hq
            subst hqb9
            have W1 := HW1.out
            have W2 := HW2.out
            have W3 := HW3.out
            have W4 := HW4.out
            have W9 := HW9.out
            generalize hz4 : t + b + 4 = z4 at *
            generalize hz : t + b = z at *
            have V3 : IntKind.i64.wrap (((t : Nat) : Int) + ((b : Nat) : Int)) = ((z : Nat) : Int) := (i64w25 _).trans W3
            have V4 : IntKind.i64.wrap (((z : Nat) : Int) + 4) = ((z4 : Nat) : Int) := (i64w25 _).trans W4
            go_wp2_with (go_at_call 28; (with_reducible refine (c2.out _).mono ?_); rintro e w10 ⟨rfl, hw10⟩; have hw10 := hw10.symm; subst hw10; clear c2)
            refine region_planI (fun _ => True) [0, 1, 2, 3, 4, 5, 6, 7, 8, 9, 10, 11, 12, 13, 14, 15, 16, 18, 19, 20, 21, 22, 23, 24, 25, 26, 17, 27, 28, 29, 30] [5, 20, 0, 0, 2] 117 trivial (by kernel_rfl) (by kernel_rfl) (fun _ a d v _ h => by cases d <;> exact h) ?_
            simp only [atI, List.getElem?_cons_zero, List.getElem?_cons_succ]
            refine planH_step ?A1x2 rfl (fun w' hS => ?s1x2) rfl (fun K hK => ?n1x2)
            case s1x2 =>
              simp only [List.take_succ_cons, List.take_zero]
              repeat still_step
              exact rfl
            case n1x2 =>
            go_simp
            go_wp2
            refine hK _ _ trivial ?_
            clear hK K
            refine planH_step ?A2x2 rfl (fun w' hS => ?s2x2) rfl (fun K hK => ?n2x2)
            case s2x2 =>
              simp only [List.take_succ_cons, List.take_zero]
              repeat still_step
              exact rfl
            case n2x2 =>
            go_simp
            go_wp2_with (go_at_call 42; (with_reducible refine (HN.out _ HP.out.drew.bel).mono ?_); rintro e w11 ⟨rfl, hw11⟩; have hw11 := hw11.symm; subst hw11; clear HN)
            refine hK _ _ trivial ?_
            clear hK K
            refine planH_step ?A3x2 rfl (fun w' hS => ?s3x2) rfl (fun K hK => ?n3x2)
            case s3x2 =>
              simp only [List.take_zero]
              repeat still_step
              exact rfl
            case n3x2 =>
            go_simp
            go_wp2_with (go_at_call 31; (with_reducible refine (HU.out _ HP.out.drew.bel).mono ?_); rintro e w12 ⟨gg, rfl, hb12, hn12⟩; clear HU)
            refine hK _ _ trivial ?_
            clear hK K
            refine planH_step ?A4x2 rfl (fun w' hS => ?s4x2) rfl (fun K hK => ?n4x2)
            case s4x2 =>
              simp only [List.take_zero]
              repeat still_step
              exact rfl
            case n4x2 =>
            go_simp
            go_wp2_with (go_at_call 42; (with_reducible refine hn12.mono ?_); rintro e w13 ⟨rfl, hw13⟩; have hw13 := hw13.symm; subst hw13; clear hn12)
            refine hK _ _ trivial ?_
            clear hK K
            refine planH_last ?A5x2 rfl (fun w' hS => ?s5x2) rfl ?n5x2
            case s5x2 =>
              simp only [List.take_succ_cons, List.take_zero]
              repeat still_step
              exact rfl
            case n5x2 =>
            have P12 := HP.out.drew.below hb12
            clear hb12 HP P q0 q1 q2 q3 q4 q5 q6 q7
            obtain ⟨w14, hcp, P14⟩ := HC.out _ P12.drew
            clear HC
            go_wp2
            refine region_planI (fun _ => True) [0, 1, 2, 3, 4, 5, 6, 7, 8, 9] [9, 0] 117 trivial (by kernel_rfl) (by kernel_rfl) (fun _ a d v _ h => by cases d <;> exact h) ?_
            simp only [atI, List.getElem?_cons_zero, List.getElem?_cons_succ]
            refine planH_step ?B1x2 rfl (fun w' hS => ?r1x2) rfl (fun K hK => ?m1x2)
            case r1x2 =>
              simp only [List.take_succ_cons, List.take_zero]
              repeat still_step
              exact rfl
            case m1x2 =>
            go_simp
            refine hK _ _ trivial ?_
            clear hK K
            refine planH_last ?B2x2 rfl (fun w' hS => ?r2x2) rfl ?m2x2
            case r2x2 =>
              simp only [List.take_zero]
              exact rfl
            case m2x2 =>
            go_wp2
            go_roundw
            case rel => exact ⟨j + 1, vb, HJ.out, by first | rfl | (rw [W9]; rfl), by first | (rw [HT1.out]) | (rw [← HT1.out]), rfl, P14⟩
            case measure => first | exact meas_lt8 HJ.out | (rw [W9]; exact meas_lt8 HJ.out)
        · skip
          have ho : okb25 n F HS l b j = false := by
            unfold okb25
            rw [ht.out, hq.out, decide_eq_true hwh, decide_eq_false heq]
            rfl
          have E2 : (le25 (fun c => F (t + q + c)) 4 == bsm25 HS j q (fun c => F (t + c))) = false := beq_eq_false_iff_ne.2 heq
          have E1 : (((le25 (fun c => F (t + q + c)) 4 : Nat) : Int) == ((bsm25 HS j q (fun c => F (t + c)) : Nat) : Int)) = false := beq_eq_false_iff_ne.2 (fun h9 => heq (by omega))
          have HV9 : Hid (∀ c, c < (bl25 n F HS l b j).length + 1 → (fun i => if i < (bl25 n F HS l b j).length then blv25 n F HS l b j i else ((j : Nat) : Int)) c = blv25 n F HS l b (j + 1) c) := fun c hc => by
            have h9 := blv_no25 (i := c) ho
            rw [if_pos (by omega : c ≤ (bl25 n F HS l b j).length)] at h9
            rw [← h9]
            show (if _ then _ else _) = _
            by_cases h8 : c < (bl25 n F HS l b j).length
            · rw [if_pos h8, if_pos h8]
            · rw [if_neg h8, if_neg h8, if_pos (by omega)]
          have hbn : (bl25 n F HS l b (j + 1)).length = (bl25 n F HS l b j).length + 1 := by rw [bl_no25 ho]; simp
          by_cases hcut : l < x + b
          · have hq2 := hqm.1 hcut
            have D3 : decide (((l : Nat) : Int) < ((x : Nat) : Int) + ((b : Nat) : Int)) = true := decide_eq_true (by omega)
            have HW5 : Hid (wrap64 (((l : Nat) : Int) - ((x : Nat) : Int)) = ((q : Nat) : Int)) := by
              show _ = _
              have e9 : ((l : Nat) : Int) - ((x : Nat) : Int) = ((q : Nat) : Int) := by omega
              rw [e9]
              exact wrn25 (by omega)
            have W5 := HW5.out
            clear hcut hq2
            clear hqm hxq hjl hyx hgb hg0 hmin hB1 hB2 hB3 hB4 hxl hq0 hqb htx hj2 hb2 hl2 hF HS44 lHS lB hwh hj hjn hcap
            clear T0
            generalize le25 (fun c => F (t + q + c)) 4 = rd9 at HN E1 E2 heq
            generalize bsm25 HS j q (fun c => F (t + c)) = bs9 at HU E1 E2 heq
            clear heq
            have W1 := HW1.out
            have W2 := HW2.out
            have W3 := HW3.out
            have W4 := HW4.out
            have W9 := HW9.out
            generalize hz4 : t + q + 4 = z4 at *
            generalize hz : t + q = z at *
            have V3 : IntKind.i64.wrap (((t : Nat) : Int) + ((q : Nat) : Int)) = ((z : Nat) : Int) := (i64w25 _).trans W3
            have V4 : IntKind.i64.wrap (((z : Nat) : Int) + 4) = ((z4 : Nat) : Int) := (i64w25 _).trans W4
            go_wp2_with (go_at_call 28; (with_reducible refine (c2.out _).mono ?_); rintro e w10 ⟨rfl, hw10⟩; have hw10 := hw10.symm; subst hw10; clear c2)
            refine region_planI (fun _ => True) [0, 1, 2, 3, 4, 5, 6, 7, 8, 9, 10, 11, 12, 13, 14, 15, 16, 18, 19, 20, 21, 22, 23, 24, 25, 26, 17, 27, 28, 29, 30] [5, 20, 0, 0, 2] 117 trivial (by kernel_rfl) (by kernel_rfl) (fun _ a d v _ h => by cases d <;> exact h) ?_
            simp only [atI, List.getElem?_cons_zero, List.getElem?_cons_succ]
            refine planH_step ?A1x3 rfl (fun w' hS => ?s1x3) rfl (fun K hK => ?n1x3)
            case s1x3 =>
              simp only [List.take_succ_cons, List.take_zero]
              repeat still_step
              exact rfl
            case n1x3 =>
            go_simp
            go_wp2
            refine hK _ _ trivial ?_
            clear hK K
            refine planH_step ?A2x3 rfl (fun w' hS => ?s2x3) rfl (fun K hK => ?n2x3)
            case s2x3 =>
              simp only [List.take_succ_cons, List.take_zero]
              repeat still_step
              exact rfl
            case n2x3 =>
            go_simp
            go_wp2_with (go_at_call 42; (with_reducible refine (HN.out _ HP.out.drew.bel).mono ?_); rintro e w11 ⟨rfl, hw11⟩; have hw11 := hw11.symm; subst hw11; clear HN)
            refine hK _ _ trivial ?_
            clear hK K
            refine planH_step ?A3x3 rfl (fun w' hS => ?s3x3) rfl (fun K hK => ?n3x3)
            case s3x3 =>
              simp only [List.take_zero]
              repeat still_step
              exact rfl
            case n3x3 =>
            go_simp
            go_wp2_with (go_at_call 31; (with_reducible refine (HU.out _ HP.out.drew.bel).mono ?_); rintro e w12 ⟨gg, rfl, hb12, hn12⟩; clear HU)
            refine hK _ _ trivial ?_
            clear hK K
            refine planH_step ?A4x3 rfl (fun w' hS => ?s4x3) rfl (fun K hK => ?n4x3)
            case s4x3 =>
              simp only [List.take_zero]
              repeat still_step
              exact rfl
            case n4x3 =>
            go_simp
            go_wp2_with (go_at_call 42; (with_reducible refine hn12.mono ?_); rintro e w13 ⟨rfl, hw13⟩; have hw13 := hw13.symm; subst hw13; clear hn12)
            refine hK _ _ trivial ?_
            clear hK K
            refine planH_last ?A5x3 rfl (fun w' hS => ?s5x3) rfl ?n5x3
            case s5x3 =>
              simp only [List.take_succ_cons, List.take_zero]
              repeat still_step
              exact rfl
            case n5x3 =>
            have P12 := HP.out.drew.below hb12
            clear hb12 HP P q0 q1 q2 q3 q4 q5 q6 q7
            obtain ⟨w15, vb2, hrun, g9, b9⟩ := app_gj P12.gj (by have := P12.rw.lt; omega) ((j : Nat) : Int) hL8
            have P14 := P12.app b9 g9
            go_wp2_with (at_builtin; refine Lib.wpList_append_run _ rfl _ _ _ _ rfl _ _ rfl rfl _ _ hrun ?_; clear hrun)
            go_roundw
            case rel => exact ⟨j + 1, vb2, HJ.out, by first | rfl | (rw [W9]; rfl), by first | (rw [HT1.out]) | (rw [← HT1.out, hZ4.out]), rfl, by rw [hbn]; exact P14.congr (fun c _ => sp_no25 ho) (fun c hc => HV9.out c hc)⟩
            case measure => first | exact meas_lt8 HJ.out | (rw [W9]; exact meas_lt8 HJ.out)
          · have hq2 := (hqm.2 hcut).symm
            have D3 : decide (((l : Nat) : Int) < ((x : Nat) : Int) + ((b : Nat) : Int)) = false := decide_eq_false (by omega)
            have HQ9 : Hid (b = q) := hq2
            clear hcut hq2
            clear hqm hxq hjl hyx hgb hg0 hmin hB1 hB2 hB3 hB4 hxl hq0 hqb htx hj2 hb2 hl2 hF HS44 lHS lB hwh hj hjn hcap
            clear T0
            generalize le25 (fun c => F (t + q + c)) 4 = rd9 at HN E1 E2 heq
            generalize bsm25 HS j q (fun c => F (t + c)) = bs9 at HU E1 E2 heq
            clear heq
            have hqb9 := HQ9.out
            clear HQ9 hq
            subst hqb9
            have W1 := HW1.out
            have W2 := HW2.out
            have W3 := HW3.out
            have W4 := HW4.out
            have W9 := HW9.out
            generalize hz4 : t + b + 4 = z4 at *
            generalize hz : t + b = z at *
            have V3 : IntKind.i64.wrap (((t : Nat) : Int) + ((b : Nat) : Int)) = ((z : Nat) : Int) := (i64w25 _).trans W3
            have V4 : IntKind.i64.wrap (((z : Nat) : Int) + 4) = ((z4 : Nat) : Int) := (i64w25 _).trans W4
            go_wp2_with (go_at_call 28; (with_reducible refine (c2.out _).mono ?_); rintro e w10 ⟨rfl, hw10⟩; have hw10 := hw10.symm; subst hw10; clear c2)
            refine region_planI (fun _ => True) [0, 1, 2, 3, 4, 5, 6, 7, 8, 9, 10, 11, 12, 13, 14, 15, 16, 18, 19, 20, 21, 22, 23, 24, 25, 26, 17, 27, 28, 29, 30] [5, 20, 0, 0, 2] 117 trivial (by kernel_rfl) (by kernel_rfl) (fun _ a d v _ h => by cases d <;> exact h) ?_
            simp only [atI, List.getElem?_cons_zero, List.getElem?_cons_succ]
            refine planH_step ?A1x4 rfl (fun w' hS => ?s1x4) rfl (fun K hK => ?n1x4)
            case s1x4 =>
              simp only [List.take_succ_cons, List.take_zero]
              repeat still_step
              exact rfl
            case n1x4 =>
            go_simp
            go_wp2
            refine hK _ _ trivial ?_
            clear hK K
            refine planH_step ?A2x4 rfl (fun w' hS => ?s2x4) rfl (fun K hK => ?n2x4)
            case s2x4 =>
              simp only [List.take_succ_cons, List.take_zero]
              repeat still_step
              exact rfl
            case n2x4 =>
            go_simp
            go_wp2_with (go_at_call 42; (with_reducible refine (HN.out _ HP.out.drew.bel).mono ?_); rintro e w11 ⟨rfl, hw11⟩; have hw11 := hw11.symm; subst hw11; clear HN)
            refine hK _ _ trivial ?_
            clear hK K
            refine planH_step ?A3x4 rfl (fun w' hS => ?s3x4) rfl (fun K hK => ?n3x4)
            case s3x4 =>
              simp only [List.take_zero]
              repeat still_step
              exact rfl
            case n3x4 =>
            go_simp
            go_wp2_with (go_at_call 31; (with_reducible refine (HU.out _ HP.out.drew.bel).mono ?_); rintro e w12 ⟨gg, rfl, hb12, hn12⟩; clear HU)
            refine hK _ _ trivial ?_
            clear hK K
            refine planH_step ?A4x4 rfl (fun w' hS => ?s4x4) rfl (fun K hK => ?n4x4)
            case s4x4 =>
              simp only [List.take_zero]
              repeat still_step
              exact rfl
            case n4x4 =>
            go_simp
            go_wp2_with (go_at_call 42; (with_reducible refine hn12.mono ?_); rintro e w13 ⟨rfl, hw13⟩; have hw13 := hw13.symm; subst hw13; clear hn12)
            refine hK _ _ trivial ?_
            clear hK K
            refine planH_last ?A5x4 rfl (fun w' hS => ?s5x4) rfl ?n5x4
            case s5x4 =>
              simp only [List.take_succ_cons, List.take_zero]
              repeat still_step
              exact rfl
            case n5x4 =>
            have P12 := HP.out.drew.below hb12
            clear hb12 HP P q0 q1 q2 q3 q4 q5 q6 q7
            obtain ⟨w15, vb2, hrun, g9, b9⟩ := app_gj P12.gj (by have := P12.rw.lt; omega) ((j : Nat) : Int) hL8
            have P14 := P12.app b9 g9
            go_wp2_with (at_builtin; refine Lib.wpList_append_run _ rfl _ _ _ _ rfl _ _ rfl rfl _ _ hrun ?_; clear hrun)
            go_roundw
            case rel => exact ⟨j + 1, vb2, HJ.out, by first | rfl | (rw [W9]; rfl), by first | (rw [HT1.out]) | (rw [← HT1.out, hZ4.out]), rfl, by rw [hbn]; exact P14.congr (fun c _ => sp_no25 ho) (fun c hc => HV9.out c hc)⟩
            case measure => first | exact meas_lt8 HJ.out | (rw [W9]; exact meas_lt8 HJ.out)
      · skip
        have ho : okb25 n F HS l b j = false := by
          unfold okb25
          rw [ht.out, hq.out, decide_eq_false hwh]
          rfl
        have HV9 : Hid (∀ c, c < (bl25 n F HS l b j).length + 1 → (fun i => if i < (bl25 n F HS l b j).length then blv25 n F HS l b j i else ((j : Nat) : Int)) c = blv25 n F HS l b (j + 1) c) := fun c hc => by
          have h9 := blv_no25 (i := c) ho
          rw [if_pos (by omega : c ≤ (bl25 n F HS l b j).length)] at h9
          rw [← h9]
          show (if _ then _ else _) = _
          by_cases h8 : c < (bl25 n F HS l b j).length
          · rw [if_pos h8, if_pos h8]
          · rw [if_neg h8, if_neg h8, if_pos (by omega)]
        have hbn : (bl25 n F HS l b (j + 1)).length = (bl25 n F HS l b j).length + 1 := by rw [bl_no25 ho]; simp
        have HDW : Hid (decide (((t + q + 4 : Nat) : Int) ≤ ((n : Nat) : Int)) = false) := decide_eq_false (by omega)
        have HT1 : Hid (t + q + 4 = en25 l b (j + 1)) := by
          show _ = _
          rw [HE2.out, ht.out, hq.out]
        by_cases hcut : l < x + b
        · have hq2 := hqm.1 hcut
          have D3 : decide (((l : Nat) : Int) < ((x : Nat) : Int) + ((b : Nat) : Int)) = true := decide_eq_true (by omega)
          have HW5 : Hid (wrap64 (((l : Nat) : Int) - ((x : Nat) : Int)) = ((q : Nat) : Int)) := by
            show _ = _
            have e9 : ((l : Nat) : Int) - ((x : Nat) : Int) = ((q : Nat) : Int) := by omega
            rw [e9]
            exact wrn25 (by omega)
          have W5 := HW5.out
          clear hcut hq2
          clear hqm hxq hjl hyx hgb hg0 hmin hB1 hB2 hB3 hB4 hxl hq0 hqb htx hj2 hb2 hl2 hF hwh hj hjn hcap T0
          have W1 := HW1.out
          have W2 := HW2.out
          have W3 := HW3.out
          have W4 := HW4.out
          have W9 := HW9.out
          generalize hz4 : t + q + 4 = z4 at *
          generalize hz : t + q = z at *
          have V3 : IntKind.i64.wrap (((t : Nat) : Int) + ((q : Nat) : Int)) = ((z : Nat) : Int) := (i64w25 _).trans W3
          have V4 : IntKind.i64.wrap (((z : Nat) : Int) + 4) = ((z4 : Nat) : Int) := (i64w25 _).trans W4
          have hdw := HDW.out
          obtain ⟨Z4, hZ4⟩ : ∃ Z : Int, Hid (((z4 : Nat) : Int) = Z) := ⟨_, rfl⟩
          rw [hZ4.out] at hdw W4 V4
          clear HDW
          go_wp2_with (go_at_call 28; (with_reducible refine (c2.out _).mono ?_); rintro e w10 ⟨rfl, hw10⟩; have hw10 := hw10.symm; subst hw10; clear c2)
          go_quiet (fail)
          have P12 := HP.out.drewN nq
          clear HP P q0 q1 q2 q3 q4 q5 q6 q7
          obtain ⟨w15, vb2, hrun, g9, b9⟩ := app_gj P12.gj (by have := P12.rw.lt; omega) ((j : Nat) : Int) hL8
          have P14 := P12.app b9 g9
          go_wp2_with (at_builtin; refine Lib.wpList_append_run _ rfl _ _ _ _ rfl _ _ rfl rfl _ _ hrun ?_; clear hrun)
          go_roundw
          case rel => exact ⟨j + 1, vb2, HJ.out, by first | rfl | (rw [W9]; rfl), by first | (rw [HT1.out]) | (rw [← HT1.out, hZ4.out]), rfl, by rw [hbn]; exact P14.congr (fun c _ => sp_no25 ho) (fun c hc => HV9.out c hc)⟩
          case measure => first | exact meas_lt8 HJ.out | (rw [W9]; exact meas_lt8 HJ.out)
        · have hq2 := (hqm.2 hcut).symm
          have D3 : decide (((l : Nat) : Int) < ((x : Nat) : Int) + ((b : Nat) : Int)) = false := decide_eq_false (by omega)
          have HQ9 : Hid (b = q) := hq2
          clear hcut hq2
          clear hqm hxq hjl hyx hgb hg0 hmin hB1 hB2 hB3 hB4 hxl hq0 hqb htx hj2 hb2 hl2 hF hwh hj hjn hcap T0
          have hqb9 := HQ9.out
          clear HQ9 hq
          subst hqb9
          have W1 := HW1.out
          have W2 := HW2.out
          have W3 := HW3.out
          have W4 := HW4.out
          have W9 := HW9.out
          generalize hz4 : t + b + 4 = z4 at *
          generalize hz : t + b = z at *
          have V3 : IntKind.i64.wrap (((t : Nat) : Int) + ((b : Nat) : Int)) = ((z : Nat) : Int) := (i64w25 _).trans W3
          have V4 : IntKind.i64.wrap (((z : Nat) : Int) + 4) = ((z4 : Nat) : Int) := (i64w25 _).trans W4
          have hdw := HDW.out
          obtain ⟨Z4, hZ4⟩ : ∃ Z : Int, Hid (((z4 : Nat) : Int) = Z) := ⟨_, rfl⟩
          rw [hZ4.out] at hdw W4 V4
          clear HDW
          go_wp2_with (go_at_call 28; (with_reducible refine (c2.out _).mono ?_); rintro e w10 ⟨rfl, hw10⟩; have hw10 := hw10.symm; subst hw10; clear c2)
          go_quiet (fail)
          have P12 := HP.out.drewN nq
          clear HP P q0 q1 q2 q3 q4 q5 q6 q7
          obtain ⟨w15, vb2, hrun, g9, b9⟩ := app_gj P12.gj (by have := P12.rw.lt; omega) ((j : Nat) : Int) hL8
          have P14 := P12.app b9 g9
          go_wp2_with (at_builtin; refine Lib.wpList_append_run _ rfl _ _ _ _ rfl _ _ rfl rfl _ _ hrun ?_; clear hrun)
          go_roundw
          case rel => exact ⟨j + 1, vb2, HJ.out, by first | rfl | (rw [W9]; rfl), by first | (rw [HT1.out]) | (rw [← HT1.out, hZ4.out]), rfl, by rw [hbn]; exact P14.congr (fun c _ => sp_no25 ho) (fun c hc => HV9.out c hc)⟩
          case measure => first | exact meas_lt8 HJ.out | (rw [W9]; exact meas_lt8 HJ.out)
    · have hin2 : j = nb := by omega
      have ib : ¬ ((j : Nat) : Int) < (nb : Int) := by omega
      have D9 : decide (((j : Nat) : Int) < (nb : Int)) = false := decide_eq_false ib
      rw [hin2, ← hnb9.out] at P
      obtain ⟨⟨z0, z1, z2, z3, z4, z5, z6, z7⟩, ⟨f0, f1, f2, f3, f4, f5, f6, f7⟩, -⟩ := zero_facts25 P.zer
      have HZ9 := P
      clear hj hin2 hjn HP
      go_wp2_with (go_at_call 28; (with_reducible refine (c2.out _).mono ?_); rintro e w10 ⟨rfl, hw10⟩; have hw10 := hw10.symm; subst hw10; clear c2)
      have hst9 := store8_25 P.zer (.int .i64 (f : Int)) (.int .i64 (k : Int)) (.int .i64 (m : Int)) (.int .i64 (i : Int)) (.int .i64 (s : Int)) (.int .i64 (l : Int)) (.int .i64 (b : Int)) (.int .u64 (st : Int))
      refine bodyPost_ret (results_crt4_25 rfl _ _ w.heap.size _ _ _ _ rfl hst9.1 Tryd.underlying26 rfl info_rhead25) rfl ?_
      rw [← hnb9.out]
      have ho9 := hst9.2
      refine ⟨g, _, rfl, P.bel.trans (ho9.below (Nat.le_refl _)), Nat.le_of_lt (Nat.lt_trans P.lz P.lt), (P.rw.of_block (ho9.2.2 _ (Nat.ne_of_gt (Nat.lt_trans P.lz P.lt)))).congr (fun c hc => by
        unfold sp25
        rw [if_pos (Nat.lt_of_lt_of_le hc (nb_all25 HH.out.1))]), P.gj.keep ho9.kp.ke (fun x hx e => by have : x = w.heap.size := e; have := P.lz; have := P.lt; omega)⟩
end Go.Proofs.YtehbiccpbopkfaaDoor
namespace Go.Proofs.YtehbiccpbopkfaaDoor
open Go.RowKit Gf2
set_option linter.unusedVariables false

-- layer 25: both sides' ReadHead and Read, side by side
/-- a list of bytes that lies from block lo on, or nil. -/
def Sv25 (lo : Nat) (W : World) (v : Value) (n : Nat) (G : Nat → Nat) : Prop := (n = 0 ∧ v = .slice none 0 0) ∨ ∃ g, lo ≤ g ∧ v = .slice (some ⟨g, 0, none⟩) n n ∧ Rw W g n G
theorem Sv25.below {lo : Nat} {W W' : World} {v : Value} {n : Nat} {G : Nat → Nat} (h : Sv25 lo W v n G) (hb : Below W.heap.size W W') : Sv25 lo W' v n G := by
  rcases h with h | ⟨g, h1, h2, h3⟩
  · exact .inl h
  · exact .inr ⟨g, h1, h2, h3.of_block (hb.block _ h3.lt)⟩
theorem Sv25.only {lo x : Nat} {W W' : World} {v : Value} {n : Nat} {G : Nat → Nat} (h : Sv25 lo W v n G) (ho : Only x W W') (hx : x < lo) : Sv25 lo W' v n G := by
  rcases h with h | ⟨g, h1, h2, h3⟩
  · exact .inl h
  · exact .inr ⟨g, h1, h2, h3.of_block (ho.2.2 _ (by omega))⟩
theorem nil_rb25 (w : World) : Rb w (.slice none 0 0) 0 (fun _ => 0) := ⟨by decide, fun i hi => absurd hi (Nat.not_lt_zero _), none, 0, rfl, Nat.le_refl _, by decide, fun h => absurd h (Nat.lt_irrefl _)⟩
theorem Sv25.rb {lo : Nat} {W : World} {v : Value} {n : Nat} {G : Nat → Nat} (h : Sv25 lo W v n G) : Rb W v n G := by
  rcases h with ⟨rfl, rfl⟩ | ⟨g, h1, rfl, h3⟩
  · exact (nil_rb25 W).congr (fun i hi => absurd hi (Nat.not_lt_zero _))
  · exact h3.rb0
theorem gj_low25 {lo lo' : Nat} {W : World} {v : Value} {L : Nat} {S : Nat → Int} (h : Gj lo W v L S) (hl : lo' ≤ lo) : Gj lo' W v L S := by
  rcases h with h | ⟨g, C, F, h1, h2, h3, h4⟩
  · exact .inl h
  · exact .inr ⟨g, C, F, h1, h2, Nat.le_trans hl h3, h4⟩
theorem gj_only25 {lo x : Nat} {W W' : World} {v : Value} {L : Nat} {S : Nat → Int} (h : Gj lo W v L S) (ho : Only x W W') (hx : x < lo) : Gj lo W' v L S :=
  h.keep ho.kp.ke (fun y hy e => by have : y = x := e; omega)
/-- what a Read answers. -/
def Ra25 (f k m i s l b : Int) (st : Nat) (c : Int) (nS : Nat) (G : Nat → Nat) (nL : Nat) (Sv : Nat → Int) (w w' : World) (e : Ending) : Prop :=
  ∃ sv bv, e = .returned (.tuple #[hd25 f k m i s l b st, sv, bv, .int .i64 c]) ∧ Below w.heap.size w w' ∧ Sv25 w.heap.size w' sv nS G ∧ Gj w.heap.size w' bv nL Sv
theorem heads25 (n : Nat) (F : Nat → Nat) (hF : ∀ c, c < n → F c < 256) : ∃ (f k m i s l b : Int) (st : Nat) (c : Int),
    (∀ v w, Rb w v n F → Fsh w → Calls Tryd.prog 33 #[v] w fun e w' => e = .returned (.tuple #[hd25 f k m i s l b st, .int .i64 c]) ∧ Below w.heap.size w w') ∧
    (∀ v w, Rb w v n F → Calls Tryd.prog 32 #[v] w fun e w' => e = .returned (.tuple #[hd25 f k m i s l b st, .int .i64 c]) ∧ Below w.heap.size w w') ∧
    ∃ r : Bool, (∀ W, Calls Tryd.prog 34 #[hd25 f k m i s l b st] W fun e w' => e = .returned (.bool r) ∧ Below W.heap.size W w') ∧
      (∃ (f k m i s l b : Int) (st : Nat) (c : Int) (nS : Nat) (G : Nat → Nat) (nL : Nat) (Sv : Nat → Int),
        (∀ a cap w, Rb w (.slice a n cap) n F → Fsh w → Calls Tryd.prog 35 #[.slice a n cap] w (fun e w' => Ra25 f k m i s l b st c nS G nL Sv w w' e)) ∧
        (∀ a cap w, Rb w (.slice a n cap) n F → Calls Tryd.prog 36 #[.slice a n cap] w (fun e w' => Ra25 f k m i s l b st c nS G nL Sv w w' e))) := by
  obtain ⟨hd, c, hro, hp, hq⟩ := readHeads25 n F hF
  rcases hro with ⟨hc, rfl⟩ | ⟨rfl, hn, hg, hs, rfl⟩
  · refine ⟨0, 0, 0, 0, 0, 0, 0, 0, c, hp, hq, false, fun W => long25_zero W, 0, 0, 0, 0, 0, 0, 0, 0, c, 0, fun _ => 0, 0, fun _ => 0, fun a cap w h hT => ?_, fun a cap w h => ?_⟩
    · have c1 : ∀ W, Below w.heap.size w W → Calls Tryd.prog 44 #[.slice a n cap] W fun e w' => e = .returned (.tuple #[hd25 0 0 0 0 0 0 0 0, .int .i64 c]) ∧ Below W.heap.size W w' := fun W hb =>
        readable25_no _ n F _ c W (h.below hb) hc rfl (fun X hx => hp _ X ((h.below hb).below hx) ((hT.below hb).below hx))
      refine (read25_no _ c w hc c1).mono ?_
      rintro e w' ⟨rfl, hb⟩
      exact ⟨_, _, rfl, hb, .inl ⟨rfl, rfl⟩, .inl ⟨rfl, rfl⟩⟩
    · refine (rread25_no _ c w hc (fun W hb => hq _ W (h.below hb))).mono ?_
      rintro e w' ⟨rfl, hb⟩
      exact ⟨_, _, rfl, hb, .inl ⟨rfl, rfl⟩, .inl ⟨rfl, rfl⟩⟩
  · refine ⟨_, _, _, _, _, _, _, _, 0, hp, hq, decide (1048576 < rk25 F 24 8), fun W => long25_good _ _ _ _ _ _ _ _ W hg _ rfl, ?_⟩
    by_cases hL : 48 + rk25 F 24 8 + 4 * nb25 (rk25 F 24 8) (rk25 F 12 4) < n
    · refine ⟨0, 0, 0, 0, 0, 0, 0, 0, 252, 0, fun _ => 0, 0, fun _ => 0, fun a cap w h hT => ?_, fun a cap w h => ?_⟩
      · refine (read25_no _ 252 w (by decide) (fun W hb => readable25_long a n cap _ _ _ _ _ _ _ _ W hg hL (fun X hx => hp _ X ((h.below hb).below hx) ((hT.below hb).below hx)))).mono ?_
        rintro e w' ⟨rfl, hb⟩
        exact ⟨_, _, rfl, hb, .inl ⟨rfl, rfl⟩, .inl ⟨rfl, rfl⟩⟩
      · refine (rread25_long a n cap _ _ _ _ _ _ _ _ w hg hL (fun W hb => hq _ W (h.below hb))).mono ?_
        rintro e w' ⟨rfl, hb⟩
        exact ⟨_, _, rfl, hb, .inl ⟨rfl, rfl⟩, .inl ⟨rfl, rfl⟩⟩
    · refine ⟨((F 5 : Nat) : Int), ((rk25 F 6 2 : Nat) : Int), ((rk25 F 8 2 : Nat) : Int), ((rk25 F 10 2 : Nat) : Int), ((rk25 F 16 8 : Nat) : Int), ((rk25 F 24 8 : Nat) : Int), ((rk25 F 12 4 : Nat) : Int), rk25 F 32 8, 0, rk25 F 24 8, rs25 n F (hs25 F) (rk25 F 24 8) (rk25 F 12 4), (bl25 n F (hs25 F) (rk25 F 24 8) (rk25 F 12 4) (nb25 (rk25 F 24 8) (rk25 F 12 4))).length, blv25 n F (hs25 F) (rk25 F 24 8) (rk25 F 12 4) (nb25 (rk25 F 24 8) (rk25 F 12 4)), fun a cap w h hT => ?_, fun a cap w h => ?_⟩
      · obtain ⟨-, -, a9, c9, e9, -, -, h9⟩ := id h
        cases e9
        obtain ⟨fb, o, rfl, -, -⟩ := h9 (by omega)
        refine (read25_yes fb o n cap F _ _ _ _ _ _ _ _ w h hn hg hT (fun W hb => readable25_yes _ n cap _ _ _ _ _ _ _ _ W hg hL (fun X hx => hp _ X ((h.below hb).below hx) ((hT.below hb).below hx)))).mono ?_
        rintro e w' ⟨g, vb, rfl, hb, hg9, hr, hj⟩
        exact ⟨_, _, rfl, hb, .inr ⟨g, hg9, rfl, hr⟩, gj_low25 hj (by omega)⟩
      · obtain ⟨-, -, a9, c9, e9, -, -, h9⟩ := id h
        cases e9
        obtain ⟨fb, o, rfl, -, -⟩ := h9 (by omega)
        refine (rread25_yes fb o n cap F _ _ _ _ _ _ _ _ w h hn hg hs hL (fun W hb => hq _ W (h.below hb))).mono ?_
        rintro e w' ⟨g, vb, rfl, hb, hg9, hr, hj⟩
        exact ⟨_, _, rfl, hb, .inr ⟨g, hg9, rfl, hr⟩, gj_low25 hj (by omega)⟩
end Go.Proofs.YtehbiccpbopkfaaDoor
