import Derived.Test.YtefolifecbhgoaaGreatMbay
import Derived.Test.YtefolifecbhgoaaGreatMbaz
import Derived.Test.YtefolifecbhgoaaGreatMbba
import Derived.Test.YtefolifecbhgoaaGreatMbbf
import Derived.Test.YtefolifecbhgoaaGreatMbbk
import Derived.Test.YtefolifecbhgoaaGreatMbbn
namespace Go.Proofs.YtefolifecbhgoaaGreat
open Go.RowKit Gf2
set_option linter.unusedVariables false


theorem undraw17 {x y : World} (h : Below x.drew.heap.size x.drew y) : Below x.heap.size x y := ⟨h.os, h.tape, h.output, h.size, h.block⟩
structure Co (w : World) (c : Nat) (Fp FT : Nat → Prop) (p : Addr) (lo hi : Nat) (rows : Value) (t : Nat) (f : Int) (k m b N : Nat) (L : List (Nat × Ent)) : Prop where
  blk : w.heap[c]? = some (.cells #[.int .i64 f, .int .i64 (k : Int), .int .i64 (m : Int), .pointer (some p), rows, .pointer (some ⟨t, 0, none⟩)] 71 (0, 0))
  ks : Ks w p b lo hi
  kf : ∀ x, lo ≤ x → x < hi → Fp x ∧ ¬ FT x
  rs : Ll (fun x => ¬ Fp x ∨ FT x) w rows m (fun _ => k) (par11 f k)
  tv : Tv w FT t 16 N L
  tf : ∀ x, FT x → Fp x
  cf : Fp c ∧ ¬ FT c
  lt : ∀ x, Fp x → x < w.heap.size
  hf : f = 0 ∨ f = 1
  hk : 1 ≤ k
  hm : 1 ≤ m
  hs : k + m ≤ 256
def Cd (w : World) (c : Nat) (Fp : Nat → Prop) (f : Int) (k m b N : Nat) (L : List (Nat × Ent)) : Prop := ∃ FT p lo hi rows t, Co w c Fp FT p lo hi rows t f k m b N L
section
variable {w w' : World} {c : Nat} {Fp FT : Nat → Prop} {p : Addr} {lo hi : Nat} {rows : Value} {t : Nat} {f : Int} {k m b N : Nat} {L : List (Nat × Ent)}
theorem Co.ke {E : Nat → Prop} (h : Co w c Fp FT p lo hi rows t f k m b N L) (hk : Ke E w w') (hE : ∀ x, E x → ¬ Fp x) : Co w' c Fp FT p lo hi rows t f k m b N L := by
  refine ⟨(hk.2 c (h.lt c h.cf.1) (fun e => hE c e h.cf.1)).trans h.blk, h.ks.keep (Nat.le_trans h.ks.hi hk.size) (fun x h1 h2 => hk.2 x (h.lt x (h.kf x h1 h2).1) (fun e => hE x e (h.kf x h1 h2).1)), h.kf, h.rs.ke (hk.mono (fun x _ e => .inl (hE x e))), ?_, h.tf, h.cf, fun x hx => Nat.lt_of_lt_of_le (h.lt x hx) hk.size, h.hf, h.hk, h.hm, h.hs⟩
  obtain ⟨r, B, MB, K, mm, ov, hT⟩ := h.tv
  exact ⟨r, B, MB, K, mm, ov, hT.ke hk (fun x e hx => hE x e (h.tf x hx))⟩
theorem Co.below (h : Co w c Fp FT p lo hi rows t f k m b N L) (hb : Below w.heap.size w w') : Co w' c Fp FT p lo hi rows t f k m b N L := h.ke (ke_below hb (fun _ => False)) (fun _ e => e.elim)
theorem Co.c0 (h : Co w c Fp FT p lo hi rows t f k m b N L) : w.cell? ⟨c, 0, none⟩ = some (.int .i64 f) := by rw [cell_of_row _ _ 0 _ _ _ h.blk]; rfl
theorem Co.c1 (h : Co w c Fp FT p lo hi rows t f k m b N L) : w.cell? ⟨c, 1, none⟩ = some (.int .i64 (k : Int)) := by rw [cell_of_row _ _ 1 _ _ _ h.blk]; rfl
theorem Co.c2 (h : Co w c Fp FT p lo hi rows t f k m b N L) : w.cell? ⟨c, 2, none⟩ = some (.int .i64 (m : Int)) := by rw [cell_of_row _ _ 2 _ _ _ h.blk]; rfl
theorem Co.c3 (h : Co w c Fp FT p lo hi rows t f k m b N L) : w.cell? ⟨c, 3, none⟩ = some (.pointer (some p)) := by rw [cell_of_row _ _ 3 _ _ _ h.blk]; rfl
theorem Co.c4 (h : Co w c Fp FT p lo hi rows t f k m b N L) : w.cell? ⟨c, 4, none⟩ = some rows := by rw [cell_of_row _ _ 4 _ _ _ h.blk]; rfl
theorem Co.c5 (h : Co w c Fp FT p lo hi rows t f k m b N L) : w.cell? ⟨c, 5, none⟩ = some (.pointer (some ⟨t, 0, none⟩)) := by rw [cell_of_row _ _ 5 _ _ _ h.blk]; rfl
end
theorem co_made {w w1 w2 w3 : World} {p : Addr} {b k m t : Nat} {f : Int} {rows : Value} (b1 : Below w.heap.size w w1) (hK : Ks w1 p b w.heap.size w1.heap.size) (hA : Ans w1 w2 rows m k (par11 f k)) (b3 : Below w2.heap.size w2 w3) (hT : Tv w3 (fun q => w2.heap.size ≤ q ∧ q < w3.heap.size) t 16 0 [])
    (hf : f = 0 ∨ f = 1) (hk : 1 ≤ k) (hm : 1 ≤ m) (hs : k + m ≤ 256) :
    Co (w3.alloc (.cells #[.int .i64 f, .int .i64 (k : Int), .int .i64 (m : Int), .pointer (some p), rows, .pointer (some ⟨t, 0, none⟩)] 71)) w3.heap.size (fun x => w.heap.size ≤ x ∧ x < w3.heap.size + 1) (fun q => w2.heap.size ≤ q ∧ q < w3.heap.size) p w.heap.size w1.heap.size rows t f k m b 0 [] ∧
    Below w.heap.size w (w3.alloc (.cells #[.int .i64 f, .int .i64 (k : Int), .int .i64 (m : Int), .pointer (some p), rows, .pointer (some ⟨t, 0, none⟩)] 71)) := by
  generalize hW : w3.alloc (.cells #[.int .i64 f, .int .i64 (k : Int), .int .i64 (m : Int), .pointer (some p), rows, .pointer (some ⟨t, 0, none⟩)] 71) = W
  have b4 : Below w3.heap.size w3 W := by rw [← hW]; exact (Below.refl _ _).alloc (Nat.le_refl _) _
  have hsz : W.heap.size = w3.heap.size + 1 := by rw [← hW]; simp
  have z1 := b1.size
  have z2 := hA.2.size
  have z3 := b3.size
  have b24 : Below w2.heap.size w2 W := b3.trans (b4.mono z3)
  have b14 : Below w1.heap.size w1 W := hA.2.trans (b24.mono z2)
  have b04 : Below w.heap.size w W := b1.trans (b14.mono z1)
  refine ⟨⟨?_, hK.under b14, fun x h1 h2 => ⟨⟨h1, by omega⟩, fun e => by omega⟩, ?_, ?_, fun x hx => ⟨by omega, by omega⟩, ⟨⟨by omega, by omega⟩, fun e => by omega⟩, fun x hx => by omega, hf, hk, hm, hs⟩, b04⟩
  · rw [← hW]; exact heap_alloc_new _ _
  · obtain ⟨⟨B, hC⟩, -⟩ := hA
    exact (hC.below b24).ll (fun x h1 h2 e => by
      rcases e with e | e
      · exact e ⟨by omega, by omega⟩
      · omega)
  · obtain ⟨r, B, MB, K, mm, ov, hT⟩ := hT
    exact ⟨r, B, MB, K, mm, ov, hT.below b4⟩
theorem Ans.form17 {w w' : World} {v : Value} {m k : Nat} {S : Nat → Nat → Nat} (h : Ans w w' v m k S) : ∃ a c, v = .slice a m c := by
  obtain ⟨⟨B, hC⟩, -⟩ := h
  obtain ⟨a, c, e, -⟩ := hC.form
  exact ⟨a, c, e⟩
structure Nw (w w' : World) (c : Nat) (f : Int) (k m b : Nat) : Prop where
  cd : Cd w' c (fun x => w.heap.size ≤ x ∧ x < w'.heap.size) f k m b 0 []
  bel : Below w.heap.size w w'
set_option maxHeartbeats 2000000 in
set_option maxRecDepth 100000 in
theorem new17 (f : Int) (b k m : Nat) (w : World) (hf : f = 0 ∨ f = 1) (hb : b ≤ 2) (hk : 1 ≤ k) (hm : 1 ≤ m) (hs : k + m ≤ 256) :
    Calls Tryz.prog 19 #[.int .i64 f, .int .i64 (b : Int), .int .i64 (k : Int), .int .i64 (m : Int)] w fun e w' => ∃ c, e = .returned (.tuple #[.pointer (some ⟨c, 0, none⟩), .int .i64 0]) ∧ Nw w w' c f k m b := by
  have c1 := knew_ok b w hb
  have c2 := fun x => parity11_yes f k m x hf hk hm hs
  have c3 := fun x => new12_ok 16 x (by decide) (by decide)
  have HE : Hid (∀ w1 p w2 rows, Below w.heap.size w w1 → Ks w1 p b w.heap.size w1.heap.size → Ans w1 w2 rows m k (par11 f k) → ∀ w3, w3 = ((w2.alloc (.map #[] 0)).alloc (.cells #[.map (some w2.heap.size), .pointer none] 170)).alloc (.cells #[.int .i64 16, .pointer (some ⟨w2.heap.size + 1, 0, none⟩), .int .i64 0, .slice none 0 0] 115) →
      ∀ W, W = w3.alloc (.cells #[.int .i64 f, .int .i64 (k : Int), .int .i64 (m : Int), .pointer (some p), rows, .pointer (some ⟨w2.heap.size + 1 + 1, 0, none⟩)] 71) → Nw w W w3.heap.size f k m b) := fun w1 p w2 rows b1 hK hA w3 hw3 W hW => by
    have hT := new12_tt w2 16 (by decide) (by decide)
    have z3 : w3.heap.size = w2.heap.size + 3 := by rw [hw3]; simp
    have b3 : Below w2.heap.size w2 w3 := by rw [hw3]; exact (((Below.refl _ _).alloc (Nat.le_refl _) _).alloc (by simp) _).alloc (by simp; omega) _
    have hT2 : Tv w3 (fun q => w2.heap.size ≤ q ∧ q < w3.heap.size) (w2.heap.size + 1 + 1) 16 0 [] := by
      rw [z3, hw3]
      exact ⟨_, _, _, _, _, _, hT⟩
    obtain ⟨h1, h2⟩ := co_made b1 hK hA b3 hT2 hf hk hm hs
    rw [← hW] at h1 h2
    have hz : W.heap.size = w3.heap.size + 1 := by rw [hW]; simp
    exact ⟨⟨_, _, _, _, _, _, by rw [hz]; exact h1⟩, h2⟩
  have hf1 : (f != 0 && f != 1) = false := by rcases hf with rfl | rfl <;> rfl
  clear hb hk hm hs
  rcases hf with rfl | rfl
  all_goals
    go_enter Tryz.func19, Tryz.ntmps19
    go_wp2_with (first
      | (go_at_call 29; (with_reducible refine c1.mono ?_); rintro e w1 ⟨p, rfl, hK, hb1⟩; clear c1)
      | (go_at_call 30; (with_reducible refine (c2 _).mono ?_); rintro e w2 ⟨rows, rfl, hA⟩; clear c2; obtain ⟨ra, rc, hra⟩ := hA.form17; subst hra)
      | (go_at_call 31; (with_reducible refine (c3 _).mono ?_); rintro e w3 ⟨rfl, hw3⟩; have H3 := HE.out w1 p w2 _ hb1 hK hA w3 hw3; clear c3 hw3 hA hK hb1 HE))
    go_ret2
    exact ⟨_, rfl, H3 _ rfl⟩
end Go.Proofs.YtefolifecbhgoaaGreat
namespace Go.Proofs.YtefolifecbhgoaaGreat
open Go.RowKit Gf2
set_option linter.unusedVariables false


theorem scf_keep17 {n : Nat → Nat} {l : Nat} (hl : l ≠ 0) : ∀ c, (∀ i, i < c → n i = 0 ∨ n i = l) → scf (some l) n c = some l
  | 0, _ => rfl
  | c + 1, h => by
    have ih := scf_keep17 hl c (fun i hi => h i (by omega))
    rcases h c (Nat.lt_succ_self _) with e | e
    · exact scf_zero ih e
    · rw [scf, ih]; simp only; rw [if_neg (by omega), if_neg (by omega), e]
theorem scf_any17 {n : Nat → Nat} {l : Nat} (hl : l ≠ 0) : ∀ c, (∀ i, i < c → n i = 0 ∨ n i = l) → scf (some 0) n c = some l ∨ (scf (some 0) n c = some 0 ∧ ∀ i, i < c → n i = 0)
  | 0, _ => .inr ⟨rfl, fun i hi => absurd hi (Nat.not_lt_zero _)⟩
  | c + 1, h => by
    rcases scf_any17 hl c (fun i hi => h i (by omega)) with ih | ⟨ih, hz⟩
    · refine .inl ?_
      rcases h c (Nat.lt_succ_self _) with e | e
      · exact scf_zero ih e
      · rw [scf, ih]; simp only; rw [if_neg (by omega), if_neg (by omega), e]
    · rcases h c (Nat.lt_succ_self _) with e | e
      · refine .inr ⟨scf_zero ih e, fun i hi => ?_⟩
        by_cases hic : i = c
        · rw [hic]; exact e
        · exact hz i (by omega)
      · refine .inl ?_
        rw [scf, ih]; simp only; rw [if_neg (by omega), if_neg (by omega), e]
theorem scf_has17 {n : Nat → Nat} {l c : Nat} (hl : l ≠ 0) (h : ∀ i, i < c → n i = 0 ∨ n i = l) (hx : ∃ i, i < c ∧ n i = l) : scf (some 0) n c = some l := by
  rcases scf_any17 hl c h with e | ⟨-, e⟩
  · exact e
  · obtain ⟨i, hi, e2⟩ := hx
    have := e i hi
    omega
theorem prm17 {f : Int} {k m : Nat} (hf : f = 0 ∨ f = 1) (hk : 1 ≤ k) (hm : 1 ≤ m) (hs : k + m ≤ 256) : prm f (k : Int) (m : Int) = 0 :=
  prm_ok.2 ⟨by omega, by omega, by omega, by omega, fun _ => by omega, fun e => by omega⟩
theorem ole17 {f : Int} {l : Nat} (hf : f = 0 ∨ f = 1) : ole f (some l) = 0 ∧ olv f (some l) = (l : Int) :=
  ⟨ole_even (fun e => by omega), olv_even (fun e => by omega)⟩
theorem wle17 {f : Int} {k m l : Nat} {n : Nat → Nat} (hf : f = 0 ∨ f = 1) (hk : 1 ≤ k) (hm : 1 ≤ m) (hs : k + m ≤ 256) (hl : 1 ≤ l) (hn : ∀ i, i < k + m → n i = l) : wle f (k : Int) (m : Int) (k + m) n = 0 ∧ wlv f (k : Int) (m : Int) (k + m) n = (l : Int) := by
  have ha : aeb n (k + m) = false := by
    cases e : aeb n (k + m) with
    | false => rfl
    | true =>
      obtain ⟨i, hi, e2⟩ := aeb_iff.1 e
      have := hn i hi
      omega
  have hc : scf (some 0) n (k + m) = some l := scf_has17 (by omega) (fun i hi => .inr (hn i hi)) ⟨0, by omega, hn 0 (by omega)⟩
  unfold wle wlv
  rw [prm17 hf hk hm hs, if_pos rfl, if_pos (show ((k + m : Nat) : Int) = (k : Int) + (m : Int) by omega), ha, if_neg (by decide), hc, if_pos rfl, if_pos (show ((k + m : Nat) : Int) = (k : Int) + (m : Int) by omega), if_neg (by decide)]
  exact ole17 hf
theorem headL17 (b o n cx m : Nat) (hm : m ≤ cx) (W : World) : (Instr.slice 33 (.slice (some ⟨b, o, none⟩) n cx) none (some (.int .i64 (m : Int))) none).run Tryz.prog W = .ok (.slice (some ⟨b, o, none⟩) m cx) W := by
  have he : Tryz.prog.elem 33 = 27 := by kernel_rfl
  have hsz : ∀ W : World, (sizeOf 27).run Tryz.prog W = .ok 1 W := fun W => by
    obtain ⟨i, hi, -, hs, -⟩ := elm_l8.info
    simp [sizeOf, typeInfo, hi, hs]
  have hu : Tryz.prog.underlying 33 = some (.slice (Tryz.prog.elem 33)) := by rw [he]; exact Tryz.underlying33
  have h := run_slice_h (P := Tryz.prog) (w := W) 33 (some ⟨b, o, none⟩) n cx hu .i64 (m : Int) (by omega) (by omega)
  have e : (if cx = 0 then some (⟨b, o, none⟩ : Addr) else (some (⟨b, o, none⟩ : Addr)).map (·.add 0)) = some ⟨b, o, none⟩ := by
    split
    · rfl
    · show some ((⟨b, o, none⟩ : Addr).add 0) = _
      rw [Addr.add_lit, Nat.add_zero]
  rw [h, he, hsz]
  simp only [Result.andThen, sliced, Int.toNat_natCast, Nat.zero_mul, Nat.sub_zero, e]
theorem fromL17 (b o n cx m : Nat) (hm : m ≤ n) (hn : n ≤ cx) (hc : m < cx) (W : World) : (Instr.slice 33 (.slice (some ⟨b, o, none⟩) n cx) (some (.int .i64 (m : Int))) none none).run Tryz.prog W = .ok (.slice (some ⟨b, o + m, none⟩) (n - m) (cx - m)) W := by
  have he : Tryz.prog.elem 33 = 27 := by kernel_rfl
  have hsz : ∀ W : World, (sizeOf 27).run Tryz.prog W = .ok 1 W := fun W => by
    obtain ⟨i, hi, -, hs, -⟩ := elm_l8.info
    simp [sizeOf, typeInfo, hi, hs]
  have hu : Tryz.prog.underlying 33 = some (.slice (Tryz.prog.elem 33)) := by rw [he]; exact Tryz.underlying33
  have h := run_slice_l (P := Tryz.prog) (w := W) 33 (some ⟨b, o, none⟩) n cx hu .i64 (m : Int) (by omega) (by omega)
  rw [h, he, hsz]
  have e2 : (m : Int).toNat = m := by omega
  have e3 : (if cx = m then some (⟨b, o, none⟩ : Addr) else (some (⟨b, o, none⟩ : Addr)).map (·.add m)) = some ⟨b, o + m, none⟩ := by
    rw [if_neg (by omega)]
    show some ((⟨b, o, none⟩ : Addr).add m) = _
    rw [Addr.add_lit]
  simp only [Result.andThen, sliced, e2, Nat.mul_one, e3]
structure Sp17 (x : World) (g : Nat) (fr tq : Int) : Prop where
  blk : x.heap[g]? = some (.cells #[.int .i64 fr, .int .i64 tq] 65 (0, 0))
section
variable {x x' : World} {g : Nat} {fr tq : Int}
theorem Sp17.c0 (h : Sp17 x g fr tq) : x.cell? ⟨g, 0, none⟩ = some (.int .i64 fr) := by rw [cell_of_row _ _ 0 _ _ _ h.blk]; rfl
theorem Sp17.c1 (h : Sp17 x g fr tq) : x.cell? ⟨g, 1, none⟩ = some (.int .i64 tq) := by rw [cell_of_row _ _ 1 _ _ _ h.blk]; rfl
theorem Sp17.lt (h : Sp17 x g fr tq) : g < x.heap.size := (Array.getElem?_eq_some_iff.1 h.blk).1
theorem Sp17.ke {E : Nat → Prop} (h : Sp17 x g fr tq) (hk : Ke E x x') (hE : ¬ E g) : Sp17 x' g fr tq := ⟨(hk.2 g h.lt hE).trans h.blk⟩
theorem Sp17.below (h : Sp17 x g fr tq) (hb : Below x.heap.size x x') : Sp17 x' g fr tq := h.ke (ke_below hb (fun _ => False)) (fun e => e)
theorem sp17_new (w : World) (fr tq : Int) : Sp17 (w.alloc (.cells #[.int .i64 fr, .int .i64 tq] 65)) w.heap.size fr tq ∧ Below w.heap.size w (w.alloc (.cells #[.int .i64 fr, .int .i64 tq] 65)) :=
  ⟨⟨heap_alloc_new _ _⟩, (Below.refl _ _).alloc (Nat.le_refl _) _⟩
end
section
variable {w : World} {c : Nat} {Fp FT : Nat → Prop} {p : Addr} {lo hi : Nat} {rows : Value} {t : Nat} {f : Int} {k m b N : Nat} {L : List (Nat × Ent)}
set_option maxHeartbeats 2000000 in
set_option maxRecDepth 100000 in
theorem whole17 (h : Co w c Fp FT p lo hi rows t f k m b N L) (v : Value) (l : Nat) (n : Nat → Nat) (S : Nat → Nat → Nat) (hv : Lb w v (k + m) n S) (hl : 1 ≤ l) (hn : ∀ i, i < k + m → n i = l) :
    Calls Tryz.prog 24 #[.pointer (some ⟨c, 0, none⟩), v] w fun e w' => e = .returned (.tuple #[.int .i64 (l : Int), .int .i64 0]) ∧ Below w.heap.size w w' := by
  have hs := h.hs
  have c1 := whole16 f k m v (k + m) n w.drew ⟨by omega, by omega⟩ (hv.ln (by omega))
  obtain ⟨e1, e2⟩ := wle17 h.hf h.hk h.hm h.hs hl hn
  rw [e1, e2] at c1
  have q0 : w.drew.cell? ⟨c, 0, none⟩ = _ := h.c0
  have q1 : w.drew.cell? ⟨c, 1, none⟩ = _ := h.c1
  have q2 : w.drew.cell? ⟨c, 2, none⟩ = _ := h.c2
  have HO : Hid (Co w c Fp FT p lo hi rows t f k m b N L) := h
  clear h hv hn e1 e2 hs hl
  go_enter Tryz.func24, Tryz.ntmps24
  go_wp2
  refine region_planI (fun w' => w'.cell? ⟨c, 0, none⟩ = some (.int .i64 f) ∧ w'.cell? ⟨c, 1, none⟩ = some (.int .i64 (k : Int)) ∧ w'.cell? ⟨c, 2, none⟩ = some (.int .i64 (m : Int))) [0, 1, 2, 3, 4, 5, 6, 7, 8, 9, 10, 11, 12, 13, 14, 15, 16, 17] [13, 4] 24 ⟨q0, q1, q2⟩ (by kernel_rfl) (by kernel_rfl) (fun _ a d v _ h => by cases d <;> exact h) ?_
  simp only [atI, List.getElem?_cons_zero, List.getElem?_cons_succ]
  refine planH_step ?Aw0 rfl (fun w' hS => ?sw0) rfl (fun K hK => ?nw0)
  case sw0 =>
    obtain ⟨y0, y1, y2⟩ := hS
    simp only [List.take_succ_cons, List.take_zero]
    repeat still_step
    exact rfl
  case nw0 =>
  go_simp
  go_wp2_with (go_at_call 40; go_loud ((with_reducible refine c1.mono ?_); rintro e w1 ⟨rfl, hb0⟩; clear c1; have hb := undraw17 hb0; clear hb0; have HC := HO.out.below hb))
  refine hK _ _ ⟨HC.c0, HC.c1, HC.c2⟩ ?_
  clear hK K
  refine planH_last ?Aw1 rfl (fun w' hS => ?sw1) rfl ?nw1
  case sw1 =>
    obtain ⟨y0, y1, y2⟩ := hS
    simp only [List.take_succ_cons, List.take_zero]
    repeat still_step
    exact rfl
  case nw1 =>
  go_wp2
  go_ret2
  exact ⟨rfl, hb⟩
end
end Go.Proofs.YtefolifecbhgoaaGreat
namespace Go.Proofs.YtefolifecbhgoaaGreat
open Go.RowKit Gf2
set_option linter.unusedVariables false


section
variable {slo shi k m l : Nat} {w w' : World} {v : Value} {n C B : Nat → Nat} {S : Nat → Nat → Nat}
theorem Cs.at17 (h : Cs slo shi w v m n C B S) (h0 : 0 < m) : ∃ g cap, v = .slice (some ⟨g, 0, none⟩) m cap ∧ m ≤ cap ∧ cap ≤ big ∧ slo ≤ g ∧ g < shi ∧ (∀ i, i < m → B i ≠ g) ∧ ∀ i, i < m → w.cell? ⟨g, i, none⟩ = some (.slice (some ⟨B i, 0, none⟩) (n i) (C i)) := by
  obtain ⟨a, c, e, hc1, hc2, hf⟩ := h.form
  obtain ⟨g, e1, g1, g2, g3, g4⟩ := hf h0
  exact ⟨g, c, by rw [e, e1], hc1, hc2, g1, g2, g3, g4⟩
theorem Ll.head17 {E : Nat → Prop} {b o cap : Nat} (h : Ll E w (.slice (some ⟨b, o, none⟩) (k + m) cap) (k + m) n S) (h0 : 0 < k + m) : Ll E w (.slice (some ⟨b, o, none⟩) k cap) k n S := by
  obtain ⟨V, ⟨hb, a, cp, e, h5, h6, h4⟩, hV⟩ := h
  cases e
  obtain ⟨b', o', e, hl, hc⟩ := h4 h0
  cases e
  exact ⟨V, ⟨by omega, _, _, rfl, by omega, h6, fun _ => ⟨b, o, rfl, hl, fun i hi => hc i (by omega)⟩⟩, fun i hi => hV i (by omega)⟩
theorem Ll.tail17 {E : Nat → Prop} {b o cap : Nat} (h : Ll E w (.slice (some ⟨b, o, none⟩) (k + m) cap) (k + m) n S) (h0 : 0 < k + m) : Ll E w (.slice (some ⟨b, o + k, none⟩) m (cap - k)) m (fun i => n (k + i)) (fun i => S (k + i)) := by
  obtain ⟨V, ⟨hb, a, cp, e, h5, h6, h4⟩, hV⟩ := h
  cases e
  obtain ⟨b', o', e, hl, hc⟩ := h4 h0
  cases e
  exact ⟨fun i => V (k + i), ⟨by omega, _, _, rfl, by omega, by omega, fun _ => ⟨b, o + k, rfl, hl, fun i hi => by rw [Nat.add_assoc]; exact hc (k + i) (by omega)⟩⟩, fun i hi => hV (k + i) (by omega)⟩
theorem Cs.tdl17 {g cap : Nat} (h : Cs slo shi w (.slice (some ⟨g, 0, none⟩) (k + m) cap) (k + m) (fun _ => l) C B S) (h0 : 0 < k + m) :
    Dl w (.slice (some ⟨g, k, none⟩) m (cap - k)) m l (fun r => B (k + r)) (fun _ => 0) (fun b => C (k + inv9 m (fun r => B (k + r)) b)) (fun b => S (k + inv9 m (fun r => B (k + r)) b)) := by
  have inj : ∀ i j, i < m → j < m → B (k + i) = B (k + j) → i = j := fun i j hi hj e => by have := h.inj (k + i) (k + j) (by omega) (by omega) e; omega
  obtain ⟨g', cap', e, hc1, hc2, g1, g2, g3, g4⟩ := h.at17 h0
  cases e
  have hw := h.hw
  have hmb := h.mb
  refine ⟨⟨fun r => some ⟨B (k + r), 0, none⟩, fun r => C (k + r), ⟨by omega, _, _, rfl, by omega, by omega, fun h1 => ⟨g, k, rfl, ⟨by omega, fun ⟨r, hr, e⟩ => g3 (k + r) (by omega) e.symm⟩, fun i hi => g4 (k + i) (by omega)⟩⟩, fun r hr => ?_⟩, fun r hr => ?_, fun r s hr hs hrs => .inl (fun e => hrs (inj r s hr hs e))⟩
  · obtain ⟨r1, r2, r3, r4⟩ := h.row (k + r) (by omega)
    exact ⟨r3, r4.1, fun _ => rfl⟩
  · obtain ⟨r1, r2, r3, r4⟩ := h.row (k + r) (by omega)
    show Rw w (B (k + r)) (C (k + inv9 m (fun r => B (k + r)) (B (k + r)))) (S (k + inv9 m (fun r => B (k + r)) (B (k + r)))) ∧ 0 + l ≤ C (k + inv9 m (fun r => B (k + r)) (B (k + r)))
    rw [inv9_at (B := fun r => B (k + r)) inj hr]
    exact ⟨r4, by omega⟩
theorem Cs.part17 {T : Nat → Nat → Nat} (h : Cs slo shi w v (k + m) n C B S) (hk : Ke (fun x => ∃ r, r < m ∧ x = B (k + r)) w w') (hr : ∀ r, r < m → Rw w' (B (k + r)) (C (k + r)) (T (k + r))) (he : ∀ i, i < k → ∀ j, j < C i → S i j = T i j) : Cs slo shi w' v (k + m) n C B T := by
  refine h.turn (hk.mono (fun x _ ⟨r, hr, e⟩ => ⟨k + r, by omega, e⟩)) (fun i hi => ?_)
  by_cases hik : i < k
  · exact (hk.rw_ (h.row i hi).2.2.2 (fun ⟨r, hr, e⟩ => by have := h.inj i (k + r) hi (by omega) e; omega)).congr (he i hik)
  · have := hr (i - k) (by omega)
    rw [show k + (i - k) = i by omega] at this
    exact this
end
def enc17 (f : Int) (k fr tq : Nat) (S : Nat → Nat → Nat) (i j : Nat) : Nat := if k ≤ i ∧ fr ≤ j ∧ j < tq then ks (par11 f k (i - k)) S k j else S i j
def Pb17 (k m : Nat) (B : Nat → Nat) (x : Nat) : Prop := ∃ r, r < m ∧ x = B (k + r)
section
variable {w : World} {c : Nat} {Fp FT : Nat → Prop} {p : Addr} {lo hi : Nat} {rows : Value} {t : Nat} {f : Int} {k m b N : Nat} {L : List (Nat × Ent)} {slo shi l fr tq : Nat} {C B : Nat → Nat} {S : Nat → Nat → Nat} {v : Value}
theorem apply17 (h : Co w c Fp FT p lo hi rows t f k m b N L) {g cap : Nat} (hv : Cs slo shi w (.slice (some ⟨g, 0, none⟩) (k + m) cap) (k + m) (fun _ => l) C B S) (hd : ∀ x, Pb17 k m B x → ¬ Fp x) (h1 : fr ≤ tq) (h2 : tq ≤ l) :
    Calls Tryz.prog 41 #[.pointer (some p), rows, .slice (some ⟨g, 0, none⟩) k cap, .slice (some ⟨g, k, none⟩) m (cap - k), .agg #[.int .i64 (fr : Int), .int .i64 (tq : Int)]] w fun e w' => e = .returned (.int .i64 0) ∧ Ke (Pb17 k m B) w w' ∧ Cs slo shi w' (.slice (some ⟨g, 0, none⟩) (k + m) cap) (k + m) (fun _ => l) C B (enc17 f k fr tq S) := by
  have hs := h.hs
  have hk := h.hk
  have h0 : 0 < k + m := by omega
  have inj : ∀ i j, i < m → j < m → B (k + i) = B (k + j) → i = j := fun i j hi hj e => by have := hv.inj (k + i) (k + j) (by omega) (by omega) e; omega
  have hP : ∀ x, Eb m (fun r => B (k + r)) x → slo ≤ x ∧ x < shi := fun x ⟨r, hr, e⟩ => by
    obtain ⟨r1, r2, -⟩ := hv.row (k + r) (by omega)
    subst e
    exact ⟨r1, r2⟩
  have hS : Ll (Eb m (fun r => B (k + r))) w (.slice (some ⟨g, 0, none⟩) k cap) k (fun _ => l) S := by
    obtain ⟨g', cap', e, hc1, hc2, g1, g2, g3, g4⟩ := hv.at17 h0
    cases e
    have hw := hv.hw
    have hmb := hv.mb
    refine ⟨fun i => .slice (some ⟨B i, 0, none⟩) l (C i), ⟨by omega, _, _, rfl, by omega, hc2, fun _ => ⟨g, 0, rfl, ⟨by omega, fun ⟨r, hr, e⟩ => g3 (k + r) (by omega) e.symm⟩, fun i hi => by rw [Nat.zero_add]; exact g4 i (by omega)⟩⟩, fun i hi => ?_⟩
    obtain ⟨r1, r2, r3, r4⟩ := hv.row i (by omega)
    exact r4.re r3 r3 r4.1 (fun ⟨r, hr, e⟩ => by have := hv.inj i (k + r) (by omega) (by omega) e; omega)
  refine (kapply_ok p b lo hi m k l fr tq (fun r => B (k + r)) (fun _ => 0) _ (par11 f k) S _ rows _ _ w h.ks (by omega) (by omega) (fun r hr => ?_) (h.rs.mono (fun x _ e => .inl (hd x e))) hS (hv.tdl17 h0) h1 ?_).mono ?_
  · have q := hP _ ⟨r, hr, rfl⟩
    have q2 := hd _ ⟨r, hr, rfl⟩
    rcases Nat.lt_or_ge (B (k + r)) lo with e | e
    · exact .inl e
    · refine .inr (Nat.le_of_not_lt (fun e2 => q2 (h.kf _ e e2).1))
  · unfold len9
    rw [if_pos (by omega)]
    exact h2
  · rintro e w' ⟨rfl, hke, hr⟩
    refine ⟨rfl, hke, hv.part17 hke (fun r hr' => ?_) (fun i hi j hj => ?_)⟩
    · have q := hr r hr'
      simp only [inv9_at (B := fun r => B (k + r)) inj hr'] at q
      refine q.congr (fun j hj => ?_)
      rw [cs_apb (B := fun r => B (k + r)) (S := fun r => S (k + r)) inj fr tq _ hr']
      unfold enc17
      by_cases e : fr ≤ j ∧ j < tq
      · rw [if_pos e, if_pos ⟨by omega, e.1, e.2⟩, show k + r - k = r by omega]
      · rw [if_neg e, if_neg (fun x => e ⟨x.2.1, x.2.2⟩)]
    · unfold enc17
      rw [if_neg (by omega)]
set_option maxHeartbeats 2000000 in
set_option maxRecDepth 100000 in
theorem encode17 (h : Co w c Fp FT p lo hi rows t f k m b N L) (hv : Cs slo shi w v (k + m) (fun _ => l) C B S) (hd : ∀ x, Pb17 k m B x → ¬ Fp x) (h1 : fr ≤ tq) (h2 : tq ≤ l) :
    Calls Tryz.prog 25 #[.pointer (some ⟨c, 0, none⟩), v, .agg #[.int .i64 (fr : Int), .int .i64 (tq : Int)]] w fun e w' => e = .returned (.int .i64 0) ∧ Ke (Pb17 k m B) w w' ∧ Cs slo shi w' v (k + m) (fun _ => l) C B (enc17 f k fr tq S) := by
  have hs := h.hs
  have hk := h.hk
  have hm := h.hm
  obtain ⟨g, cap, rfl, hcap, -⟩ := hv.at17 (by omega)
  obtain ⟨hsp, hb0⟩ := sp17_new w fr tq
  generalize hx : w.alloc (.cells #[.int .i64 (fr : Int), .int .i64 (tq : Int)] 65) = x at hsp hb0
  have HX : Hid (w.alloc (.cells #[.int .i64 (fr : Int), .int .i64 (tq : Int)] 65) = x) := hx
  clear hx
  have hd0 : Below w.heap.size w x.drew := hb0.drew
  have h0 := h.below hd0
  have c1 := apply17 h0 (hv.below hd0) hd h1 h2
  have q1 := h0.c1
  have q3 := h0.c3
  have q4 := h0.c4
  have z0 : x.drew.cell? ⟨w.heap.size, 0, none⟩ = _ := hsp.c0
  have z1 : x.drew.cell? ⟨w.heap.size, 1, none⟩ = _ := hsp.c1
  have s1 := headL17 g 0 (k + m) cap k (by omega)
  have s2 := fromL17 g 0 (k + m) cap k (by omega) hcap (by omega)
  rw [Nat.add_sub_cancel_left, Nat.zero_add] at s2
  have HO : Hid (∀ w', (Ke (Pb17 k m B) x.drew w' ∧ Cs slo shi w' (.slice (some ⟨g, 0, none⟩) (k + m) cap) (k + m) (fun _ => l) C B (enc17 f k fr tq S)) → Co w' c Fp FT p lo hi rows t f k m b N L ∧ w'.cell? ⟨w.heap.size, 0, none⟩ = some (.int .i64 (fr : Int)) ∧ w'.cell? ⟨w.heap.size, 1, none⟩ = some (.int .i64 (tq : Int)) ∧ Ke (Pb17 k m B) w w') := fun w' ⟨hk', hC⟩ => by
    have hP : ∀ x, Pb17 k m B x → slo ≤ x ∧ x < shi := fun x ⟨r, hr, e⟩ => by
      obtain ⟨r1, r2, -⟩ := hv.row (k + r) (by omega)
      subst e
      exact ⟨r1, r2⟩
    have hS2 : Sp17 w' w.heap.size fr tq := Sp17.ke (x := x.drew) ⟨hsp.blk⟩ hk' (fun e => by have := hP _ e; have := hv.hw; omega)
    exact ⟨h0.ke hk' (fun x e => hd x e), hS2.c0, hS2.c1, (ke_below hd0 _).trans hk'⟩
  clear h h0 hv hd h1 h2 hs hk hm hcap hsp hb0 hd0
  go_enter Tryz.func25, Tryz.ntmps25
  go_wp2
  rw [HX.out]
  refine region_planI (fun w' => w'.cell? ⟨c, 3, none⟩ = some (.pointer (some p)) ∧ w'.cell? ⟨c, 4, none⟩ = some (rows) ∧ w'.cell? ⟨c, 1, none⟩ = some (.int .i64 (k : Int)) ∧ w'.cell? ⟨w.heap.size, 0, none⟩ = some (.int .i64 (fr : Int)) ∧ w'.cell? ⟨w.heap.size, 1, none⟩ = some (.int .i64 (tq : Int))) [0, 1, 2, 3, 4, 5, 6, 7, 8, 9, 10, 11, 12, 13, 14, 15, 16, 17, 18, 19, 20, 21, 22] [21, 1] 29 ⟨q3, q4, q1, z0, z1⟩ (by kernel_rfl) (by kernel_rfl) (fun _ a d v _ h => by cases d <;> exact h) ?_
  simp only [atI, List.getElem?_cons_zero, List.getElem?_cons_succ]
  refine planH_step ?Ae0 rfl (fun w' hS => ?se0) rfl (fun K hK => ?ne0)
  case se0 =>
    obtain ⟨y0, y1, y2, y3, y4⟩ := hS
    simp only [List.take_succ_cons, List.take_zero]
    repeat still_step
    exact rfl
  case ne0 =>
  go_simp
  go_wp2_with (go_at_call 41; (with_reducible refine c1.mono ?_); rintro e w1 ⟨rfl, hb⟩; clear c1; have hX := HO.out _ hb)
  refine hK _ _ ⟨hX.1.c3, hX.1.c4, hX.1.c1, hX.2.1, hX.2.2.1⟩ ?_
  clear hK K
  refine planH_last ?Ae1 rfl (fun w' hS => ?se1) rfl ?ne1
  case se1 =>
    obtain ⟨y0, y1, y2, y3, y4⟩ := hS
    simp only [List.take_succ_cons, List.take_zero]
    repeat still_step
    exact rfl
  case ne1 =>
  go_wp2
  go_ret
  exact ⟨rfl, hX.2.2.2, hb.2⟩
end
end Go.Proofs.YtefolifecbhgoaaGreat
namespace Go.Proofs.YtefolifecbhgoaaGreat
open Go.RowKit Gf2
set_option linter.unusedVariables false


def Cw17 (f : Int) (k m fr tq : Nat) (S : Nat → Nat → Nat) : Prop := ∀ r, r < m → ∀ j, fr ≤ j → j < tq → S (k + r) j = ks (par11 f k r) S k j
structure Vf17 (w w' : World) (b : Bool) (f : Int) (k m fr tq : Nat) (S : Nat → Nat → Nat) : Prop where
  yes : b = true ↔ Cw17 f k m fr tq S
  bel : Below w.heap.size w w'
structure Ec17 (w w' : World) (slo shi : Nat) (v : Value) (f : Int) (k m l fr tq : Nat) (C B : Nat → Nat) (S : Nat → Nat → Nat) : Prop where
  ke : Ke (Pb17 k m B) w w'
  cs : Cs slo shi w' v (k + m) (fun _ => l) C B (enc17 f k fr tq S)
section
variable {w : World} {c : Nat} {Fp FT : Nat → Prop} {p : Addr} {lo hi : Nat} {rows : Value} {t : Nat} {f : Int} {k m b N : Nat} {L : List (Nat × Ent)} {slo shi l fr tq : Nat} {C B : Nat → Nat} {S : Nat → Nat → Nat} {v : Value}
theorem agrees17 (h : Co w c Fp FT p lo hi rows t f k m b N L) {g o cap : Nat} (hv : Lb w (.slice (some ⟨g, o, none⟩) (k + m) cap) (k + m) (fun _ => l) S) (hl : l ≤ 140737488351232) (h1 : fr ≤ tq) (h2 : tq ≤ l) :
    Calls Tryz.prog 46 #[.pointer (some p), rows, .slice (some ⟨g, o, none⟩) k cap, .slice (some ⟨g, o + k, none⟩) m (cap - k), .agg #[.int .i64 (fr : Int), .int .i64 (tq : Int)]] w fun e w' => ∃ bo, e = .returned (.tuple #[.bool bo, .int .i64 0]) ∧ Vf17 w w' bo f k m fr tq S := by
  have hs := h.hs
  have hk := h.hk
  have h0 : 0 < k + m := by omega
  refine (kagrees_any p b lo hi m k m (fun _ => k) (fun _ => l) (fun _ => l) (par11 f k) S (fun i => S (k + i)) fr tq rows _ _ w h.ks (by omega) (by omega) (by omega) (fun _ _ => hl) (fun _ _ => hl) h.rs.lb (hv.head17 h0) (hv.tail17 h0)).mono ?_
  have hL : tq ≤ len9 k m (fun _ => l) (fun _ => l) := by
    unfold len9
    rw [if_pos (by omega)]
    exact h2
  rw [fit9_ok h1 hL]
  rintro e w' ⟨bo, rfl, hb, hw⟩
  refine ⟨bo, rfl, ⟨hb.trans ⟨fun h => ?_, fun h => ⟨rfl, fun r hr j h1 h2 => ?_⟩⟩, hw⟩⟩
  · intro r hr j h3 h4
    exact h.2 r hr j (by omega) (by omega)
  · exact h r hr j (by omega) (by omega)
theorem Lb.at17 {n : Nat → Nat} (h : Lb w v m n S) (h0 : 0 < m) : ∃ g o cap, v = .slice (some ⟨g, o, none⟩) m cap ∧ m ≤ cap := by
  obtain ⟨V, ⟨hb, a, cap, e, h5, h6, h4⟩, hV⟩ := h
  obtain ⟨b, o, e2, -⟩ := h4 h0
  exact ⟨b, o, cap, by rw [e, e2], h5⟩
set_option maxHeartbeats 2000000 in
set_option maxRecDepth 100000 in
theorem verify17 (h : Co w c Fp FT p lo hi rows t f k m b N L) (hv : Lb w v (k + m) (fun _ => l) S) (hl : l ≤ 140737488351232) (h1 : fr ≤ tq) (h2 : tq ≤ l) :
    Calls Tryz.prog 28 #[.pointer (some ⟨c, 0, none⟩), v, .agg #[.int .i64 (fr : Int), .int .i64 (tq : Int)]] w fun e w' => ∃ bo, e = .returned (.tuple #[.bool bo, .int .i64 0]) ∧ Vf17 w w' bo f k m fr tq S := by
  have hs := h.hs
  have hk := h.hk
  have hm := h.hm
  obtain ⟨g, o, cap, rfl, hcap⟩ := hv.at17 (by omega)
  obtain ⟨hsp, hb0⟩ := sp17_new w fr tq
  generalize hx : w.alloc (.cells #[.int .i64 (fr : Int), .int .i64 (tq : Int)] 65) = x at hsp hb0
  have HX : Hid (w.alloc (.cells #[.int .i64 (fr : Int), .int .i64 (tq : Int)] 65) = x) := hx
  clear hx
  have hd0 : Below w.heap.size w x.drew := hb0.drew
  have h0 := h.below hd0
  have c1 := agrees17 h0 (hv.below hd0) hl h1 h2
  have q1 := h0.c1
  have q3 := h0.c3
  have q4 := h0.c4
  have z0 : x.drew.cell? ⟨w.heap.size, 0, none⟩ = _ := hsp.c0
  have z1 : x.drew.cell? ⟨w.heap.size, 1, none⟩ = _ := hsp.c1
  have s1 := headL17 g o (k + m) cap k (by omega)
  have s2 := fromL17 g o (k + m) cap k (by omega) hcap (by omega)
  rw [Nat.add_sub_cancel_left] at s2
  have HO : Hid (∀ w' bo, Vf17 x.drew w' bo f k m fr tq S → Co w' c Fp FT p lo hi rows t f k m b N L ∧ w'.cell? ⟨w.heap.size, 0, none⟩ = some (.int .i64 (fr : Int)) ∧ w'.cell? ⟨w.heap.size, 1, none⟩ = some (.int .i64 (tq : Int)) ∧ Vf17 w w' bo f k m fr tq S) := fun w' bo hV => by
    have hS2 : Sp17 w' w.heap.size fr tq := Sp17.below (x := x.drew) ⟨hsp.blk⟩ hV.bel
    exact ⟨h0.below hV.bel, hS2.c0, hS2.c1, hV.yes, hd0.trans (hV.bel.mono hd0.size)⟩
  clear h h0 hv h1 h2 hs hk hm hcap hl hsp hb0 hd0
  go_enter Tryz.func28, Tryz.ntmps28
  go_wp2
  rw [HX.out]
  refine region_planI (fun w' => w'.cell? ⟨c, 3, none⟩ = some (.pointer (some p)) ∧ w'.cell? ⟨c, 4, none⟩ = some (rows) ∧ w'.cell? ⟨c, 1, none⟩ = some (.int .i64 (k : Int)) ∧ w'.cell? ⟨w.heap.size, 0, none⟩ = some (.int .i64 (fr : Int)) ∧ w'.cell? ⟨w.heap.size, 1, none⟩ = some (.int .i64 (tq : Int))) [0, 1, 2, 3, 4, 5, 6, 7, 8, 9, 10, 11, 12, 13, 14, 15, 16, 17, 18, 19, 20, 21, 22, 23, 24, 25] [21, 4] 32 ⟨q3, q4, q1, z0, z1⟩ (by kernel_rfl) (by kernel_rfl) (fun _ a d v _ h => by cases d <;> exact h) ?_
  simp only [atI, List.getElem?_cons_zero, List.getElem?_cons_succ]
  refine planH_step ?Av0 rfl (fun w' hS => ?sv0) rfl (fun K hK => ?nv0)
  case sv0 =>
    obtain ⟨y0, y1, y2, y3, y4⟩ := hS
    simp only [List.take_succ_cons, List.take_zero]
    repeat still_step
    exact rfl
  case nv0 =>
  go_simp
  go_wp2_with (go_at_call 46; (with_reducible refine c1.mono ?_); rintro e w1 ⟨bo, rfl, hb⟩; clear c1; have hX := HO.out _ _ hb; have HB : Hid _ := hb; clear hb)
  refine hK _ _ ⟨hX.1.c3, hX.1.c4, hX.1.c1, hX.2.1, hX.2.2.1⟩ ?_
  clear hK K
  refine planH_last ?Av1 rfl (fun w' hS => ?sv1) rfl ?nv1
  case sv1 =>
    obtain ⟨y0, y1, y2, y3, y4⟩ := hS
    simp only [List.take_succ_cons, List.take_zero]
    repeat still_step
    exact rfl
  case nv1 =>
  go_wp2
  have HF : Hid _ := hX.2.2.2
  clear hX HB
  go_ret2
  exact ⟨_, rfl, HF.out⟩
set_option maxHeartbeats 2000000 in
set_option maxRecDepth 100000 in
theorem Verify17 (h : Co w c Fp FT p lo hi rows t f k m b N L) (hv : Lb w v (k + m) (fun _ => l) S) (hl0 : 1 ≤ l) (hl : l ≤ 140737488351232) :
    Calls Tryz.prog 18 #[.pointer (some ⟨c, 0, none⟩), v] w fun e w' => ∃ bo, e = .returned (.tuple #[.bool bo, .int .i64 0]) ∧ Vf17 w w' bo f k m 0 l S := by
  have c1 := whole17 h v l (fun _ => l) S hv hl0 (fun _ _ => rfl)
  have c2 : ∀ x, Below w.heap.size w x → Calls Tryz.prog 28 #[.pointer (some ⟨c, 0, none⟩), v, .agg #[.int .i64 0, .int .i64 (l : Int)]] x fun e w' => ∃ bo, e = .returned (.tuple #[.bool bo, .int .i64 0]) ∧ Vf17 w w' bo f k m 0 l S := fun x hb =>
    (verify17 (fr := 0) (tq := l) (h.below hb) (hv.below hb) hl (Nat.zero_le _) (Nat.le_refl _)).mono (fun e w' ⟨bo, e1, e2⟩ => ⟨bo, e1, e2.yes, hb.trans (e2.bel.mono hb.size)⟩)
  clear h hv hl0 hl
  go_enter Tryz.func18, Tryz.ntmps18
  go_wp2_with (first
    | (go_at_call 24; (with_reducible refine c1.mono ?_); rintro e w1 ⟨rfl, hb⟩; clear c1; have c3 := c2 w1 hb; clear c2 hb)
    | (go_at_call 28; (with_reducible refine c3.mono ?_); rintro e w2 ⟨bo, rfl, hb2⟩; clear c3; have HB : Hid _ := hb2; clear hb2))
  go_ret2
  exact ⟨_, rfl, HB.out⟩
set_option maxHeartbeats 2000000 in
set_option maxRecDepth 100000 in
theorem Encode17 (h : Co w c Fp FT p lo hi rows t f k m b N L) (hv : Cs slo shi w v (k + m) (fun _ => l) C B S) (hd : ∀ x, Pb17 k m B x → ¬ Fp x) (hl0 : 1 ≤ l) :
    Calls Tryz.prog 11 #[.pointer (some ⟨c, 0, none⟩), v] w fun e w' => e = .returned (.int .i64 0) ∧ Ec17 w w' slo shi v f k m l 0 l C B S := by
  have c1 := whole17 h v l (fun _ => l) S hv.lb hl0 (fun _ _ => rfl)
  have c2 : ∀ x, Below w.heap.size w x → Calls Tryz.prog 25 #[.pointer (some ⟨c, 0, none⟩), v, .agg #[.int .i64 0, .int .i64 (l : Int)]] x fun e w' => e = .returned (.int .i64 0) ∧ Ec17 w w' slo shi v f k m l 0 l C B S := fun x hb =>
    (encode17 (fr := 0) (tq := l) (h.below hb) (hv.below hb) hd (Nat.zero_le _) (Nat.le_refl _)).mono (fun e w' ⟨e1, e2, e3⟩ => ⟨e1, (ke_below hb _).trans e2, e3⟩)
  clear h hv hl0 hd
  go_enter Tryz.func11, Tryz.ntmps11
  go_wp2_with (first
    | (go_at_call 24; (with_reducible refine c1.mono ?_); rintro e w1 ⟨rfl, hb⟩; clear c1; have c3 := c2 w1 hb; clear c2 hb)
    | (go_at_call 25; (with_reducible refine c3.mono ?_); rintro e w2 ⟨rfl, hb2⟩; clear c3; have HB : Hid _ := hb2; clear hb2))
  go_ret
  exact ⟨rfl, HB.out⟩
end
end Go.Proofs.YtefolifecbhgoaaGreat
