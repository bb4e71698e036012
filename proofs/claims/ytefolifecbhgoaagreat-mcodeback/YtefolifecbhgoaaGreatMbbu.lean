import Derived.Test.YtefolifecbhgoaaGreatMbbq
import Derived.Test.YtefolifecbhgoaaGreatMbbo
import Derived.Deep.RegionHeld
namespace Go.Proofs.YtefolifecbhgoaaGreat
open Go.RowKit Gf2
set_option linter.unusedVariables false


theorem ple17 {f : Int} {k m l : Nat} {n : Nat → Nat} {P : Nat → Bool} (hf : f = 0 ∨ f = 1) (hk : 1 ≤ k) (hm : 1 ≤ m) (hs : k + m ≤ 256) (hl : 1 ≤ l) (hn : ∀ i, i < k + m → n i = if P i then 0 else l) (h2 : (ems P (k + m)).length ≤ m) :
    ems (emp n) (k + m) = ems P (k + m) ∧ ple f (k : Int) (m : Int) (k + m) n = 0 ∧ plv16 f (k : Int) (m : Int) (k + m) n = (l : Int) ∧ pll f (k : Int) (m : Int) (k + m) n = (ems P (k + m)).length := by
  have e : ems (emp n) (k + m) = ems P (k + m) := ems_congr (fun i hi => by
    show (n i == 0) = P i
    rw [hn i hi]
    cases P i
    · rw [if_neg (by decide)]
      exact beq_eq_false_iff_ne.2 (by omega)
    · rfl)
  have hbo := ems_both P (k + m)
  have hc : scf (some 0) n (k + m) = some l := by
    obtain ⟨a1, a2⟩ := eN_mem (P := fun i => !P i) (n := k + m) (i := 0) (by omega)
    refine scf_has17 (by omega) (fun i hi => ?_) ⟨_, a1, ?_⟩
    · rw [hn i hi]
      split
      · exact .inl rfl
      · exact .inr rfl
    · rw [hn _ a1]
      have : P (eN (fun i => !P i) (k + m) 0) = false := by simpa using a2
      rw [this, if_neg (by decide)]
  have hp : ple f (k : Int) (m : Int) (k + m) n = 0 := by
    unfold ple
    rw [prm17 hf hk hm hs, if_pos rfl, if_pos (show ((k + m : Nat) : Int) = (k : Int) + (m : Int) by omega), e, if_neg (by omega), hc, (ole17 hf).1, if_pos rfl, if_neg (by omega)]
  refine ⟨e, hp, ?_, ?_⟩
  · unfold plv16
    rw [hp, if_pos rfl, hc]
    exact (ole17 hf).2
  · unfold pll
    rw [hp, if_pos rfl, e]
structure Sh17 (w : World) (v : Value) (g n cap l : Nat) (P : Nat → Bool) (V : Nat → Value) (S : Nat → Nat → Nat) (E : Nat → Prop) : Prop where
  eq : v = .slice (some ⟨g, 0, none⟩) n cap
  hc : n ≤ cap
  hb : cap ≤ big
  row : ∃ F, w.rowIs g 27 cap F ∧ ∀ i, i < n → F i = V i
  rows : ∀ i, i < n → Re (fun x => x = g ∨ E x) w (V i) (if P i then 0 else l) (S i)
section
variable {w w' : World} {v : Value} {g n cap l : Nat} {P : Nat → Bool} {V : Nat → Value} {S : Nat → Nat → Nat} {E : Nat → Prop}
theorem Sh17.lv (h : Sh17 w v g n cap l P V S E) : Lv (fun _ => False) w v n V := by
  obtain ⟨F, hF, hV⟩ := h.row
  exact ⟨Nat.le_trans h.hc h.hb, _, _, h.eq, h.hc, h.hb, fun _ => ⟨g, 0, rfl, ⟨hF.lt, fun e => e⟩, fun i hi => by rw [Nat.zero_add, hF.cell (by have := h.hc; omega), hV i hi]⟩⟩
theorem Sh17.lb (h : Sh17 w v g n cap l P V S E) : Lb w v n (fun i => if P i then 0 else l) S := ⟨V, h.lv, fun i hi => (h.rows i hi).mono (fun _ _ e => e.elim)⟩
theorem Sh17.below (h : Sh17 w v g n cap l P V S E) (hb : Below w.heap.size w w') : Sh17 w' v g n cap l P V S E := by
  obtain ⟨F, hF, hV⟩ := h.row
  exact ⟨h.eq, h.hc, h.hb, ⟨F, hF.of_block (hb.block g hF.lt), hV⟩, fun i hi => (h.rows i hi).ke (ke_below hb _)⟩
theorem Sh17.ke (h : Sh17 w v g n cap l P V S E) (hk : Ke E w w') (hg : ¬ E g) : Sh17 w' v g n cap l P V S E := by
  obtain ⟨F, hF, hV⟩ := h.row
  exact ⟨h.eq, h.hc, h.hb, ⟨F, hF.of_block (hk.2 g hF.lt hg), hV⟩, fun i hi => (h.rows i hi).ke (hk.mono (fun _ _ e => .inr e))⟩
theorem Sh17.form (h : Sh17 w v g n cap l P V S E) : ∀ i, i < n → ∃ a l c, V i = .slice a l c := fun i hi => by
  obtain ⟨-, -, a, c, e, -⟩ := h.rows i hi
  exact ⟨_, _, _, e⟩
end
def giv17 (f : Int) (k m : Nat) (P : Nat → Bool) (S : Nat → Nat → Nat) (i j : Nat) : Nat := if P i then ks (dec17 f k m P (ems P i).length) (fun a => S (eN (fun i => !P i) (k + m) a)) k j else S i j
def lst17 (P : Nat → Bool) (V : Nat → Value) (B0 l r i : Nat) : Value := if P i = true ∧ (ems P i).length < r then .slice (some ⟨B0 + (ems P i).length, 0, none⟩) l l else V i
structure Rs17 (w w' : World) (c : Nat) (Fp : Nat → Prop) (v : Value) (g l en : Nat) (f : Int) (k m b N : Nat) (L : List (Nat × Ent)) (P : Nat → Bool) (S : Nat → Nat → Nat) : Prop where
  co : ∃ Fp' N' L', Cd w' c Fp' f k m b N' L' ∧ (∀ x, Fp' x → Fp x ∨ w.heap.size ≤ x) ∧ N' ≤ N + 256 ∧ L'.length = L.length + 1 ∧ (∀ b x, (b, x) ∈ L' → (b, x) ∈ L ∨ x = ent17 f k m P) ∧ (g < w'.heap.size ∧ ¬ Fp' g) ∧
    ∃ (B0 : Nat) (F : Nat → Value) (cap : Nat) (V : Nat → Value), v = .slice (some ⟨g, 0, none⟩) (k + m) cap ∧ w'.rowIs g 27 cap F ∧ (∀ i, i < k + m → F i = lst17 P V B0 l (ems P en).length i) ∧ (∀ i, i < k + m → w.cell? ⟨g, i, none⟩ = some (V i)) ∧ w.heap.size ≤ B0 ∧ ∀ r, r < (ems P en).length → Rw w' (B0 + r) l (fun j => ks (dec17 f k m P r) (fun a => S (eN (fun i => !P i) (k + m) a)) k j) ∧ ¬ Fp' (B0 + r)
  lb : Lb w' v (k + m) (fun i => if P i = true ∧ en ≤ i then 0 else l) (giv17 f k m P S)
  ke : Ke (fun x => Fp x ∨ x = g) w w'
theorem lst17_step {P : Nat → Bool} {V : Nat → Value} {B0 l r n : Nat} (hr : r < (ems P n).length) {i : Nat} (hi : i < n) : (if i = eN P n r then .slice (some ⟨B0 + r, 0, none⟩) l l else lst17 P V B0 l r i) = lst17 P V B0 l (r + 1) i := by
  have hq := eN_mem hr
  have hqa := eN_at hq.1 hq.2
  have hqr : (ems P (eN P n r)).length = r := eN_inj hqa.1 hr hqa.2
  by_cases e : i = eN P n r
  · rw [if_pos e]
    unfold lst17
    rw [e, if_pos ⟨hq.2, by omega⟩, hqr]
  · rw [if_neg e]
    unfold lst17
    by_cases hp : P i = true
    · have hia := eN_at hi hp
      by_cases h2 : (ems P i).length < r
      · rw [if_pos ⟨hp, h2⟩, if_pos ⟨hp, by omega⟩]
      · rw [if_neg (fun x => h2 x.2), if_neg (fun x => ?_)]
        have : (ems P i).length = r := by omega
        rw [this] at hia
        exact e hia.2.symm
    · rw [if_neg (fun x => hp x.1), if_neg (fun x => hp x.1)]
theorem ems_lt17 {P : Nat → Bool} {i en : Nat} (hp : P i = true) : (ems P i).length < (ems P en).length ↔ i < en := by
  constructor
  · intro h
    rcases Nat.lt_or_ge i en with e | e
    · exact e
    · have := ems_up (P := P) e; omega
  · intro h
    exact (eN_at h hp).1
theorem given17 {w7 w8 : World} {g n cap l B0 en : Nat} {P : Nat → Bool} {V : Nat → Value} {S T : Nat → Nat → Nat} {F : Nat → Value} (hc : n ≤ cap) (hb : cap ≤ big) (hl : l ≤ big) (hF : w8.rowIs g 27 cap F) (hV : ∀ i, i < n → F i = lst17 P V B0 l (ems P en).length i)
    (hk : Ke (fun x => x = g) w7 w8) (hrow : ∀ r, r < (ems P en).length → Rw w7 (B0 + r) l (T r) ∧ B0 + r ≠ g) (hold : ∀ i, i < n → Re (fun x => x = g) w7 (V i) (if P i then 0 else l) (S i)) :
    Lb w8 (.slice (some ⟨g, 0, none⟩) n cap) n (fun i => if P i = true ∧ en ≤ i then 0 else l) (fun i j => if P i then T (ems P i).length j else S i j) := by
  refine ⟨fun i => lst17 P V B0 l (ems P en).length i, ⟨Nat.le_trans hc hb, _, _, rfl, hc, hb, fun _ => ⟨g, 0, rfl, ⟨hF.lt, fun e => e⟩, fun i hi => by rw [Nat.zero_add, hF.cell (by omega), hV i hi]⟩⟩, fun i hi => ?_⟩
  show Re (fun _ => False) w8 (lst17 P V B0 l (ems P en).length i) (if P i = true ∧ en ≤ i then 0 else l) (fun j => if P i then T (ems P i).length j else S i j)
  unfold lst17
  by_cases hp : P i = true
  · by_cases hi2 : i < en
    · have h1 := (ems_lt17 hp).2 hi2
      rw [if_pos ⟨hp, h1⟩, if_neg (by omega)]
      obtain ⟨h3, h4⟩ := hrow _ h1
      exact ((hk.rw_ h3 h4).re (Nat.le_refl _) (Nat.le_refl _) hl (fun e => e)).congr (fun j _ => by rw [hp]; rfl)
    · rw [if_neg (fun x => hi2 ((ems_lt17 hp).1 x.2)), if_pos ⟨hp, by omega⟩]
      have := (hold i hi).ke hk
      rw [hp, if_pos rfl] at this
      exact (this.mono (fun _ _ e => e.elim)).congr (fun j hj => absurd hj (Nat.not_lt_zero _))
  · rw [if_neg (fun x => hp x.1), if_neg (fun x => hp x.1)]
    have := (hold i hi).ke hk
    have hp' : P i = false := by simpa using hp
    rw [hp', if_neg (by decide)] at this
    exact (this.mono (fun _ _ e => e.elim)).congr (fun j _ => by rw [hp']; rfl)
theorem plan_new17 {w2 w3 : World} {A : Array Value} {T : TypeId} (h : w3 = w2.alloc (.cells A T)) : Below w2.heap.size w2 w3 ∧ w3.heap[w2.heap.size]? = some (.cells A T (0, 0)) ∧ w3.heap.size = w2.heap.size + 1 := by
  subst h
  exact ⟨(Below.refl _ _).alloc (Nat.le_refl _) _, heap_alloc_new _ _, by simp⟩
section
variable {w : World} {c : Nat} {Fp FT : Nat → Prop} {p : Addr} {lo hi : Nat} {rows : Value} {t : Nat} {f : Int} {k m b N : Nat} {L : List (Nat × Ent)}
set_option maxHeartbeats 4000000 in
set_option maxRecDepth 100000 in
theorem restore17_new (h : Co w c Fp FT p lo hi rows t f k m b N L) {v : Value} {g cap l : Nat} {P : Nat → Bool} {V : Nat → Value} {S : Nat → Nat → Nat} (hS : Sh17 w v g (k + m) cap l P V S Fp) (hg : ¬ Fp g) (hl : 1 ≤ l) (hl2 : l ≤ 140737488351232)
    (h1 : 1 ≤ (ems P (k + m)).length) (h2 : (ems P (k + m)).length ≤ m) (hnew : ∀ b x, (b, x) ∈ L → x.key ≠ tk12 (emz P (k + m)) (ems P (k + m)).length) (hroom : L.length < 16) (hN : N ≤ 1000000) (en : Nat) (hen : en ≤ k + m) :
    Calls Tryz.prog 27 #[.pointer (some ⟨c, 0, none⟩), v, .int .i64 (en : Int)] w fun e w' => e = .returned (.int .i64 0) ∧ Rs17 w w' c Fp v g l en f k m b N L P S := by
  have hs := h.hs
  obtain ⟨r1, r2, r3, r4⟩ := ple17 h.hf h.hk h.hm h.hs hl (n := fun i => if P i then 0 else l) (fun i _ => rfl) h2
  have c1 := partial16 f k m v (k + m) (fun i => if P i then 0 else l) w.drew ⟨by omega, by omega⟩ (hS.lb.ln (by omega))
  rw [r2, r3, r4] at c1
  have ez : emz (emp (fun i => if P i then 0 else l)) (k + m) = emz P (k + m) := by
    funext i
    unfold emz
    rw [r1]
  rw [ez] at c1
  clear ez r1 r2 r3 r4
  have HO : Hid (Co w c Fp FT p lo hi rows t f k m b N L ∧ Sh17 w v g (k + m) cap l P V S Fp ∧ ¬ Fp g ∧ (1 ≤ l ∧ l ≤ 140737488351232) ∧ (1 ≤ (ems P (k + m)).length ∧ (ems P (k + m)).length ≤ m) ∧ en ≤ k + m) := ⟨h, hS, hg, ⟨hl, hl2⟩, ⟨h1, h2⟩, hen⟩
  have HA : Hid (∀ w1 u, Ps16 w.drew w1 u (ems P (k + m)).length (emz P (k + m)) → (w1.cell? ⟨c, 0, none⟩ = some (.int .i64 f) ∧ w1.cell? ⟨c, 1, none⟩ = some (.int .i64 (k : Int)) ∧ w1.cell? ⟨c, 2, none⟩ = some (.int .i64 (m : Int))) ∧ ∃ ua uc, u = .slice (some ⟨ua, 0, none⟩) (ems P (k + m)).length uc ∧
      (Qi w1 (.slice (some ⟨ua, 0, none⟩) (ems P (k + m)).length uc) (ems P (k + m)).length (emz P (k + m)) ∧ w.heap.size ≤ ua ∧ Below w.heap.size w w1) ∧
      Calls Tryz.prog 43 #[.pointer (some ⟨c, 0, none⟩), .slice (some ⟨ua, 0, none⟩) (ems P (k + m)).length uc] w1 fun e w' => ∃ pl, e = .returned (.tuple #[pl, .int .i64 0]) ∧ Pl17 w1 w' c Fp pl f k m b N L P) := fun w1 u hA => by
    have hb : Below w.heap.size w w1 := undraw17 hA.bel
    have h' := h.below hb
    refine ⟨⟨h'.c0, h'.c1, h'.c2⟩, ?_⟩
    have hq := hA.gi.rb
    rcases hA.gi.2 with ⟨e, -⟩ | ⟨ua, C, F, rfl, a2, a3, -⟩
    · omega
    · exact ⟨ua, C, rfl, ⟨hq, a3, hb⟩, plan17_new h' P h1 h2 _ hq hnew hroom hN⟩
  have q0 : w.drew.cell? ⟨c, 0, none⟩ = _ := h.c0
  have q1 : w.drew.cell? ⟨c, 1, none⟩ = _ := h.c1
  have q2 : w.drew.cell? ⟨c, 2, none⟩ = _ := h.c2
  have hv := hS.eq
  subst hv
  have D1 : (((ems P (k + m)).length : Int) == 0) = false := beq_eq_false_iff_ne.2 (by omega)
  obtain ⟨n, hn⟩ : ∃ n, n = (ems P (k + m)).length := ⟨_, rfl⟩
  rw [← hn] at c1 HA D1
  have Hn : Hid (n = (ems P (k + m)).length) := hn
  clear h hS hg hl hl2 h1 h2 hnew hroom hN hen hs hn
  go_enter Tryz.func27, Tryz.ntmps27
  go_wp2
  refine region_planI (fun w' => w'.cell? ⟨c, 0, none⟩ = some (.int .i64 f) ∧ w'.cell? ⟨c, 1, none⟩ = some (.int .i64 (k : Int)) ∧ w'.cell? ⟨c, 2, none⟩ = some (.int .i64 (m : Int))) [0, 1, 2, 3, 4, 5, 6, 7, 8, 9, 10, 11, 12, 13, 14, 15, 16, 17, 18, 19, 20] [13, 7] 102 ⟨q0, q1, q2⟩ (by kernel_rfl) (by kernel_rfl) (fun _ a d v _ h => by cases d <;> exact h) ?_
  simp only [atI, List.getElem?_cons_zero, List.getElem?_cons_succ]
  refine planH_step ?Aa0 rfl (fun w' hS => ?sa0) rfl (fun K hK => ?na0)
  case sa0 =>
    obtain ⟨y0, y1, y2⟩ := hS
    simp only [List.take_succ_cons, List.take_zero]
    repeat still_step
    exact rfl
  case na0 =>
  go_simp
  go_wp2_with (go_at_call 42; (with_reducible refine c1.mono ?_); rintro e w1 ⟨u, rfl, hA⟩; clear c1; obtain ⟨⟨q0, q1, q2⟩, ua, uc, rfl, hU, c2⟩ := HA.out w1 u hA)
  refine hK _ _ ⟨q0, q1, q2⟩ ?_
  clear hK K
  refine planH_last ?Aa1 rfl (fun w' hS => ?sa1) rfl ?na1
  case sa1 =>
    obtain ⟨y0, y1, y2⟩ := hS
    simp only [List.take_succ_cons, List.take_zero]
    repeat still_step
    exact rfl
  case na1 =>
  clear q0 q1 q2 HA hA
  have HU : Hid _ := hU
  clear hU
  obtain ⟨Z, hZ⟩ : ∃ Z : Value, Z = .slice none 0 0 := ⟨_, rfl⟩
  have HB : Hid (∀ w2 pl, Pl17 w1 w2 c Fp pl f k m b N L P → ∃ ma mn mc va vc da dc, pl = .agg #[.slice ma mn mc, .slice va k vc, .slice da n dc, .slice none 0 0] ∧ Qi w2 (.slice va k vc) k (emz (fun i => !P i) (k + m)) ∧ Lb w2 (.slice da n dc) n (fun _ => k) (dec17 f k m P)) := fun w2 pl hP => by
    obtain ⟨Fp2, N2, L2, mv, uv, d, hpl, hC2, hF2, hN2, hL2, he2, hm2, hu2, hd2⟩ := hP.ex
    obtain ⟨-, -, ma, mc, e1, -⟩ := id hm2
    obtain ⟨-, -, va, vc, e2, -⟩ := id hu2
    obtain ⟨-, ⟨-, da, dc, e3, -⟩, -⟩ := id hd2
    subst e1 e2 e3
    exact ⟨_, _, _, va, vc, da, dc, by rw [hpl, Hn.out], hu2, by rw [Hn.out]; exact hd2⟩
  have HC : Hid (∀ w2 pl, Pl17 w1 w2 c Fp pl f k m b N L P → ∀ w3, Below w2.heap.size w2 w3 → Calls Tryz.prog 44 #[.slice (some ⟨ua, 0, none⟩) n uc, .int .i64 (en : Int)] w3 fun e w' => ∃ bo : Bool, e = .returned (.tuple #[.int .i64 ((ems P en).length : Nat), .bool bo]) ∧ w' = w3) := fun w2 pl hP w3 hb3 => by
    have hlt := HO.out.1.lt
    have hnF : ¬ Fp ua := fun e => by have := hlt _ e; have := HU.out.2.1; omega
    have hq := (HU.out.1.ke17 hP.ke hnF).below hb3
    refine (bsearch17 _ n en (eN P (k + m)) w3 hq (by have := Hn.out; have := HO.out.1.hs; have := HO.out.2.2.2.2.1.2; omega) (fun i j a b => eN_lt a (by rw [← Hn.out]; exact b))).mono ?_
    rintro e w' ⟨i, bo, rfl, hB, rfl⟩
    rw [Hn.out] at hB
    have := hB.ems HO.out.2.2.2.2.2
    subst this
    exact ⟨bo, rfl, rfl⟩
  obtain ⟨W, hW⟩ : ∃ W, W = (ems P en).length := ⟨_, rfl⟩
  rw [← hW] at HC
  have HWl : Hid (W = (ems P en).length ∧ W ≤ n ∧ n ≤ 256 ∧ l ≤ 140737488351232) := ⟨hW, by rw [hW, Hn.out]; exact ems_up HO.out.2.2.2.2.2, by have := Hn.out; have := HO.out.1.hs; have := HO.out.2.2.2.2.1.2; omega, HO.out.2.2.2.1.2⟩
  clear hW
  have hmk := make_rows W (by have := HWl.out; omega)
  go_wp2_with (first
    | (go_at_call 43; (with_reducible refine c2.mono ?_); rintro e w2 ⟨pl, rfl, hP⟩; clear c2; obtain ⟨ma, mn, mc, va, vc, da, dc, rfl, hB⟩ := HB.out w2 _ hP;
       obtain ⟨w3, hw3⟩ : ∃ w3, w3 = w2.alloc (.cells #[.slice ma mn mc, .slice va k vc, .slice da n dc, .slice none 0 0] 89) := ⟨_, rfl⟩;
       have HW3 : Hid (w2.alloc (.cells #[.slice ma mn mc, .slice va k vc, .slice da n dc, .slice none 0 0] 89) = w3) := hw3.symm;
       have H3 : Hid (Below w2.heap.size w2 w3 ∧ w3.heap[w2.heap.size]? = some (.cells #[.slice ma mn mc, .slice va k vc, .slice da n dc, .slice none 0 0] 89 (0, 0)) ∧ w3.heap.size = w2.heap.size + 1) := plan_new17 hw3;
       have c3 := HC.out w2 _ hP w3 H3.out.1; have HP : Hid _ := hP; have HQ : Hid _ := hB; clear hP hB HB HC hw3)
    | (go_at_call 44; rw [HW3.out]; (with_reducible refine c3.mono ?_); rintro e w9 ⟨bo, rfl, hw9⟩; have hw9 := hw9.symm; subst hw9; clear c3 HW3))
  clear hmk
  go_loopw [62] (fun i wr => ∃ r : Nat, r ≤ W ∧ i = .int .i64 r ∧ Zr w3 wr W l r) (fun i _ => W - (intOf i).toNat)
  case atStart => exact ⟨0, Nat.zero_le _, rfl, Zr.start w3 W l⟩
  case round =>
    obtain ⟨r, hr, rfl, hz⟩ := hrel
    by_cases hlt : r < W
    · have ha : (wr.alloc (.cells (madeCells #[.int .u8 0] l) 5)).rowIs w3.heap.size 27 W (fun i => if i < r then .slice (some ⟨w3.heap.size + 1 + i, 0, none⟩) l l else .slice none 0 0) := hz.list.of_block (Below.heap_alloc wr _ _ (by have := hz.sz; omega))
      have q1 := ha.cell hlt
      rw [if_neg (Nat.lt_irrefl _)] at q1
      have q2 := ha.frozen r
      clear ha
      have ib : ((r : Nat) : Int) < (W : Int) := by omega
      have W1 := wrap_succ8 (j := r) (by have := HWl.out; unfold big; omega)
      have hm8 := make_u8 l (by have := HWl.out; omega)
      have HZ : Hid (Zr w3 ((wr.alloc (.cells (madeCells #[.int .u8 0] l) 5)).setCell ⟨w3.heap.size, r, none⟩ (.slice (some ⟨wr.heap.size, 0, none⟩) l l)) W l (r + 1)) := hz.step (by have := HWl.out; omega) hlt
      clear hz
      go_wp2
      go_roundw
      case rel => exact ⟨r + 1, hlt, by first | rfl | (rw [W1]; rfl), HZ.out⟩
      case measure => first | exact meas_lt8 hlt | (rw [W1]; exact meas_lt8 hlt)
    · have hkn : r = W := by omega
      subst hkn
      have HZ : Hid (Zr w3 wr r l r) := hz
      clear hz hr hlt
      go_wp2
      generalize wr = w5 at HZ ⊢
      have hQ2 := HQ.out
      obtain ⟨db, dof, hda⟩ : ∃ db dof, da = some ⟨db, dof, none⟩ := by
        obtain ⟨V', ⟨-, a, cc, e, -, -, h4⟩, -⟩ := hQ2.2
        cases e
        obtain ⟨b', o', e, -⟩ := h4 (by have := Hn.out; have := HO.out.2.2.2.2.1.1; omega)
        exact ⟨b', o', e⟩
      subst hda
      have hndc : n ≤ dc := by
        obtain ⟨V', ⟨-, a, cc, e, h5, -⟩, -⟩ := hQ2.2
        cases e
        exact h5
      obtain ⟨Fp2, N2, L2, mv0, uv0, d0, -, hC2, hF2, hN2, hL2, he2, -, -, -⟩ := HP.out.ex
      obtain ⟨FT2, p2, lo2, hi2, rows2, t2, hCo2⟩ := hC2
      have hS := HO.out.2.1
      have hkw := HO.out.1.hk
      have b01 := HU.out.2.2
      have k12 := HP.out.ke
      have b23 := H3.out.1
      have b35 := HZ.out.bel
      have z3 := H3.out.2.2
      have z5 := HZ.out.sz
      have b25 : Below w2.heap.size w2 w5 := b23.trans (b35.mono (by omega))
      have hS2 : Sh17 w2 (.slice (some ⟨g, 0, none⟩) (k + m) cap) g (k + m) cap l P V S Fp := (hS.below b01).ke k12 HO.out.2.2.1
      have hS5 := hS2.below b25
      have hCo5 := hCo2.below b25
      have p5 : w5.heap[w2.heap.size]? = some (.cells #[.slice ma mn mc, .slice va k vc, .slice (some ⟨db, dof, none⟩) n dc, .slice none 0 0] 89 (0, 0)) := (b35.block _ (by omega)).trans H3.out.2.1
      have gpl : w2.heap.size < w5.heap.size := by omega
      have hgw : g < w.heap.size := by obtain ⟨F, hF, -⟩ := hS.row; exact hF.lt
      have hsz1 : w.heap.size ≤ w1.heap.size := b01.size
      have hsz2 : w1.heap.size ≤ w2.heap.size := k12.size
      have hbo := ems_both P (k + m)
      have hnm := HO.out.2.2.2.2.1.2
      have hsm := HO.out.1.hs
      have hel : k ≤ (ems (fun i => !P i) (k + m)).length := by omega
      have c4 := picked17 (.slice (some ⟨g, 0, none⟩) (k + m) cap) (.slice va k vc) (k + m) k V (eN (fun i => !P i) (k + m)) w5.drew hS5.lv hS5.form (hQ2.1.below b25.drew) (fun i hi => (eN_mem (by omega)).1) (by omega)
      have q0 : w5.drew.cell? ⟨c, 3, none⟩ = _ := hCo5.c3
      have q1 : w5.drew.cell? ⟨w2.heap.size, 2, none⟩ = some (.slice (some ⟨db, dof, none⟩) n dc) := by rw [cell_of_row w5.drew _ 2 _ _ _ p5]; rfl
      have q2 : w5.drew.cell? ⟨w2.heap.size, 1, none⟩ = some (.slice va k vc) := by rw [cell_of_row w5.drew _ 1 _ _ _ p5]; rfl
      have s1 := headL17 db dof n dc r (by have := HWl.out; omega)
      have HPl : Hid (w5.heap[w2.heap.size]? = some (.cells #[.slice ma mn mc, .slice va k vc, .slice (some ⟨db, dof, none⟩) n dc, .slice none 0 0] 89 (0, 0)) ∧ w2.heap.size < w5.heap.size) := ⟨p5, gpl⟩
      have HE : Hid (∀ w6 sx, Gp w5.drew.heap.size w6 sx k (fun a => V (eN (fun i => !P i) (k + m) a)) → Below w5.drew.heap.size w5.drew w6 → (w6.cell? ⟨c, 3, none⟩ = some (.pointer (some p2)) ∧ w6.cell? ⟨w2.heap.size, 2, none⟩ = some (.slice (some ⟨db, dof, none⟩) n dc) ∧ w6.cell? ⟨w2.heap.size, 1, none⟩ = some (.slice va k vc)) ∧ ∃ sxa sxn sxc, sx = .slice sxa sxn sxc ∧
          Calls Tryz.prog 41 #[.pointer (some p2), .slice (some ⟨db, dof, none⟩) r dc, .slice sxa sxn sxc, .slice (some ⟨w3.heap.size, 0, none⟩) r r, .agg #[.int .i64 0, .int .i64 (l : Int)]] w6 fun e w' => e = .returned (.int .i64 0) ∧ (Below w5.heap.size w5 w6 ∧ Ke (Eb r (fun a => w3.heap.size + 1 + a)) w6 w' ∧ ∀ a, a < r → Rw w' (w3.heap.size + 1 + a) l (fun j => ks (dec17 f k m P a) (fun a => S (eN (fun i => !P i) (k + m) a)) k j))) := fun w6 sx hG hb => by
        have b56 : Below w5.heap.size w5 w6 := undraw17 hb
        have b36 : Below w3.heap.size w3 w6 := b35.trans (b56.mono (by omega))
        have hCo6 := hCo5.below b56
        have p6 := (b56.block _ gpl).trans p5
        refine ⟨⟨hCo6.c3, by rw [cell_of_row _ _ 2 _ _ _ p6]; rfl, by rw [cell_of_row _ _ 1 _ _ _ p6]; rfl⟩, ?_⟩
        obtain ⟨sxa, sxc, rfl⟩ := hG.form
        refine ⟨sxa, _, sxc, rfl, ?_⟩
        have hCs := (HZ.out.cs (by have := HWl.out; unfold big; omega) (by have := HWl.out; unfold big; omega)).below b56
        have inj : ∀ i j, i < r → j < r → w3.heap.size + 1 + i = w3.heap.size + 1 + j → i = j := fun i j _ _ e => by omega
        have hE3 : ∀ x, Eb r (fun a => w3.heap.size + 1 + a) x → w3.heap.size ≤ x ∧ x < w5.heap.size := fun x ⟨a, ha, e⟩ => by
          have e' : x = w3.heap.size + 1 + a := e
          omega
        have hrow : Ll (Eb r (fun a => w3.heap.size + 1 + a)) w6 (.slice (some ⟨db, dof, none⟩) r dc) r (fun _ => k) (dec17 f k m P) := by
          have h3 : Ll (fun x => w3.heap.size ≤ x) w3 (.slice (some ⟨db, dof, none⟩) n dc) n (fun _ => k) (dec17 f k m P) := (hQ2.2.below b23).ll (fun x hx e => by omega)
          have h6 := (h3.ke (ke_below b36 _)).mono (E' := Eb r (fun a => w3.heap.size + 1 + a)) (fun x _ e => (hE3 x e).1)
          obtain ⟨d, hd⟩ : ∃ d, n = r + d := ⟨n - r, by have := HWl.out; omega⟩
          rw [hd] at h6
          exact h6.head17 (by have := Hn.out; have := HO.out.2.2.2.2.1.1; omega)
        have hsrc : Ll (Eb r (fun a => w3.heap.size + 1 + a)) w6 (.slice sxa k sxc) k (fun _ => l) (fun a => S (eN (fun i => !P i) (k + m) a)) := by
          refine ⟨_, hG.lv (fun x e => (hE3 x e).2), fun a ha => ?_⟩
          obtain ⟨a1, a2⟩ := eN_mem (P := fun i => !P i) (n := k + m) (i := a) (by omega)
          have hp : P (eN (fun i => !P i) (k + m) a) = false := by simpa using a2
          have hre := (hS2.below b23).rows _ a1
          rw [hp, if_neg (by decide)] at hre
          exact ((Rb.re (E := fun x => w3.heap.size ≤ x) hre.rb (fun x hx e => by omega)).ke (ke_below b36 _)).mono (fun x _ e => (hE3 x e).1)
        have hdl := hCs.dl (L := l) (fun i hi => rfl)
        refine (kapply_ok p2 b lo2 hi2 r k l 0 l (fun a => w3.heap.size + 1 + a) (fun _ => 0) _ (dec17 f k m P) _ _ _ _ _ w6 hCo6.ks (by have := HWl.out; omega) (by omega) (fun a ha => .inr ?_) hrow hsrc hdl (Nat.zero_le _) ?_).mono ?_
        · have := hCo2.ks.hi
          show hi2 ≤ w3.heap.size + 1 + a
          omega
        · unfold len9
          rw [if_pos (by omega)]
          exact Nat.le_refl _
        · rintro e w' ⟨rfl, hke, hr'⟩
          refine ⟨rfl, b56, hke, fun a ha => ?_⟩
          have q : Rw w' (w3.heap.size + 1 + a) l _ := hr' a ha
          refine q.congr (fun j hj => ?_)
          exact (cs_apb (B := fun a => w3.heap.size + 1 + a) (S := fun _ _ => 0) inj 0 l (fun r j => ks (dec17 f k m P r) (fun a => S (eN (fun i => !P i) (k + m) a)) k j) ha).trans (if_pos ⟨Nat.zero_le _, hj⟩)
      have HI : Hid (∀ w6 w7, (Below w5.heap.size w5 w6 ∧ Ke (Eb r (fun a => w3.heap.size + 1 + a)) w6 w7 ∧ ∀ a, a < r → Rw w7 (w3.heap.size + 1 + a) l (fun j => ks (dec17 f k m P a) (fun a => S (eN (fun i => !P i) (k + m) a)) k j)) → (w7.cell? ⟨c, 3, none⟩ = some (.pointer (some p2)) ∧ w7.cell? ⟨w2.heap.size, 2, none⟩ = some (.slice (some ⟨db, dof, none⟩) n dc) ∧ w7.cell? ⟨w2.heap.size, 1, none⟩ = some (.slice va k vc)) ∧
          Co w7 c Fp2 FT2 p2 lo2 hi2 rows2 t2 f k m b N2 L2 ∧ (∃ F, w7.rowIs g 27 cap F ∧ ∀ i, i < k + m → F i = V i) ∧ (∀ i, i < k + m → Re (fun x => x = g) w7 (V i) (if P i then 0 else l) (S i)) ∧ Qi w7 (.slice (some ⟨ua, 0, none⟩) n uc) n (emz P (k + m)) ∧ (∀ a, a < r → w7.cell? ⟨w3.heap.size, a, none⟩ = some (.slice (some ⟨w3.heap.size + 1 + a, 0, none⟩) l l)) ∧ w3.heap.size < w7.heap.size ∧
          (∀ a, a < r → Rw w7 (w3.heap.size + 1 + a) l (fun j => ks (dec17 f k m P a) (fun a => S (eN (fun i => !P i) (k + m) a)) k j)) ∧ Ke Fp w w7) := fun w6 w7 ⟨b56, k67, hr7⟩ => by
        have hE3 : ∀ x, Eb r (fun a => w3.heap.size + 1 + a) x → w3.heap.size + 1 ≤ x := fun x ⟨a, ha, e⟩ => by
          have e' : x = w3.heap.size + 1 + a := e
          omega
        have b26 : Below w2.heap.size w2 w6 := b25.trans (b56.mono (by omega))
        have hz6 := b56.size
        have hCo7 := (hCo2.below b26).ke k67 (fun x e hx => by have := hE3 x e; have := hCo2.lt x hx; omega)
        have p7 := (k67.2 _ (by omega) (fun e => by have := hE3 _ e; omega)).trans ((b56.block _ gpl).trans p5)
        have hnF : ¬ Fp ua := fun e => by have := HO.out.1.lt _ e; have := HU.out.2.1; omega
        have hua : ua < w1.heap.size := by
          obtain ⟨-, -, a, cp, e, -, -, h4⟩ := HU.out.1
          cases e
          obtain ⟨b', o', e, hl', -⟩ := h4 (by have := Hn.out; have := HO.out.2.2.2.2.1.1; omega)
          cases e
          exact hl'
        refine ⟨⟨hCo7.c3, by rw [cell_of_row _ _ 2 _ _ _ p7]; rfl, by rw [cell_of_row _ _ 1 _ _ _ p7]; rfl⟩, hCo7, ?_, fun i hi => ?_, ?_, fun a ha => ?_, ?_, hr7, ?_⟩
        · obtain ⟨F, hF, hV⟩ := (hS2.below b26).row
          exact ⟨F, hF.of_block (k67.2 g (by omega) (fun e => by have := hE3 _ e; omega)), hV⟩
        · have hre := hS2.rows i hi
          have h2 : Re (fun x => x = g ∨ w2.heap.size ≤ x) w2 (V i) (if P i then 0 else l) (S i) := by
            refine hre.mono (fun x hx e => ?_)
            rcases e with e | e
            · exact .inl e
            · omega
          refine ((h2.ke (ke_below b26 _)).ke (k67.mono (fun x _ e => .inr (by have := hE3 x e; omega)))).mono (fun x _ e => .inl e)
        · exact ((HU.out.1.ke17 k12 hnF).below b26).ke17 k67 (fun e => by have := hE3 _ e; omega)
        · have hl5 := HZ.out.list.cell ha
          rw [if_pos ha] at hl5
          have l5 := HZ.out.list.lt
          have c6 : w6.cell? ⟨w3.heap.size, a, none⟩ = w5.cell? ⟨w3.heap.size, a, none⟩ := (ke_below b56 (fun _ => False)).cell l5 (fun e => e)
          rw [k67.cell (by omega) (fun e => by have := hE3 _ e; omega), c6, hl5]
        · have := k67.size
          have := HZ.out.list.lt
          omega
        · have k02 : Ke Fp w w2 := (ke_below b01 _).trans k12
          have k06 : Ke Fp w w6 := k02.trans (ke_below b26 _)
          refine ⟨k06.1.trans k67.1, fun x hx hn => ?_⟩
          rw [k67.2 x (Nat.lt_of_lt_of_le hx k06.size) (fun e => by have := hE3 _ e; omega), k06.2 x hx hn]
      have HW2 : Hid (∀ x, Fp2 x → Fp x ∨ w1.heap.size ≤ x) := hF2
      have HFl : Hid (∀ x, Fp2 x → x < w2.heap.size) := hCo2.lt
      have HNL : Hid (N2 ≤ N + 256 ∧ L2.length = L.length + 1 ∧ (∀ b x, (b, x) ∈ L2 → (b, x) ∈ L ∨ x = ent17 f k m P) ∧ (∀ x, Fp2 x → Fp x ∨ w.heap.size ≤ x) ∧ g < w.heap.size) := ⟨hN2, hL2, he2, fun x e => (hF2 x e).imp id (fun e => Nat.le_trans hsz1 e), hgw⟩
      clear hQ2 hndc hF2 hN2 hL2 he2 hCo2 hS hkw b01 k12 b23 b35 z3 z5 b25 hS2 hS5 hCo5 p5 gpl hgw hsz1 hsz2 hbo hnm hsm hel
      refine region_planI (fun w' => w'.cell? ⟨c, 3, none⟩ = some (.pointer (some p2)) ∧ w'.cell? ⟨w2.heap.size, 2, none⟩ = some (.slice (some ⟨db, dof, none⟩) n dc) ∧ w'.cell? ⟨w2.heap.size, 1, none⟩ = some (.slice va k vc)) [0, 1, 2, 3, 4, 5, 6, 7, 8, 9, 10, 12, 13, 14, 11, 15] [14, 0, 0] 102 ⟨q0, q1, q2⟩ (by kernel_rfl) (by kernel_rfl) (fun _ a d v _ h => by cases d <;> exact h) ?_
      simp only [atI, List.getElem?_cons_zero, List.getElem?_cons_succ]
      refine planH_step ?Ab0 rfl (fun w' hS => ?sb0) rfl (fun K hK => ?nb0)
      case sb0 =>
        obtain ⟨y0, y1, y2⟩ := hS
        simp only [List.take_succ_cons, List.take_zero]
        repeat still_step
        exact rfl
      case nb0 =>
      go_simp
      go_wp2_with (go_at_call 45; (with_reducible refine c4.mono ?_); rintro e w6 ⟨sx, rfl, hG6, hb6⟩; clear c4; obtain ⟨⟨q0, q1, q2⟩, sxa, sxn, sxc, rfl, c5⟩ := HE.out w6 sx hG6 hb6)
      refine hK _ _ ⟨q0, q1, q2⟩ ?_
      clear hK K
      refine planH_step ?Ab1 rfl (fun w' hS => ?sb1) rfl (fun K hK => ?nb1)
      case sb1 =>
        obtain ⟨y0, y1, y2⟩ := hS
        simp only [List.take_zero]
        exact rfl
      case nb1 =>
      go_simp
      go_wp2_with (go_at_call 41; (with_reducible refine c5.mono ?_); rintro e w7 ⟨rfl, hA7⟩; clear c5; obtain ⟨⟨q0, q1, q2⟩, HH⟩ := HI.out w6 w7 hA7)
      refine hK _ _ ⟨q0, q1, q2⟩ ?_
      clear hK K
      refine planH_last ?Ab2 rfl (fun w' hS => ?sb2) rfl ?nb2
      case sb2 =>
        obtain ⟨y0, y1, y2⟩ := hS
        simp only [List.take_zero]
        exact rfl
      case nb2 =>
      clear q0 q1 q2 HE HI HPl s1 hG6 hb6 hA7
      have HF : Hid _ := HH
      clear HH
      go_wp2
      go_loopw [89] (fun i wr => ∃ a : Nat, a ≤ r ∧ i = .int .i64 a ∧ (∃ F, wr.rowIs g 27 cap F ∧ ∀ i, i < k + m → F i = lst17 P V (w3.heap.size + 1) l a i) ∧ Ke (fun x => x = g) w7 wr) (fun i _ => r - (intOf i).toNat)
      case atStart =>
        obtain ⟨F, hF, hV⟩ := HF.out.2.1
        exact ⟨0, Nat.zero_le _, rfl, ⟨F, hF, fun i hi => (hV i hi).trans (by unfold lst17; rw [if_neg (fun x => Nat.not_lt_zero _ x.2)])⟩, Ke.refl _ _⟩
      case round =>
        obtain ⟨a, ha, rfl, ⟨F, hF, hV⟩, hk7⟩ := hrel
        by_cases hlt : a < r
        · have hg3 : w3.heap.size ≠ g := by have := HNL.out.2.2.2.2; have := H3.out.2.2; have := HP.out.ke.size; have := HU.out.2.2.size; omega
          have q1 : wr.cell? ⟨w3.heap.size, a, none⟩ = some (.slice (some ⟨w3.heap.size + 1 + a, 0, none⟩) l l) := (hk7.cell HF.out.2.2.2.2.2.1 hg3).trans (HF.out.2.2.2.2.1 a hlt)
          have hn2 : a < n := by have := HWl.out; omega
          have hn3 : a < (ems P (k + m)).length := by rw [← Hn.out]; exact hn2
          have hug : ua ≠ g := by have := HNL.out.2.2.2.2; have := HU.out.2.1; omega
          have q2 : wr.cell? ⟨ua, a, none⟩ = some (.int .i64 ((eN P (k + m) a : Nat) : Int)) := by
            obtain ⟨-, -, x, cp, e, -, -, h4⟩ := HF.out.2.2.2.1.ke17 hk7 hug
            cases e
            obtain ⟨b', o', e, -, hc⟩ := h4 (by omega)
            cases e
            have := hc a hn2
            rw [Nat.zero_add] at this
            exact this
          have hq := (eN_mem hn3).1
          have hcap := HO.out.2.1.hc
          have q3 := hF.cell (i := eN P (k + m) a) (by omega)
          have q4 := hF.frozen (eN P (k + m) a)
          have HR : Hid (∃ F, (wr.setCell ⟨g, eN P (k + m) a, none⟩ (.slice (some ⟨w3.heap.size + 1 + a, 0, none⟩) l l)).rowIs g 27 cap F ∧ ∀ i, i < k + m → F i = lst17 P V (w3.heap.size + 1) l (a + 1) i) :=
            ⟨_, hF.set _ _, fun i hi => by
              have e := lst17_step (V := V) (B0 := w3.heap.size + 1) (l := l) hn3 hi
              show (if i = eN P (k + m) a then _ else F i) = _
              rw [hV i hi]
              exact e⟩
          have HK : Hid (Ke (fun x => x = g) w7 (wr.setCell ⟨g, eN P (k + m) a, none⟩ (.slice (some ⟨w3.heap.size + 1 + a, 0, none⟩) l l))) := hk7.trans ((Only.refl g wr).setCell _ _).kp.ke
          have ib : ((a : Nat) : Int) < (r : Int) := by omega
          have ib2 : ((a : Nat) : Int) < (n : Int) := by omega
          have ib3 : ((eN P (k + m) a : Nat) : Int) < ((k + m : Nat) : Int) := by omega
          have W1 := wrap_succ8 (j := a) (by have := HWl.out; unfold big; omega)
          have ib4 : eN P (k + m) a < k + m := hq
          obtain ⟨z, hz⟩ : ∃ z, z = F (eN P (k + m) a) := ⟨_, rfl⟩
          rw [← hz] at q3
          generalize eN P (k + m) a = qq at q2 q3 q4 HR HK ib3 ib4
          clear hF hV hk7 hq hcap hz hn3 hn2
          go_wp2
          go_roundw
          case rel => exact ⟨a + 1, hlt, by first | rfl | (rw [W1]; rfl), HR.out, HK.out⟩
          case measure => first | exact meas_lt8 hlt | (rw [W1]; exact meas_lt8 hlt)
        · have hkn : a = r := by omega
          subst hkn
          have htl : ¬ ((a : Nat) : Int) < (a : Int) := by omega
          have hcap := HO.out.2.1
          have hgiv := given17 (en := en) (T := fun a j => ks (dec17 f k m P a) (fun a => S (eN (fun i => !P i) (k + m) a)) k j) hcap.hc hcap.hb (by have := HWl.out; unfold big; omega) hF (by rw [← HWl.out.1]; exact hV) hk7 (fun x hx => ⟨HF.out.2.2.2.2.2.2.1 x (by rw [HWl.out.1]; exact hx), by have := HNL.out.2.2.2.2; have := H3.out.2.2; have := HP.out.ke.size; have := HU.out.2.2.size; omega⟩) HF.out.2.2.1
          have hgF : ¬ Fp2 g := fun e => by
            rcases HW2.out _ e with e1 | e1
            · exact HO.out.2.2.1 e1
            · have := HU.out.2.2.size; have := HNL.out.2.2.2.2; omega
          have HRs : Hid (Rs17 w wr c Fp (.slice (some ⟨g, 0, none⟩) (k + m) cap) g l en f k m b N L P S) := by
            refine ⟨⟨Fp2, N2, L2, ⟨_, _, _, _, _, _, HF.out.1.ke hk7 (fun x e hx => ?_)⟩, HNL.out.2.2.2.1, HNL.out.1, HNL.out.2.1, HNL.out.2.2.1, ⟨hF.lt, hgF⟩, w3.heap.size + 1, F, cap, V, rfl, hF, by rw [← HWl.out.1]; exact hV, ?_, ?_, fun r' hr' => ⟨?_, fun e => ?_⟩⟩, hgiv, HF.out.2.2.2.2.2.2.2.both17 hk7⟩
            · have e' : x = g := e
              rw [e'] at hx
              exact hgF hx
            · intro i hi
              obtain ⟨F0, hF0, hV0⟩ := HO.out.2.1.row
              rw [hF0.cell (by have := HO.out.2.1.hc; omega), hV0 i hi]
            · have := HU.out.2.2.size
              have := HP.out.ke.size
              have := H3.out.2.2
              omega
            · have hb0 : w3.heap.size + 1 + r' ≠ g := by have := HNL.out.2.2.2.2; have := H3.out.2.2; have := HP.out.ke.size; have := HU.out.2.2.size; omega
              exact hk7.rw_ (HF.out.2.2.2.2.2.2.1 r' (by rw [HWl.out.1]; exact hr')) hb0
            · have h1 := HFl.out _ e
              have := H3.out.2.2
              omega
          clear hgiv hF hV hk7 hcap
          go_wp2
          go_ret
          exact ⟨rfl, HRs.out⟩
end
end Go.Proofs.YtefolifecbhgoaaGreat
namespace Go.Proofs.YtefolifecbhgoaaGreat
open Go.RowKit Gf2
set_option linter.unusedVariables false


theorem cutB17 (x : Option Addr) (L C f t : Nat) (hft : f ≤ t) (htC : t ≤ C) : ∃ a', (∀ b o, x = some ⟨b, o, none⟩ → f < t → a' = some ⟨b, o + f, none⟩) ∧
    ∀ W : World, (Instr.slice 27 (.slice x L C) (some (.int .i64 (f : Int))) (some (.int .i64 (t : Int))) none).run Tryz.prog W = .ok (.slice a' (t - f) (C - f)) W := by
  have he : Tryz.prog.elem 27 = 5 := by kernel_rfl
  have hsz : ∀ W : World, (sizeOf 5).run Tryz.prog W = .ok 1 W := fun W => by
    obtain ⟨i, hi, -, hs, -⟩ := info_u8a
    simp [sizeOf, typeInfo, hi, hs]
  refine ⟨if C = f then x else x.map (·.add (f * 1)), fun b o e h0 => ?_, fun W => ?_⟩
  · subst e
    rw [if_neg (by omega)]
    show some ((⟨b, o, none⟩ : Addr).add (f * 1)) = _
    rw [Addr.add_lit, Nat.mul_one]
  · have h := run_slice_lh (P := Tryz.prog) (w := W) 27 x L C (by rw [he]; exact Tryz.underlying27) .i64 .i64 (f : Int) (t : Int) (by omega) (by omega) (by omega)
    rw [h, he, hsz]
    have e1 : (t : Int).toNat = t := by omega
    have e2 : (f : Int).toNat = f := by omega
    simp only [Result.andThen, sliced, e1, e2]
theorem Re.cut17 {E : Nat → Prop} {w : World} {x : Option Addr} {L C f t : Nat} {F : Nat → Nat} (h : Re E w (.slice x L C) L F) (hft : f ≤ t) (ht : t ≤ L) {a' : Option Addr} (ha : ∀ b o, x = some ⟨b, o, none⟩ → f < t → a' = some ⟨b, o + f, none⟩) : Re E w (.slice a' (t - f) (C - f)) (t - f) (fun j => F (f + j)) := by
  obtain ⟨h1, h2, a, cap, e, h5, h6, h4⟩ := h
  cases e
  refine ⟨by omega, fun i hi => h2 _ (by omega), _, _, rfl, by omega, by omega, fun h0 => ?_⟩
  obtain ⟨b, o, e, hl, hc⟩ := h4 (by omega)
  exact ⟨b, o + f, ha b o e (by omega), hl, fun i hi => by rw [Nat.add_assoc]; exact hc (f + i) (by omega)⟩
theorem info_u17 : (Tryz.prog.info? 5).map (fun i => (i.zero, i.size, i.bytes)) = some (some (Value.int .u8 0), 1, 1) := by kernel_rfl
theorem make_roomB17 (n : Nat) (hn : n ≤ 1000) (w : World) : (Instr.makeSlice 27 (.int .i64 0) (.int .i64 (n : Int))).run Tryz.prog w = .ok (.slice (some ⟨w.heap.size, 0, none⟩) 0 n) (w.alloc (.cells (madeCells #[.int .u8 0] n) 5)) :=
  run_make_room (P := Tryz.prog) 27 5 (.int .u8 0) 1 Tryz.underlying27 info_u17 rfl .i64 .i64 n (by omega) (by omega) w
theorem gw_made17 (w : World) (n : Nat) (hn : n ≤ 1000) (S : Nat → Nat) : Gw w (w.alloc (.cells (madeCells #[.int .u8 0] n) 5)) (.slice (some ⟨w.heap.size, 0, none⟩) 0 n) 0 S :=
  ⟨(Below.refl _ _).alloc (Nat.le_refl _) _, .inr ⟨w.heap.size, n, fun _ => 0, rfl, Nat.zero_le _, Nat.le_refl _, made_rw n (by omega) w, fun i hi => absurd hi (Nat.not_lt_zero _)⟩⟩
section
variable {w : World} {c : Nat} {Fp FT : Nat → Prop} {p : Addr} {lo hi : Nat} {rows : Value} {t : Nat} {f : Int} {k m b N : Nat} {L : List (Nat × Ent)}
set_option maxHeartbeats 2000000 in
set_option maxRecDepth 100000 in
theorem column17 (h : Co w c Fp FT p lo hi rows t f k m b N L) (i : Nat) (hi' : i < k) :
    Calls Tryz.prog 75 #[.pointer (some ⟨c, 0, none⟩), .int .i64 (i : Int)] w fun e w' => ∃ u, e = .returned u ∧ Gw w w' u m (fun r => par11 f k r i) := by
  have hs := h.hs
  have hk := h.hk
  have mk := make_roomB17 m (by omega)
  have q2 := h.c2
  have HG : Hid (Gw w (w.alloc (.cells (madeCells #[.int .u8 0] m) 5)) (.slice (some ⟨w.heap.size, 0, none⟩) 0 m) 0 (fun r => par11 f k r i)) := gw_made17 w m (by omega) _
  have q4 := (h.below HG.out.1).c4
  have HR : Hid (Lb w rows m (fun _ => k) (par11 f k)) := h.rs.lb
  obtain ⟨V0, ⟨-, ra, rc, hr, -⟩, -⟩ := h.rs
  subst hr
  have HM : Hid (m ≤ 256) := by show m ≤ 256; omega
  have ib0 : ((i : Nat) : Int) < (k : Int) := by omega
  clear h hs hk
  go_enter Tryz.func75, Tryz.ntmps75
  go_wp2
  clear mk q2 q4
  go_loopw [5, 18] (fun s j wr => ∃ r : Nat, r ≤ m ∧ j = .int .i64 r ∧ Gw w wr s r (fun r => par11 f k r i)) (fun _ j _ => m - (intOf j).toNat)
  case atStart => exact ⟨0, Nat.zero_le _, rfl, HG.out⟩
  case round =>
    obtain ⟨r, hr, rfl, hG⟩ := hrel
    obtain ⟨sa, sC, rfl⟩ := hG.form
    clear HG
    by_cases hlt : r < m
    · have hbw := hG.1
      obtain ⟨V, ⟨-, a', cp, e, -, -, h4⟩, hV⟩ := HR.out.below hbw
      cases e
      obtain ⟨rb, ro, rfl, -, hc⟩ := h4 (by omega)
      have q1 := hc r hlt
      obtain ⟨-, hlt8, xa, xc, ex, -, -, hx4⟩ := hV r hlt
      obtain ⟨xb, xo, rfl, -, hxc⟩ := hx4 (show 0 < k by omega)
      rw [ex] at q1
      have q2 := hxc i hi'
      obtain ⟨w5, v5, hrun, hG5⟩ := app_gw hG (par11 f k r i) (hlt8 i hi') (by have := HM.out; omega)
      have HG5 : Hid (Gw w w5 v5 (r + 1) (fun r => par11 f k r i)) := hG5.congr (fun j hj => by
        show (if j < r then par11 f k j i else par11 f k r i) = par11 f k j i
        by_cases e : j < r
        · rw [if_pos e]
        · rw [if_neg e, show j = r by omega])
      have ib : ((r : Nat) : Int) < (m : Int) := by omega
      have W1 := wrap_succ8 (j := r) (by have := HM.out; unfold big; omega)
      generalize par11 f k r i = y at q2 hrun
      clear hG hbw h4 hV hc hx4 hxc hG5 hlt8 ex
      go_wp2_with (at_builtin; refine Lib.wpList_append_run _ rfl _ _ _ _ rfl _ _ rfl rfl _ _ hrun ?_)
      go_roundw
      case rel => exact ⟨r + 1, hlt, by first | rfl | (rw [W1]; rfl), HG5.out⟩
      case measure => first | exact meas_lt8 hlt | (rw [W1]; exact meas_lt8 hlt)
    · have htl : ¬ ((r : Nat) : Int) < (m : Int) := fun e => hlt (Int.ofNat_lt.1 e)
      obtain rfl : r = m := by omega
      clear HR HM
      go_wp2
      go_ret
      exact ⟨_, rfl, hG⟩
end
set_option maxHeartbeats 2000000 in
set_option maxRecDepth 100000 in
theorem parts17 (v : Value) (m fr tq l : Nat) (X : Nat → Option Addr) (C : Nat → Nat) (w : World) (hv : Lv (fun _ => False) w v m (fun r => .slice (X r) l (C r))) (hm : m ≤ 256) (hft : fr ≤ tq) (htl : tq ≤ l) (hlC : ∀ r, r < m → l ≤ C r) :
    Calls Tryz.prog 72 #[v, .agg #[.int .i64 (fr : Int), .int .i64 (tq : Int)]] w fun e w' => ∃ u, e = .returned u ∧ (∃ A : Nat → Option Addr, (∀ r, r < m → ∀ b o, X r = some ⟨b, o, none⟩ → fr < tq → A r = some ⟨b, o + fr, none⟩) ∧ Gp w.heap.size w' u m (fun r => .slice (A r) (tq - fr) (C r - fr))) ∧ Below w.heap.size w w' := by
  obtain ⟨hsp, hb0⟩ := sp17_new w fr tq
  have HX0 : ∃ x, w.alloc (.cells #[.int .i64 (fr : Int), .int .i64 (tq : Int)] 65) = x := ⟨_, rfl⟩
  obtain ⟨x, hx⟩ := HX0
  rw [hx] at hsp hb0
  have HX : Hid (w.alloc (.cells #[.int .i64 (fr : Int), .int .i64 (tq : Int)] 65) = x) := hx
  have HZ : Hid (x.heap.size = w.heap.size + 1) := by show _ = _; rw [← hx]; simp
  clear hx
  have hA : ∃ A : Nat → Option Addr, (∀ r, r < m → ∀ b o, X r = some ⟨b, o, none⟩ → fr < tq → A r = some ⟨b, o + fr, none⟩) ∧ ∀ r, r < m → ∀ W : World, (Instr.slice 27 (.slice (X r) l (C r)) (some (.int .i64 (fr : Int))) (some (.int .i64 (tq : Int))) none).run Tryz.prog W = .ok (.slice (A r) (tq - fr) (C r - fr)) W := by
    refine ⟨fun r => if C r = fr then X r else (X r).map (·.add (fr * 1)), fun r hr b o e h0 => ?_, fun r hr W => ?_⟩
    · have := hlC r hr
      show (if C r = fr then X r else (X r).map (·.add (fr * 1))) = _
      rw [e, if_neg (by omega)]
      show some ((⟨b, o, none⟩ : Addr).add (fr * 1)) = _
      rw [Addr.add_lit, Nat.mul_one]
    · have he : Tryz.prog.elem 27 = 5 := by kernel_rfl
      have hsz : ∀ W : World, (sizeOf 5).run Tryz.prog W = .ok 1 W := fun W => by
        obtain ⟨i, hi, -, hs, -⟩ := info_u8a
        simp [sizeOf, typeInfo, hi, hs]
      have := hlC r hr
      have h := run_slice_lh (P := Tryz.prog) (w := W) 27 (X r) l (C r) (by rw [he]; exact Tryz.underlying27) .i64 .i64 (fr : Int) (tq : Int) (by omega) (by omega) (by omega)
      rw [h, he, hsz]
      have e1 : (tq : Int).toNat = tq := by omega
      have e2 : (fr : Int).toNat = fr := by omega
      simp only [Result.andThen, sliced, e1, e2]
  obtain ⟨A, hA1, hA2⟩ := hA
  have mk := make_roomL17 m (by omega)
  have hb1 : Below x.heap.size x (x.alloc (.cells (madeCells #[.slice none 0 0] m) 27)) := (Below.refl _ _).alloc (Nat.le_refl _) _
  have HG : Hid (Gp x.heap.size (x.alloc (.cells (madeCells #[.slice none 0 0] m) 27)) (.slice (some ⟨x.heap.size, 0, none⟩) 0 m) 0 (fun r => .slice (A r) (tq - fr) (C r - fr)) ∧ Below x.heap.size x (x.alloc (.cells (madeCells #[.slice none 0 0] m) 27))) := ⟨gp_made17 x m (by omega) _, hb1⟩
  clear hb1
  have HV : Hid (Lv (fun _ => False) x v m (fun r => .slice (X r) l (C r))) := hv.ke (ke_below hb0 _)
  obtain ⟨-, va, vc, rfl, -⟩ := hv
  have HM : Hid (m ≤ 256 ∧ Below w.heap.size w x ∧ Sp17 x w.heap.size fr tq) := ⟨hm, hb0, hsp⟩
  obtain ⟨d, hd⟩ : ∃ d, d = tq - fr := ⟨_, rfl⟩
  rw [← hd] at hA2 HG ⊢
  clear hm hb0 hsp hd hft htl hlC
  go_enter Tryz.func72, Tryz.ntmps72
  go_wp2
  rw [HX.out]
  go_wp2
  clear mk
  go_loopw [5, 13] (fun s i wr => ∃ r : Nat, r ≤ m ∧ i = .int .i64 r ∧ Gp x.heap.size wr s r (fun r => .slice (A r) d (C r - fr)) ∧ Below x.heap.size x wr) (fun _ i _ => m - (intOf i).toNat)
  case atStart => exact ⟨0, Nat.zero_le _, rfl, by rw [← HZ.out]; exact HG.out.1, HG.out.2⟩
  case round =>
    obtain ⟨r, hr, rfl, hG, hb⟩ := hrel
    obtain ⟨sa, sC, rfl⟩ := hG.form
    clear HG
    by_cases hlt : r < m
    · have ib : ((r : Nat) : Int) < (m : Int) := by omega
      have W1 := wrap_succ8 (j := r) (by have := HM.out; unfold big; omega)
      obtain ⟨-, va', vc', e1, -, -, h6⟩ := HV.out.ke (ke_below hb _)
      cases e1
      obtain ⟨vb, vo, rfl, -, hvc⟩ := h6 (by omega)
      have q1 : wr.cell? ⟨vb, vo + r, none⟩ = some (.slice (X r) l (C r)) := hvc r hlt
      have y0 := (HM.out.2.2.below hb).c0
      have y1 := (HM.out.2.2.below hb).c1
      have s1 := hA2 r hlt
      obtain ⟨w5, v5, hrun, hG5, hb5⟩ := hG.app hb.size (.slice (A r) d (C r - fr)) rfl (by have := HM.out; omega)
      have HG5 : Hid (Gp x.heap.size w5 v5 (r + 1) (fun r => .slice (A r) d (C r - fr)) ∧ Below x.heap.size x w5) := by
        refine ⟨?_, hb.trans hb5⟩
        obtain ⟨g, C', F, h1, h2, h3, h4, h5, h6⟩ := hG5
        refine ⟨g, C', F, h1, h2, h3, h4, h5, fun i hi => (h6 i hi).trans ?_⟩
        show (if i < r then Value.slice (A i) d (C i - fr) else _) = Value.slice (A i) d (C i - fr)
        by_cases hi2 : i < r
        · rw [if_pos hi2]
        · rw [if_neg hi2, show i = r by omega]
      generalize X r = X0 at q1 s1
      generalize A r = A0 at s1 hrun
      generalize C r = C0 at q1 s1 hrun
      clear hG hb hG5 hb5 hvc h6 hA2
      go_wp2_with (at_builtin; refine Lib.wpList_append_run _ rfl _ _ _ _ rfl _ _ rfl rfl _ _ hrun ?_)
      go_roundw
      case rel => exact ⟨r + 1, hlt, by first | rfl | (rw [W1]; rfl), HG5.out.1, HG5.out.2⟩
      case measure => first | exact meas_lt8 hlt | (rw [W1]; exact meas_lt8 hlt)
    · have htl : ¬ ((r : Nat) : Int) < (m : Int) := fun e => hlt (Int.ofNat_lt.1 e)
      obtain rfl : r = m := by omega
      have HE : Hid (∃ A : Nat → Option Addr, (∀ r', r' < r → ∀ b o, X r' = some ⟨b, o, none⟩ → fr < tq → A r' = some ⟨b, o + fr, none⟩) ∧ Gp w.heap.size wr (.slice sa r sC) r (fun r => .slice (A r) d (C r - fr))) := by
        refine ⟨A, hA1, ?_⟩
        obtain ⟨g, C', F, h1, h2, h3, h4, h5, h6⟩ := hG
        exact ⟨g, C', F, h1, h2, h3, Nat.le_trans HM.out.2.1.size h4, h5, h6⟩
      have HB : Hid (Below w.heap.size w wr) := HM.out.2.1.trans (hb.mono HM.out.2.1.size)
      clear HV HM hA1 hA2 hG hb
      go_wp2
      go_ret
      exact ⟨_, rfl, HE.out, HB.out⟩
end Go.Proofs.YtefolifecbhgoaaGreat
namespace Go.Proofs.YtefolifecbhgoaaGreat
open Go.RowKit Gf2
set_option linter.unusedVariables false


theorem fle17 {f : Int} {k m l : Nat} {Q : Nat → Bool} (hf : f = 0 ∨ f = 1) (hk : 1 ≤ k) (hm : 1 ≤ m) (hs : k + m ≤ 256) (hl : 1 ≤ l) :
    ems (ful (fun i => if Q i then l else 0)) k = ems Q k ∧ fle f (k : Int) (m : Int) (k + m) (fun _ => l) k (fun i => if Q i then l else 0) = 0 ∧ flv f (k : Int) (m : Int) (k + m) (fun _ => l) k (fun i => if Q i then l else 0) = (l : Int) ∧ fll f (k : Int) (m : Int) (k + m) (fun _ => l) k (fun i => if Q i then l else 0) = (ems Q k).length := by
  have e : ems (ful (fun i => if Q i then l else 0)) k = ems Q k := ems_congr (fun i hi => by
    show ((if Q i then l else 0) != 0) = Q i
    cases Q i
    · rfl
    · rw [if_pos rfl]
      exact bne_iff_ne.2 (by omega))
  have h1 : scf (some 0) (fun _ => l) (k + m) = some l := scf_has17 (by omega) (fun i hi => .inr rfl) ⟨0, by omega, rfl⟩
  have h2 : scf (some l) (fun i => if Q i then l else 0) k = some l := scf_keep17 (by omega) k (fun i hi => by
    show (if Q i then l else 0) = 0 ∨ (if Q i then l else 0) = l
    split
    · exact .inr rfl
    · exact .inl rfl)
  have ha : aeb (fun _ => l) (k + m) = false := by
    cases e : aeb (fun _ => l) (k + m) with
    | false => rfl
    | true =>
      obtain ⟨i, hi, e2⟩ := aeb_iff.1 e
      have e3 : l = 0 := e2
      omega
  have hp : fle f (k : Int) (m : Int) (k + m) (fun _ => l) k (fun i => if Q i then l else 0) = 0 := by
    unfold fle
    rw [prm17 hf hk hm hs, if_pos rfl, if_pos ⟨show ((k + m : Nat) : Int) = (k : Int) + (m : Int) by omega, rfl⟩, ha, if_neg (by decide), h1, h2]
    exact (ole17 hf).1
  refine ⟨e, hp, ?_, ?_⟩
  · unfold flv
    rw [hp, if_pos rfl, h1, h2]
    exact (ole17 hf).2
  · unfold fll
    rw [hp, if_pos rfl, e]
section
variable {w : World} {c : Nat} {Fp FT : Nat → Prop} {p : Addr} {lo hi : Nat} {rows : Value} {t : Nat} {f : Int} {k m b N : Nat} {L : List (Nat × Ent)}
set_option maxHeartbeats 2000000 in
set_option maxRecDepth 100000 in
theorem fresh17 (h : Co w c Fp FT p lo hi rows t f k m b N L) (v fv : Value) (l : Nat) (Q : Nat → Bool) (S Fr : Nat → Nat → Nat) (hv : Lb w v (k + m) (fun _ => l) S) (hfv : Lb w fv k (fun i => if Q i then l else 0) Fr) (hl : 1 ≤ l) :
    Calls Tryz.prog 38 #[.pointer (some ⟨c, 0, none⟩), v, fv] w fun e w' => ∃ u, e = .returned (.tuple #[.int .i64 (l : Int), u, .int .i64 0]) ∧ Gi w w' u (ems Q k).length (emz Q k) := by
  have hs := h.hs
  have c1 := fresh16 f k m v fv (k + m) k (fun _ => l) (fun i => if Q i then l else 0) w.drew ⟨by omega, by omega⟩ (hv.ln (by omega)) (hfv.ln (by omega))
  obtain ⟨e1, e2, e3, e4⟩ := fle17 (Q := Q) h.hf h.hk h.hm h.hs hl
  unfold FrA at c1
  have ez : emz (ful (fun i => if Q i then l else 0)) k = emz Q k := by
    funext i
    unfold emz
    rw [e1]
  rw [e2, e3, e4, ez] at c1
  have q0 : w.drew.cell? ⟨c, 0, none⟩ = _ := h.c0
  have q1 : w.drew.cell? ⟨c, 1, none⟩ = _ := h.c1
  have q2 : w.drew.cell? ⟨c, 2, none⟩ = _ := h.c2
  have HO : Hid (Co w c Fp FT p lo hi rows t f k m b N L) := h
  clear h hv hfv e1 e2 e3 e4 ez hs hl
  go_enter Tryz.func38, Tryz.ntmps38
  go_wp2
  refine region_planI (fun w' => w'.cell? ⟨c, 0, none⟩ = some (.int .i64 f) ∧ w'.cell? ⟨c, 1, none⟩ = some (.int .i64 (k : Int)) ∧ w'.cell? ⟨c, 2, none⟩ = some (.int .i64 (m : Int))) [0, 1, 2, 3, 4, 5, 6, 7, 8, 9, 10, 11, 12, 13, 14, 15, 16, 17, 18, 19, 20] [14, 6] 29 ⟨q0, q1, q2⟩ (by kernel_rfl) (by kernel_rfl) (fun _ a d v _ h => by cases d <;> exact h) ?_
  simp only [atI, List.getElem?_cons_zero, List.getElem?_cons_succ]
  refine planH_step ?Ag0 rfl (fun w' hS => ?sg0) rfl (fun K hK => ?ng0)
  case sg0 =>
    obtain ⟨y0, y1, y2⟩ := hS
    simp only [List.take_succ_cons, List.take_zero]
    repeat still_step
    exact rfl
  case ng0 =>
  go_simp
  go_wp2_with (go_at_call 71; (with_reducible refine c1.mono ?_); rintro e w1 ⟨u, rfl, hA⟩; clear c1; have HC := HO.out.below (undraw17 hA.bel))
  refine hK _ _ ⟨HC.c0, HC.c1, HC.c2⟩ ?_
  clear hK K
  refine planH_last ?Ag1 rfl (fun w' hS => ?sg1) rfl ?ng1
  case sg1 =>
    obtain ⟨y0, y1, y2⟩ := hS
    simp only [List.take_succ_cons, List.take_zero]
    repeat still_step
    exact rfl
  case ng1 =>
  have HG : Hid (Gi w w1 u (ems Q k).length (emz Q k)) := ⟨undraw17 hA.bel, hA.gi.2⟩
  clear hA HC HO
  go_wp2
  go_ret3
  exact ⟨_, rfl, HG.out⟩
end
def uq17 (f : Int) (k : Nat) (Q : Nat → Bool) (S Fr : Nat → Nat → Nat) (r j : Nat) : Nat → Nat
  | 0 => 0
  | x + 1 => uq17 f k Q S Fr r j x ^^^ fm 285 (par11 f k r (eN Q k x)) (S (eN Q k x) j ^^^ Fr (eN Q k x) j)
def upx17 (f : Int) (k fr tq : Nat) (Q : Nat → Bool) (S Fr : Nat → Nat → Nat) (x i j : Nat) : Nat := if k ≤ i ∧ fr ≤ j ∧ j < tq then S i j ^^^ uq17 f k Q S Fr (i - k) j x else S i j
theorem spb17 {m : Nat} {B : Nat → Nat} (inj : ∀ i j, i < m → j < m → B i = B j → i = j) (o d : Nat) (V S : Nat → Nat → Nat) {r p : Nat} (hr : r < m) :
    spb B (fun _ => o) 0 d V (fun b => S (inv9 m B b)) m (B r) p = if o ≤ p ∧ p < o + d then S r p ^^^ V r (p - o) else S r p := by
  by_cases e : o ≤ p ∧ p < o + d
  · rw [if_pos e, spb_at (r := r) m hr ⟨rfl, by omega, by omega⟩ (fun s hs hne h => hne (inj s r hs hr h.1.symm)), inv9_at inj hr]
  · rw [if_neg e, spb_none m (fun s hs h => e ⟨by omega, by omega⟩), inv9_at inj hr]
theorem Gw.re17 {w0 W : World} {v : Value} {L : Nat} {S : Nat → Nat} {E : Nat → Prop} (h : Gw w0 W v L S) (hE : ∀ x, w0.heap.size ≤ x → ¬ E x) : Re E W v L S := by
  rcases h.2 with ⟨rfl, rfl⟩ | ⟨g, C, F, rfl, a2, a3, a4, a5⟩
  · exact ⟨Nat.zero_le _, fun i hi => absurd hi (Nat.not_lt_zero _), _, _, rfl, Nat.le_refl _, Nat.zero_le _, fun h => absurd h (Nat.lt_irrefl _)⟩
  · exact (a4.re a2 a2 a4.1 (hE g a3)).congr a5
end Go.Proofs.YtefolifecbhgoaaGreat
