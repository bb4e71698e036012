import Derived.Test.YtefolifecbhgoaaGreatMbbi
import Derived.Test.YtefolifecbhgoaaGreatMban
namespace Go.Proofs.YtefolifecbhgoaaGreat
open Go.RowKit Gf2
set_option linter.unusedVariables false


section
variable {w : World} {Fp : Nat → Prop} {t l r N : Nat} {B : List Int → Option Nat} {MB : Nat → Nat} {K : List Int → Option Nat} {mm : Nat} {ov : Value} {L : List (Nat × Ent)}
theorem not_blk {w : World} {x e : Nat} {A C : Array Value} {T T' : TypeId} (hx : w.heap[x]? = some (.cells A T (0, 0))) (he : w.heap[e]? = some (.cells C T' (0, 0))) (hT : T ≠ T') : x ≠ e := fun h => by
  rw [h, he] at hx
  injection hx with hx
  injection hx with _ e2
  exact hT e2.symm
theorem not_map {w : World} {x e : Nat} {C : Array Value} {T' : TypeId} {es : Array MapEntry} {c : Nat} (hx : w.heap[x]? = some (.map es c)) (he : w.heap[e]? = some (.cells C T' (0, 0))) : x ≠ e := fun h => by
  rw [h, he] at hx
  cases hx
theorem Tw.revalue (h : Tw w Fp t l r N B MB K mm ov L) {eb : Nat} {x y : Ent} (hx : (eb, x) ∈ L) (hyn : y.n = x.n) (hyF : y.F = x.F) (hym : 24 * y.m ≤ 140737488351232) (hyl : ∀ i, i < y.m → y.len i ≤ 140737488351232) {vb : Nat} {Bv : Nat → Nat} (hv : Vv w vb y.m y.len Bv y.S) (f1 : Fp vb) (f2 : ∀ i, i < y.m → Fp (Bv i)) :
    Tw (w.setCell ⟨eb, 1, none⟩ (.slice (some ⟨vb, 0, none⟩) y.m y.m)) Fp t l r N B MB K mm ov (rv12 eb y L) := by
  have hTe := h.ents eb x hx
  obtain ⟨kb, vv, hE, hK, fk, -⟩ := hTe.ex
  have hTb : w.heap[t]? = some (.cells #[.int .i64 (l : Int), .pointer (some ⟨r, 0, none⟩), .int .i64 (mm : Int), ov] 115 (0, 0)) := h.tb
  have ko : ∀ q, q ≠ eb → (w.setCell ⟨eb, 1, none⟩ (.slice (some ⟨vb, 0, none⟩) y.m y.m)).heap[q]? = w.heap[q]? := fun q hq => heap_setCell_other _ _ _ _ hq
  have hnew : (w.setCell ⟨eb, 1, none⟩ (.slice (some ⟨vb, 0, none⟩) y.m y.m)).heap[eb]? = some (.cells #[.slice (some ⟨kb, 0, none⟩) x.n x.n, .slice (some ⟨vb, 0, none⟩) y.m y.m] 205 (0, 0)) := heap_setCell_same _ _ _ _ _ _ hE
  have hkey : y.key = x.key := by unfold Ent.key; rw [hyn, hyF]
  have rows : ∀ q A T, Fp q → w.heap[q]? = some (.cells A T (0, 0)) → (T = 3 ∨ T = 5 ∨ T = 27) → (w.setCell ⟨eb, 1, none⟩ (.slice (some ⟨vb, 0, none⟩) y.m y.m)).heap[q]? = w.heap[q]? := fun q A T _ hq hT =>
    ko q (not_blk hq hE (by rcases hT with rfl | rfl | rfl <;> decide))
  refine ⟨(ko t (not_blk hTb hE (by decide))).trans hTb, h.tq.of (fun p g hp => ⟨ko _ (not_blk (h.tq.node p g hp) hE (by decide)), ?_⟩), fun p e => ?_, h.nfp, h.tfp, fun b z hz => ?_, by rw [rv12_fst]; exact h.nd, h.l1, h.l2, h.cnt, h.mN, fun p hp => (h.pre p hp).imp id (fun ⟨b, z, h1, i, h2, h3⟩ => ?_), fun q hq => by have := h.fl q hq; simpa [World.setCell] using this⟩
  · obtain ⟨n, s, -, hm⟩ := h.tq.kids p g hp
    obtain ⟨es, c, hb⟩ := mp_blk hm
    exact ko _ (not_map hb hE)
  · rw [h.link p e]
    constructor
    · rintro ⟨z, h1, h2⟩
      by_cases e1 : e = eb
      · subst e1
        have e2 : z = x := congrArg Prod.snd (fst_inj h.nd h1 hx rfl)
        exact ⟨y, rv12_in hx, by rw [hkey, ← e2]; exact h2⟩
      · exact ⟨z, rv12_of h1 e1, h2⟩
    · rintro ⟨z, h1, h2⟩
      rcases rv12_mem h1 with e1 | ⟨h3, h4⟩
      · injection e1 with e2 e3
        subst e2 e3
        exact ⟨x, hx, by rw [← hkey]; exact h2⟩
      · exact ⟨z, h3, h2⟩
  · rcases rv12_mem hz with e1 | ⟨h3, h4⟩
    · injection e1 with e2 e3
      subst e2 e3
      refine ⟨⟨kb, _, by rw [hyn]; exact hnew, ?_, fk, .inr ⟨vb, Bv, rfl, hv.of (fun q hq => ?_), f1, f2⟩⟩, hTe.fp, hym, hyl, by rw [hyn, hyF]; exact hTe.isk⟩
      · rw [hyn, hyF]
        obtain ⟨A, a1, -⟩ := hK.2.2
        exact ⟨hK.1, trivial, hK.2.2.of_block (rows kb A _ fk a1 (.inl rfl))⟩
      · rcases hq with rfl | ⟨i, hi, rfl⟩
        · obtain ⟨A, a1, -⟩ := hv.list
          exact rows _ A _ f1 a1 (.inr (.inr rfl))
        · obtain ⟨A, a1, -⟩ := (hv.row i hi).2.2.2
          exact rows _ A _ (f2 i hi) a1 (.inr (.inl rfl))
    · exact (h.ents b z h3).keep (fun _ e => e) (ko b h4) rows
  · by_cases e1 : b = eb
    · subst e1
      have e2 : z = x := congrArg Prod.snd (fst_inj h.nd h1 hx rfl)
      subst e2
      exact ⟨b, y, rv12_in hx, i, by rw [hyn]; exact h2, by rw [hyF]; exact h3⟩
    · exact ⟨b, z, rv12_of h1 e1, i, h2, h3⟩
theorem us12_rv {eb : Nat} {y : Ent} : us12 eb y (rv12 eb y L) = us12 eb y L := by
  unfold us12 rv12
  congr 1
  induction L with
  | nil => rfl
  | cons z L ih =>
    rw [List.map_cons]
    by_cases e : z.1 = eb
    · rw [if_pos e, List.filter_cons, if_neg (by simp), List.filter_cons, if_neg (by simp [e])]
      exact ih
    · rw [if_neg e, List.filter_cons, if_pos (by simpa using e), List.filter_cons, if_pos (by simpa using e), ih]
structure Pt (w w' : World) (Fp : Nat → Prop) (t l N : Nat) (L : List (Nat × Ent)) : Prop where
  tv : ∃ Fp' r B MB K mm ov, Tt w' Fp' t l r N B MB K mm ov L ∧ (∀ q, Fp' q → Fp q ∨ w.heap.size ≤ q)
  ke : Ke Fp w w'
end
end Go.Proofs.YtefolifecbhgoaaGreat
namespace Go.Proofs.YtefolifecbhgoaaGreat
open Go.RowKit Gf2
set_option linter.unusedVariables false


theorem isKf_len {F : Nat → Int} {n : Nat} (h : isKf F 0 0 n = true) : n ≤ 256 := by
  obtain ⟨h1, h2⟩ := (isKf_iff n 0 0).1 h
  have up : ∀ i, i < n → (i : Int) ≤ F (0 + i) := by
    intro i
    induction i with
    | zero => intro hi; exact (h1 0 hi).1
    | succ i ih =>
      intro hi
      have a := ih (by omega)
      have b := h2 i (i + 1) (Nat.lt_succ_self _) hi
      omega
  rcases Nat.lt_or_ge 256 n with e | e
  · have a := up 256 e
    have b := (h1 256 e).2
    omega
  · exact e
def nw12 (B : List Int → Option Nat) (F : Nat → Int) : Nat → List (List Int)
  | 0 => []
  | c + 1 => if (B (tk12 F (c + 1))).isNone then nw12 B F c ++ [tk12 F (c + 1)] else nw12 B F c
theorem nw12_mem {B : List Int → Option Nat} {F : Nat → Int} {p : List Int} : ∀ c, p ∈ nw12 B F c ↔ ∃ i, i < c ∧ p = tk12 F (i + 1) ∧ B p = none
  | 0 => by simp [nw12]
  | c + 1 => by
    unfold nw12
    split
    · next e =>
      rw [List.mem_append, nw12_mem c, List.mem_singleton]
      constructor
      · rintro (⟨i, h1, h2, h3⟩ | rfl)
        · exact ⟨i, by omega, h2, h3⟩
        · exact ⟨c, by omega, rfl, by simpa using e⟩
      · rintro ⟨i, h1, h2, h3⟩
        by_cases e2 : i = c
        · subst e2; exact .inr h2
        · exact .inl ⟨i, by omega, h2, h3⟩
    · next e =>
      rw [nw12_mem c]
      constructor
      · rintro ⟨i, h1, h2, h3⟩; exact ⟨i, by omega, h2, h3⟩
      · rintro ⟨i, h1, h2, h3⟩
        by_cases e2 : i = c
        · subst e2
          rw [← h2, h3] at e
          exact absurd rfl e
        · exact ⟨i, by omega, h2, h3⟩
theorem nw12_nd {B : List Int → Option Nat} {F : Nat → Int} : ∀ c, (nw12 B F c).Nodup
  | 0 => by simp [nw12]
  | c + 1 => by
    unfold nw12
    split
    · refine List.nodup_append.2 ⟨nw12_nd c, by simp, fun a ha b hb e => ?_⟩
      obtain ⟨i, h1, h2, -⟩ := (nw12_mem c).1 ha
      rw [List.mem_singleton.1 hb, h2] at e
      have := tk12_inj e
      omega
    · exact nw12_nd c
theorem nw12_len {B : List Int → Option Nat} {F : Nat → Int} : ∀ c, (nw12 B F c).length = cnt12 B F c
  | 0 => rfl
  | c + 1 => by
    unfold nw12 cnt12
    by_cases e : B (tk12 F (c + 1)) = none
    · rw [if_pos (by rw [e]; rfl), if_pos e, List.length_append, nw12_len c, List.length_singleton]
    · rw [if_neg (by simpa using e), if_neg e, nw12_len c, Nat.add_zero]
section
variable {w w2 W : World} {Fp : Nat → Prop} {t l r N : Nat} {B B' : List Int → Option Nat} {MB MB' : Nat → Nat} {K : List Int → Option Nat} {mm : Nat} {ov : Value} {L : List (Nat × Ent)}
theorem Ad.path {n : Nat} {F : Nat → Int} (h : Ad w2 W r N F n B MB K B' MB') {g : Nat} (hg : B' (tk12 F n) = some g) : ∀ i, i ≤ n → B' (tk12 F i) ≠ none := by
  intro i hi e
  have := h.tq.toTr.gone e n hi
  rw [hg] at this
  cases this
theorem Tw.laid (h : Tt w Fp t l r N B MB K mm ov L) {n : Nat} {F : Nat → Int} (hk : isKf F 0 0 n = true) (hnew : ∀ b x, (b, x) ∈ L → x.key ≠ tk12 F n) {kb eb : Nat} (hkb : w.heap.size ≤ kb) (heb : w.heap.size ≤ eb)
    (hb : Below w.heap.size w w2) (hE : w2.heap[eb]? = some (.cells #[.slice (some ⟨kb, 0, none⟩) n n, .slice none 0 0] 205 (0, 0))) (hK : Ri w2 kb n F)
    (hA : Ad w2 W r N F n B MB K B' MB') {g : Nat} (hg : B' (tk12 F n) = some g) (hN : N + n ≤ 4611686018427387904) :
    Tw ((W.setCell ⟨g, 1, none⟩ (.pointer (some ⟨eb, 0, none⟩))).setCell ⟨t, 2, none⟩ (.int .i64 ((mm + cnt12 B F n : Nat) : Int))) (fun q => q < W.heap.size ∧ (Fp q ∨ w.heap.size ≤ q)) t l r (N + n) B' MB' (updP K (tk12 F n) (some eb)) (mm + cnt12 B F n) ov (L ++ [(eb, ⟨n, F, 0, fun _ => 0, fun _ _ => 0⟩)]) ∧
    Qo ((W.setCell ⟨g, 1, none⟩ (.pointer (some ⟨eb, 0, none⟩))).setCell ⟨t, 2, none⟩ (.int .i64 ((mm + cnt12 B F n : Nat) : Int))) (fun q => q < W.heap.size ∧ (Fp q ∨ w.heap.size ≤ q)) ov (L.map (·.1)) ∧
    Ke Fp w ((W.setCell ⟨g, 1, none⟩ (.pointer (some ⟨eb, 0, none⟩))).setCell ⟨t, 2, none⟩ (.int .i64 ((mm + cnt12 B F n : Nat) : Int))) := by
  obtain ⟨X, hX⟩ : ∃ X, X = (W.setCell ⟨g, 1, none⟩ (.pointer (some ⟨eb, 0, none⟩))).setCell ⟨t, 2, none⟩ (.int .i64 ((mm + cnt12 B F n : Nat) : Int)) := ⟨_, rfl⟩
  rw [← hX]
  have hTb : w.heap[t]? = some (.cells #[.int .i64 (l : Int), .pointer (some ⟨r, 0, none⟩), .int .i64 (mm : Int), ov] 115 (0, 0)) := h.tb
  have tlt : t < w.heap.size := (Array.getElem?_eq_some_iff.1 hTb).1
  -- cells of a kind stay from w to W
  have stW : ∀ (q : Nat) (A : Array Value) (T : TypeId), w2.heap[q]? = some (.cells A T (0, 0)) → W.heap[q]? = some (.cells A T (0, 0)) := fun q A T hq => by
    rw [hA.ke.2 q (Array.getElem?_eq_some_iff.1 hq).1 ?_]
    · exact hq
    · rintro ⟨p, g', hp, e⟩
      obtain ⟨n', s, -, hm⟩ := h.tq.kids p g' hp
      obtain ⟨es, c, hb'⟩ := mp_blk hm
      have := (hb.block _ (Array.getElem?_eq_some_iff.1 hb').1).trans hb'
      rw [← e, hq] at this
      cases this
  have st2 : ∀ (q : Nat) (A : Array Value) (T : TypeId), w.heap[q]? = some (.cells A T (0, 0)) → w2.heap[q]? = some (.cells A T (0, 0)) := fun q A T hq => (hb.block _ (Array.getElem?_eq_some_iff.1 hq).1).trans hq
  have hTW := stW t _ _ (st2 t _ _ hTb)
  have hgn : W.heap[g]? = some (.cells #[.map (some (MB' g)), pv12 (K (tk12 F n))] 170) := hA.tq.node _ g hg
  have gt : g ≠ t := not_blk hgn hTW (by decide)
  have ko : ∀ q : Nat, q ≠ g → q ≠ t → X.heap[q]? = W.heap[q]? := fun q h1 h2 => by
    rw [hX, heap_setCell_other _ _ _ _ h2, heap_setCell_other _ _ _ _ h1]
  have sX : ∀ (q : Nat) (A : Array Value) (T : TypeId), W.heap[q]? = some (.cells A T (0, 0)) → T ≠ 170 → T ≠ 115 → X.heap[q]? = some (.cells A T (0, 0)) := fun q A T hq h1 h2 => by
    rw [ko q (not_blk hq hgn h1) (not_blk hq hTW h2)]
    exact hq
  have sAll : ∀ (q : Nat) (A : Array Value) (T : TypeId), w.heap[q]? = some (.cells A T (0, 0)) → T ≠ 170 → T ≠ 115 → X.heap[q]? = w.heap[q]? := fun q A T hq h1 h2 => by
    rw [sX q A T (stW q A T (st2 q A T hq)) h1 h2, hq]
  have hszX : X.heap.size = W.heap.size := by rw [hX]; simp [World.setCell]
  have hsz := hb.size
  have hszW := hA.ke.size
  have ebn : eb ∉ L.map (·.1) := fun he => by
    obtain ⟨z, hz, e⟩ := List.mem_map.1 he
    obtain ⟨A, hA'⟩ := (h.ents z.1 z.2 hz).en
    have := (Array.getElem?_eq_some_iff.1 hA').1
    omega
  have ebl : eb < w2.heap.size := (Array.getElem?_eq_some_iff.1 hE).1
  have hkbl : kb < w2.heap.size := hK.2.2.lt
  have hKn := h.lacks hnew
  have hf : ∀ q, Fp q → q < W.heap.size ∧ (Fp q ∨ w.heap.size ≤ q) := fun q hq => ⟨by have := h.fl q hq; omega, .inl hq⟩
  have tq2 : Tq X r (N + n) B' MB' (updP K (tk12 F n) (some eb)) := by
    have h1 := (hA.tq.keep hg (some eb)).1
    refine h1.of (fun p g' hp => ⟨?_, ?_⟩)
    · have := h1.node p g' hp
      rw [hX]
      exact heap_setCell_other _ _ _ _ (fun e => by
        have h7 : (W.setCell ⟨g, 1, none⟩ (pv12 (some eb))).heap[t]? = W.heap[t]? := heap_setCell_other _ _ _ _ (Ne.symm gt)
        rw [e] at this
        rw [h7, hTW] at this
        injection this with this
        injection this with _ e2
        exact absurd e2 (by decide))
    · obtain ⟨n', s, -, hm⟩ := h1.kids p g' hp
      obtain ⟨es, c, hb'⟩ := mp_blk hm
      rw [hX]
      exact heap_setCell_other _ _ _ _ (fun e => by
        have h7 : (W.setCell ⟨g, 1, none⟩ (pv12 (some eb))).heap[t]? = W.heap[t]? := heap_setCell_other _ _ _ _ (Ne.symm gt)
        have e' : MB' g' = t := e
        rw [e', h7, hTW] at hb'
        cases hb')
  refine ⟨⟨?_, tq2, fun p e => ?_, fun p g' hp => ?_, hf _ h.tfp, fun b z hz => ?_, ?_, h.l1, h.l2, ?_, ?_, fun p hp => ?_, fun q hq => by rw [hszX]; exact hq.1⟩, ?_, ?_⟩
  · have h7 : (W.setCell ⟨g, 1, none⟩ (.pointer (some ⟨eb, 0, none⟩))).heap[t]? = some (.cells #[.int .i64 (l : Int), .pointer (some ⟨r, 0, none⟩), .int .i64 (mm : Int), ov] 115 (0, 0)) := (heap_setCell_other _ _ _ _ (Ne.symm gt)).trans hTW
    rw [hX]
    exact heap_setCell_same _ _ _ _ _ _ h7
  · unfold updP
    by_cases e1 : p = tk12 F n
    · rw [if_pos e1]
      constructor
      · intro e2
        injection e2 with e2
        subst e2
        exact ⟨_, List.mem_append.2 (.inr (List.mem_singleton.2 rfl)), e1.symm⟩
      · rintro ⟨z, h1, h2⟩
        rcases List.mem_append.1 h1 with h1 | h1
        · exact absurd (h2.trans e1) (hnew e z h1)
        · have := List.mem_singleton.1 h1
          injection this with a1 a2
          rw [a1]
    · rw [if_neg e1, h.link p e]
      constructor
      · rintro ⟨z, h1, h2⟩; exact ⟨z, List.mem_append.2 (.inl h1), h2⟩
      · rintro ⟨z, h1, h2⟩
        rcases List.mem_append.1 h1 with h1 | h1
        · exact ⟨z, h1, h2⟩
        · have := List.mem_singleton.1 h1
          injection this with a1 a2
          subst a2
          exact absurd h2.symm e1
  · have lg : g' < W.heap.size := (Array.getElem?_eq_some_iff.1 (hA.tq.node p g' hp)).1
    obtain ⟨n', s, -, hm⟩ := hA.tq.kids p g' hp
    have lm := hm.lt
    cases e : B p with
    | none =>
      have := hA.low p g' hp e
      exact ⟨⟨lg, .inr (by omega)⟩, ⟨lm, .inr (by omega)⟩⟩
    | some g0 =>
      obtain ⟨a1, a2⟩ := hA.ext p g0 e
      rw [hp] at a1
      injection a1 with a1
      subst a1
      rw [a2] at lm ⊢
      exact ⟨⟨lg, .inl (h.nfp p g' e).1⟩, ⟨lm, .inl (h.nfp p g' e).2⟩⟩
  · rcases List.mem_append.1 hz with h1 | h1
    · have hT := h.ents b z h1
      obtain ⟨A, hA'⟩ := hT.en
      exact hT.keep hf (sAll b A _ hA' (by decide) (by decide)) (fun q A T _ hq hT => sAll q A T hq (by rcases hT with rfl | rfl | rfl <;> decide) (by rcases hT with rfl | rfl | rfl <;> decide))
    · have := List.mem_singleton.1 h1
      injection this with a1 a2
      subst a1 a2
      refine ⟨⟨kb, .slice none 0 0, sX _ _ _ (stW _ _ _ hE) (by decide) (by decide), ?_, ⟨by omega, .inr hkb⟩, .inl ⟨rfl, rfl⟩⟩, ⟨by omega, .inr heb⟩, by show 24 * 0 ≤ _; omega, fun i hi => absurd hi (Nat.not_lt_zero _), hk⟩
      obtain ⟨A, b1, b2, b3⟩ := hK.2.2
      exact ⟨hK.1, trivial, A, sX _ _ _ (stW _ _ _ b1) (by decide) (by decide), b2, b3⟩
  · rw [List.map_append]
    refine List.nodup_append.2 ⟨h.nd, by simp, fun a ha b hb' e => ?_⟩
    rw [e, List.mem_singleton.1 hb'] at ha
    exact ebn ha
  · obtain ⟨PL, p1, p2, p3⟩ := h.cnt
    refine ⟨PL ++ nw12 B F n, List.nodup_append.2 ⟨p1, nw12_nd n, fun a ha b hb' e => ?_⟩, fun p => ?_, by rw [List.length_append, nw12_len, p3]⟩
    · obtain ⟨i, q1, q2, q3⟩ := (nw12_mem n).1 hb'
      rw [← e] at q3
      exact ((p2 a).1 ha).2 q3
    · rw [List.mem_append, p2, nw12_mem]
      constructor
      · rintro (⟨a1, a2⟩ | ⟨i, q1, q2, q3⟩)
        · refine ⟨a1, fun e => ?_⟩
          cases e2 : B p with
          | none => exact a2 e2
          | some g0 =>
            rw [(hA.ext p g0 e2).1] at e
            cases e
        · subst q2
          refine ⟨fun e => ?_, hA.path hg (i + 1) q1⟩
          have := congrArg List.length e
          rw [tk12_len] at this
          cases this
      · rintro ⟨a1, a2⟩
        by_cases e : B p = none
        · obtain ⟨i, hi, e2⟩ := hA.new p e a2
          cases i with
          | zero => exact absurd (by rw [e2]; rfl) a1
          | succ i => exact .inr ⟨i, hi, e2, e⟩
        · exact .inl ⟨a1, e⟩
  · have := cnt12_le B F n
    have := h.mN
    omega
  · by_cases e : B p = none
    · obtain ⟨i, hi, e2⟩ := hA.new p e hp
      exact .inr ⟨eb, _, List.mem_append.2 (.inr (List.mem_singleton.2 rfl)), i, hi, e2⟩
    · exact (h.pre p e).imp id (fun ⟨b, x, h1, h2⟩ => ⟨b, x, List.mem_append.2 (.inl h1), h2⟩)
  · rcases h.od with h1 | ⟨g', N', e, ho, hg'⟩
    · exact .inl h1
    · obtain ⟨V, ⟨A, a1, -⟩, -⟩ := ho.row
      exact .inr ⟨g', N', e, ho.of (sAll g' A _ a1 (by decide) (by decide)), hf _ hg'⟩
  · have k1 : Ke Fp w W := (ke_below hb Fp).trans (hA.ke.mono (fun q _ ⟨p, g', hp, e⟩ => by subst e; exact (h.nfp p g' hp).2))
    refine ⟨(k1.1.mono (Nat.zero_le _)).trans ?_, fun q hq hn => ?_⟩
    · rw [hX]; exact ((Below.refl 0 W).setCell (Nat.zero_le _) _).setCell (Nat.zero_le _) _
    · have e1 : q ≠ t := fun e => hn (by subst e; exact h.tfp)
      have e2 : q ≠ g := fun e => by
        subst e
        cases e3 : B (tk12 F n) with
        | none =>
          have := hA.low _ q hg e3
          omega
        | some g0 =>
          have := (hA.ext _ g0 e3).1
          rw [hg] at this
          injection this with this
          subst this
          exact hn (h.nfp _ q e3).1
      rw [ko q e2 e1]
      exact k1.2 q hq hn
end
end Go.Proofs.YtefolifecbhgoaaGreat
namespace Go.Proofs.YtefolifecbhgoaaGreat
open Go.RowKit Gf2
set_option linter.unusedVariables false


section
variable {w w2 W : World} {Fp : Nat → Prop} {t l r N : Nat} {B B' : List Int → Option Nat} {MB MB' : Nat → Nat} {K : List Int → Option Nat} {mm : Nat} {ov : Value} {L : List (Nat × Ent)}
theorem laid_t (h : Tt w Fp t l r N B MB K mm ov L) (hb : Below w.heap.size w w2) {n : Nat} {F : Nat → Int} (hA : Ad w2 W r N F n B MB K B' MB') {g : Nat} (hg : B' (tk12 F n) = some g) (v : Value) :
    (W.setCell ⟨g, 1, none⟩ v).heap[t]? = some (.cells #[.int .i64 (l : Int), .pointer (some ⟨r, 0, none⟩), .int .i64 (mm : Int), ov] 115 (0, 0)) := by
  have hTb : w.heap[t]? = some (.cells #[.int .i64 (l : Int), .pointer (some ⟨r, 0, none⟩), .int .i64 (mm : Int), ov] 115 (0, 0)) := h.tb
  have h2 : w2.heap[t]? = _ := (hb.block t (Array.getElem?_eq_some_iff.1 hTb).1).trans hTb
  have h3 : W.heap[t]? = some (.cells #[.int .i64 (l : Int), .pointer (some ⟨r, 0, none⟩), .int .i64 (mm : Int), ov] 115 (0, 0)) := by
    rw [hA.ke.2 t (Array.getElem?_eq_some_iff.1 h2).1 ?_]
    · exact h2
    · rintro ⟨p, g', hp, e⟩
      obtain ⟨n', s, -, hm⟩ := h.tq.kids p g' hp
      obtain ⟨es, c, hb'⟩ := mp_blk hm
      have := (hb.block _ (Array.getElem?_eq_some_iff.1 hb').1).trans hb'
      rw [← e, h2] at this
      cases this
  have hgn : W.heap[g]? = some (.cells #[.map (some (MB' g)), pv12 (K (tk12 F n))] 170) := hA.tq.node _ g hg
  rw [heap_setCell_other _ _ _ _ (Ne.symm (not_blk hgn h3 (by decide)))]
  exact h3
theorem Qo.form {ls : List Nat} (h : Qo w Fp ov ls) : ∃ a c, ov = .slice a ls.length c := by
  rcases h with ⟨rfl, rfl⟩ | ⟨g, N, rfl, -⟩
  · exact ⟨_, _, rfl⟩
  · exact ⟨_, _, rfl⟩
structure Ly (w w' : World) (Fp : Nat → Prop) (t l N eb : Nat) (ov : Value) (L : List (Nat × Ent)) (n : Nat) (F : Nat → Int) : Prop where
  tw : ∃ Fp' r B MB K mm, Tw w' Fp' t l r (N + n) B MB K mm ov (L ++ [(eb, ⟨n, F, 0, fun _ => 0, fun _ _ => 0⟩)]) ∧ Qo w' Fp' ov (L.map (·.1)) ∧ (∀ q, Fp' q → Fp q ∨ w.heap.size ≤ q) ∧ (∀ q, Fp q → Fp' q)
  ke : Ke Fp w w'
  lo : w.heap.size ≤ eb
theorem undrewN {w x : World} {q : Nat} (h : Below (w.drewN q).heap.size (w.drewN q) x) : Below w.heap.size w x := ⟨h.os, h.tape, h.output, h.size, h.block⟩
set_option maxHeartbeats 4000000 in
set_option maxRecDepth 100000 in
theorem lay12_room (h : Tt w Fp t l r N B MB K mm ov L) (v : Value) (n : Nat) (F : Nat → Int) (hv : Qi w v n F) (hw : ∀ i, i < n → (Lit.int .i64 (F i)).wf = true) (hk : isKf F 0 0 n = true) (hnew : ∀ b x, (b, x) ∈ L → x.key ≠ tk12 F n) (hroom : L.length < l) (hN : N + n ≤ 4611686018427387904) :
    Calls Tryz.prog 141 #[.pointer (some ⟨t, 0, none⟩), v] w fun e w' => ∃ eb, e = .returned (.pointer (some ⟨eb, 0, none⟩)) ∧ Ly w w' Fp t l N eb ov L n F := by
  have hTb : w.heap[t]? = some (.cells #[.int .i64 (l : Int), .pointer (some ⟨r, 0, none⟩), .int .i64 (mm : Int), ov] 115 (0, 0)) := h.tb
  obtain ⟨oa, oc, eo⟩ := h.od.form
  have hlen := isKf_len hk
  have hmN := h.mN
  have hcl := cnt12_le B F n
  have c1 : ∀ q, Calls Tryz.prog 153 #[v] (w.drewN q) fun e w' => e = .returned (.slice (some ⟨w.heap.size, 0, none⟩) n n) ∧ Ri w' w.heap.size n F ∧ Below w.heap.size w w' := fun q =>
    (copied12 v n F (w.drewN q) hv (by omega)).mono fun e w' ⟨a1, a2, a3⟩ => ⟨a1, a2, undrewN a3⟩
  have z0 : w.cell? ⟨t, 0, none⟩ = some (.int .i64 (l : Int)) := by rw [cell_of_row _ _ 0 _ _ _ hTb]; rfl
  have z3 : w.cell? ⟨t, 3, none⟩ = some (.slice oa (L.map (·.1)).length oc) := by rw [cell_of_row _ _ 3 _ _ _ hTb, ← eo]; rfl
  have D1 : decide (((L.map (·.1)).length : Int) ≥ (l : Int)) = false := by rw [List.length_map]; simp; omega
  have D2 : ¬ ((L.map (·.1)).length ≥ l) := by rw [List.length_map]; omega
  have D3 : ¬ (l ≤ (L.map (·.1)).length) := by rw [List.length_map]; omega
  obtain ⟨-, -, va, vc, ev, -⟩ := id hv
  have HH : Hid (Tt w Fp t l r N B MB K mm ov L ∧ (∀ i, i < n → (Lit.int .i64 (F i)).wf = true) ∧ isKf F 0 0 n = true ∧ (∀ b x, (b, x) ∈ L → x.key ≠ tk12 F n) ∧ N + n ≤ 4611686018427387904 ∧ mm + cnt12 B F n ≤ N + n) := ⟨h, hw, hk, hnew, hN, by omega⟩
  subst ev
  generalize (L.map (·.1)).length = lo at z3 D1 D2 D3
  clear hv hw hk hnew hroom hN hlen hmN hcl h hTb eo
  go_enter Tryz.func141, Tryz.ntmps141
  go_wp2
  go_quiet (fail)
  go_wp2_with (go_at_call 153; (with_reducible refine (c1 _).mono ?_); rintro e w1 ⟨rfl, hK, hb1⟩; clear c1)
  obtain ⟨w2, hw2⟩ : ∃ w2, w2 = w1.alloc (.cells #[.slice (some ⟨w.heap.size, 0, none⟩) n n, .slice none 0 0] 205) := ⟨_, rfl⟩
  have hb2 : Below w.heap.size w w2.drew := by rw [hw2]; exact (hb1.alloc hb1.size _).drew
  have hE : w2.drew.heap[w1.heap.size]? = some (.cells #[.slice (some ⟨w.heap.size, 0, none⟩) n n, .slice none 0 0] 205 (0, 0)) := by rw [hw2]; exact heap_alloc_new _ _
  have hK2 : Ri w2.drew w.heap.size n F := by
    rw [hw2]
    exact ⟨hK.1, trivial, hK.2.2.alloc _⟩
  have hQ2 : Qi w2.drew (.slice (some ⟨w.heap.size, 0, none⟩) n n) n F := ⟨hK.1, trivial, _, _, rfl, Nat.le_refl _, hK.1, fun _ => ⟨w.heap.size, 0, rfl, hK2.2.2.lt, fun i hi => by rw [Nat.zero_add]; exact hK2.2.2.cell hi⟩⟩
  have h2 := HH.out.1.below hb2
  have hTb2 : w2.drew.heap[t]? = some (.cells #[.int .i64 (l : Int), .pointer (some ⟨r, 0, none⟩), .int .i64 (mm : Int), ov] 115 (0, 0)) := h2.tb
  have cA := add12 r w1.heap.size n N n (some ⟨w.heap.size, 0, none⟩) (.slice none 0 0) B MB K F w2.drew h2.tq hE hQ2 HH.out.2.1 (by have := HH.out.2.2.2.2.1; unfold maxLen; omega)
  have HG : Hid (Below w.heap.size w w2.drew ∧ w2.drew.heap[w1.heap.size]? = some (.cells #[.slice (some ⟨w.heap.size, 0, none⟩) n n, .slice none 0 0] 205 (0, 0)) ∧ Ri w2.drew w.heap.size n F ∧ w.heap.size ≤ w1.heap.size) := ⟨hb2, hE, hK2, hb1.size⟩
  have y1 : w2.drew.cell? ⟨t, 1, none⟩ = some (.pointer (some ⟨r, 0, none⟩)) := by rw [cell_of_row _ _ 1 _ _ _ hTb2]; rfl
  have y2 : w2.drew.cell? ⟨t, 2, none⟩ = some (.int .i64 (mm : Int)) := by rw [cell_of_row _ _ 2 _ _ _ hTb2]; rfl
  rw [← hw2]
  generalize w1.heap.size = eb at cA HG ⊢
  clear hw2 hb1 hK hb2 hE hK2 hQ2 h2 hTb2 z0 z3 D1 D2 D3
  have hcB : mm + cnt12 B F n ≤ 4611686018427387904 := by have := HH.out.2.2.2.2; omega
  obtain ⟨cc, hcc⟩ : ∃ cc, cc = cnt12 B F n := ⟨_, rfl⟩
  rw [← hcc] at cA hcB
  have Wm : IntKind.i64.wrap ((mm : Int) + (cc : Int)) = ((mm + cc : Nat) : Int) := by rw [IntKind.wrap_i64]; omega
  have HCC : Hid (cc = cnt12 B F n) := hcc
  clear hcc hcB
  refine region_planJ (fun w' => w'.cell? ⟨t, 1, none⟩ = some (.pointer (some ⟨r, 0, none⟩)) ∧ w'.cell? ⟨t, 2, none⟩ = some (.int .i64 (mm : Int))) 13 [9, 3] 42 ⟨y1, y2⟩ (by kernel_rfl) (by kernel_rfl) (fun _ a d v _ h => by cases d <;> exact h) ?_
  clear y1 y2
  refine planT_step ?A1 rfl (fun w' hS => ?s1) rfl (fun K hK => ?n1)
  case s1 =>
    obtain ⟨y1, y2⟩ := hS
    simp only [List.take_succ_cons, List.take_zero]
    repeat still_step
    exact rfl
  case n1 =>
  go_simp
  go_wp2_with (go_at_call 154; (with_reducible refine cA.mono ?_); rintro e w3 ⟨rfl, W, B', MB', g, hA, hg, hw3⟩; have HW3 : Hid (w3 = W.setCell ⟨g, 1, none⟩ (.pointer (some ⟨eb, 0, none⟩))) := hw3; clear hw3)
  clear cA
  have hw3 := HW3.out
  have hT3 := laid_t HH.out.1 HG.out.1 hA hg (.pointer (some ⟨eb, 0, none⟩))
  rw [← hw3] at hT3
  have y1 : w3.cell? ⟨t, 1, none⟩ = some (.pointer (some ⟨r, 0, none⟩)) := by rw [cell_of_row _ _ 1 _ _ _ hT3]; rfl
  have y2 : w3.cell? ⟨t, 2, none⟩ = some (.int .i64 (mm : Int)) := by rw [cell_of_row _ _ 2 _ _ _ hT3]; rfl
  have f2 := frozen_of_row w3 t 2 _ _ hT3
  obtain ⟨j1, j2, j3⟩ := Tw.laid HH.out.1 HH.out.2.2.1 HH.out.2.2.2.1 (Nat.le_refl _) HG.out.2.2.2 HG.out.1 HG.out.2.1 HG.out.2.2.1 hA hg HH.out.2.2.2.2.1
  rw [← hw3, ← HCC.out] at j1 j2 j3
  have HL : Hid (Ly w (w3.setCell ⟨t, 2, none⟩ (.int .i64 ((mm + cc : Nat) : Int))) Fp t l N eb ov L n F) :=
    ⟨⟨_, r, B', MB', _, _, j1, j2, fun q hq => hq.2, fun q hq => ⟨by
      have a1 := HH.out.1.fl q hq
      have a2 := HG.out.1.size
      have a3 := hA.ke.size
      omega, .inl hq⟩⟩, j3, HG.out.2.2.2⟩
  refine hK _ _ ⟨y1, y2⟩ ?_
  clear hK K hT3 j1 j2 j3 hA hg hw3 y1
  refine planT_last ?A2 rfl (fun w' hS => ?s2) rfl ?n2
  case s2 =>
    simp only [List.take_succ_cons, List.take_zero]
    repeat still_step
    exact rfl
  case n2 =>
  simp only [List.drop_succ_cons, List.drop_zero]
  go_wp2
  go_ret
  exact ⟨eb, rfl, HL.out⟩
end
end Go.Proofs.YtefolifecbhgoaaGreat
namespace Go.Proofs.YtefolifecbhgoaaGreat
open Go.RowKit Gf2
set_option linter.unusedVariables false


section
variable {w : World} {Fp : Nat → Prop} {t l r N : Nat} {B : List Int → Option Nat} {MB : Nat → Nat} {K : List Int → Option Nat} {mm : Nat} {ov : Value} {L : List (Nat × Ent)}
theorem filter_new {eb : Nat} (h : eb ∉ L.map (·.1)) : L.filter (fun z => decide (z.1 ≠ eb)) = L := List.filter_eq_self.2 (fun a ha => by
  simp only [decide_eq_true_eq]
  intro e
  exact h (List.mem_map.2 ⟨a, ha, e⟩))
theorem us12_new {eb : Nat} {x y : Ent} (h : eb ∉ L.map (·.1)) : us12 eb y (L ++ [(eb, x)]) = L ++ [(eb, y)] := by
  unfold us12
  rw [List.filter_append, filter_new h]
  simp
theorem put12_mid2 {w3 w8 : World} {eb n : Nat} {F : Nat → Int} (hl : L.length < l) (hy : Ly w w3 Fp t l N eb ov L n F) {m : Nat} {len : Nat → Nat} {S : Nat → Nat → Nat} (hm : 24 * m ≤ 140737488351232) (hn : ∀ i, i < m → len i ≤ 140737488351232) {B8 : Nat → Nat} (hV : Vv w8 w3.heap.size m len B8 S) (hb : Below w3.heap.size w3 w8) :
    (Calls Tryz.prog 134 #[.pointer (some ⟨t, 0, none⟩), .pointer (some ⟨eb, 0, none⟩)] (w8.setCell ⟨eb, 1, none⟩ (.slice (some ⟨w3.heap.size, 0, none⟩) m m)) fun e w' => e = .returned (.tuple #[]) ∧ Pt w w' Fp t l (N + n) (L ++ [(eb, ⟨n, F, m, len, S⟩)])) ∧
    ∃ vv, w8.cell? ⟨eb, 1, none⟩ = some vv ∧ w8.frozen? ⟨eb, 1, none⟩ = false := by
  obtain ⟨Fp', r, B, MB, K, mm, hT, hO, f1, f2⟩ := hy.tw
  have hx : (eb, (⟨n, F, 0, fun _ => 0, fun _ _ => 0⟩ : Ent)) ∈ L ++ [(eb, ⟨n, F, 0, fun _ => 0, fun _ _ => 0⟩)] := List.mem_append.2 (.inr (List.mem_singleton.2 rfl))
  have hTe := hT.ents eb _ hx
  obtain ⟨kb, vv, hE, -⟩ := hTe.ex
  have hE8 : w8.heap[eb]? = some (.cells #[.slice (some ⟨kb, 0, none⟩) n n, vv] 205 (0, 0)) := (hb.block eb (Array.getElem?_eq_some_iff.1 hE).1).trans hE
  have ebn : eb ∉ L.map (·.1) := by
    have := hT.nd
    rw [List.map_append, List.nodup_append] at this
    exact fun he => this.2.2 eb he eb (by simp) rfl
  have hs3 := hy.ke.size
  have hf : ∀ q, Fp' q → q < w8.heap.size ∧ (Fp q ∨ w.heap.size ≤ q) := fun q hq => ⟨Nat.lt_of_lt_of_le (hT.fl q hq) hb.size, f1 q hq⟩
  have h8 : Tw w8 (fun q => q < w8.heap.size ∧ (Fp q ∨ w.heap.size ≤ q)) t l r (N + n) B MB K mm ov (L ++ [(eb, ⟨n, F, 0, fun _ => 0, fun _ _ => 0⟩)]) := (hT.below hb).more hf (fun q hq => hq.1)
  have o8 : Qo w8 (fun q => q < w8.heap.size ∧ (Fp q ∨ w.heap.size ≤ q)) ov (L.map (·.1)) := (hO.ke (ke_below hb (fun _ => False)) (fun _ e => e.elim)).more hf
  have h9 := h8.revalue (y := ⟨n, F, m, len, S⟩) hx rfl rfl hm hn hV ⟨hV.list.lt, .inr hs3⟩ (fun i hi => ⟨(hV.row i hi).2.lt, .inr (by have := (hV.row i hi).1; omega)⟩)
  have o9 : Qo (w8.setCell ⟨eb, 1, none⟩ (.slice (some ⟨w3.heap.size, 0, none⟩) m m)) (fun q => q < w8.heap.size ∧ (Fp q ∨ w.heap.size ≤ q)) ov (L.map (·.1)) := by
    rcases o8 with h1 | ⟨g, N', e, ho, hg⟩
    · exact .inl h1
    · obtain ⟨V, ⟨A, a1, -⟩, -⟩ := ho.row
      exact .inr ⟨g, N', e, ho.of (heap_setCell_other _ _ _ _ (not_blk a1 hE8 (by decide))), hg⟩
  have hin := rv12_in (y := (⟨n, F, m, len, S⟩ : Ent)) hx
  have cU := h9.used o9 (by rw [List.length_map]; have := hT.l2; omega) (fun z hz => by
    obtain ⟨u, hu, rfl⟩ := List.mem_map.1 hz
    have e : u.1 ≠ eb := fun e => ebn (List.mem_map.2 ⟨u, hu, e⟩)
    exact (h9.ents u.1 u.2 (rv12_of (List.mem_append.2 (.inl hu)) e)).en) hin (by unfold rv12; rw [List.length_map, List.length_append, List.length_singleton]; omega) (by
      rw [us12_rv, us12_new ebn, List.map_append]
      unfold wo12
      rw [show (L.map (·.1)).filter (fun z => decide (z ≠ eb)) = L.map (·.1) from List.filter_eq_self.2 (fun a ha => by simp only [decide_eq_true_eq]; exact fun e => ebn (e ▸ ha))]
      rfl)
  rw [us12_rv, us12_new ebn] at cU
  refine ⟨cU.mono ?_, vv, by rw [cell_of_row _ _ 1 _ _ _ hE8]; rfl, frozen_of_row w8 eb 1 _ _ hE8⟩
  rintro e w' ⟨rfl, hU⟩
  have hsz : (w8.setCell ⟨eb, 1, none⟩ (.slice (some ⟨w3.heap.size, 0, none⟩) m m)).heap.size = w8.heap.size := by simp [World.setCell]
  obtain ⟨ov', hT'⟩ := hU.tt
  refine ⟨rfl, ⟨_, r, B, MB, K, mm, ov', hT', fun q hq => ?_⟩, ?_⟩
  · rcases hq with hq | rfl
    · exact hq.2
    · right
      rw [hsz]
      exact Nat.le_trans hs3 hb.size
  · have k1 : Ke Fp w w8 := hy.ke.trans (ke_below hb Fp)
    have k2 : Ke (fun q => q = eb) w8 (w8.setCell ⟨eb, 1, none⟩ (.slice (some ⟨w3.heap.size, 0, none⟩) m m)) := ((Kp.refl eb w8).setCell 1 _).ke
    refine ⟨(k1.1.trans k2.1).trans hU.ke.1, fun q hq hn => ?_⟩
    have e1 : q ≠ eb := fun e => by have := hy.lo; omega
    have e2 : q ≠ t := fun e => by
      subst e
      have := f1 q hT.tfp
      rcases this with h | h
      · exact hn h
      · omega
    rw [hU.ke.2 q (by rw [hsz]; exact Nat.lt_of_lt_of_le hq k1.size) e2, k2.2 q (Nat.lt_of_lt_of_le hq k1.size) e1]
    exact k1.2 q hq hn
set_option maxHeartbeats 2000000 in
set_option maxRecDepth 100000 in
theorem put12_new (h : Tt w Fp t l r N B MB K mm ov L) (v u : Value) (n : Nat) (F : Nat → Int) (hv : Qi w v n F) (hw : ∀ i, i < n → (Lit.int .i64 (F i)).wf = true) (hk : isKf F 0 0 n = true) (hnew : ∀ b x, (b, x) ∈ L → x.key ≠ tk12 F n) (hroom : L.length < l) (hN : N + n ≤ 4611686018427387904)
    (m : Nat) (len : Nat → Nat) (S : Nat → Nat → Nat) (hu : Ll Fp w u m len S) (hm : 24 * m ≤ 140737488351232) (hn : ∀ i, i < m → len i ≤ 140737488351232) :
    Calls Tryz.prog 124 #[.pointer (some ⟨t, 0, none⟩), v, u] w fun e w' => e = .returned (.int .i64 0) ∧ ∃ eb, Pt w w' Fp t l (N + n) (L ++ [(eb, ⟨n, F, m, len, S⟩)]) := by
  have c0 := isKey12 v n F w hv
  have c1 := find12 t r n N l mm ov v B MB K F w h.tb h.tq hv hw
  rw [hk] at c0
  rw [h.lacks hnew, show pv12 none = Value.pointer none from rfl] at c1
  have c2 := lay12_room h v n F hv hw hk hnew hroom hN
  have q1 := h.tb.c1
  obtain ⟨-, -, a, cap, rfl, -⟩ := hv
  have HU : Hid (Ll Fp w u m len S ∧ 24 * m ≤ 140737488351232 ∧ (∀ i, i < m → len i ≤ 140737488351232) ∧ L.length < l) := ⟨hu, hm, hn, hroom⟩
  obtain ⟨V, ⟨-, ua, uc, rfl, -⟩, -⟩ := hu
  clear h hw hm hn hk hnew hroom hN
  go_enter Tryz.func124, Tryz.ntmps124
  go_wp2_with (first
    | (go_at_call 140; (with_reducible refine c0.mono ?_); rintro e w9 ⟨rfl, hw9⟩; have hw9 := hw9.symm; subst hw9; clear c0)
    | (go_at_call 133; (with_reducible refine c1.mono ?_); rintro e w9 ⟨rfl, hw9⟩; have hw9 := hw9.symm; subst hw9; clear c1 q1)
    | (go_at_call 141; (with_reducible refine c2.mono ?_); rintro e w3 ⟨eb, rfl, hy⟩; clear c2; have c3 := copies12 (.slice ua m uc) m len S w3 ((Ll.ke HU.out.1 hy.ke).lb) HU.out.2.1 HU.out.2.2.1; have HY : Hid _ := hy; clear hy)
    | (go_at_call 135; (with_reducible refine c3.mono ?_); rintro e w8 ⟨B8, rfl, hV, hb⟩; clear c3; obtain ⟨cU, vz, z1, z2⟩ := put12_mid2 HU.out.2.2.2 HY.out HU.out.2.1 HU.out.2.2.1 hV hb; clear hV hb)
    | (go_at_call 134; (with_reducible refine cU.mono ?_); rintro e w7 ⟨rfl, hP⟩; clear cU z1 z2; have HP : Hid _ := hP; clear hP))
  go_ret
  exact ⟨rfl, eb, HP.out⟩
end
end Go.Proofs.YtefolifecbhgoaaGreat
