import Derived.Test.YtefolifecbhgoaaGreatMbbk
import Derived.Test.YtefolifecbhgoaaGreatMban
import Derived.Maps.RangeWalk
import Derived.Sort.KeysCollected
namespace Go.Proofs.YtefolifecbhgoaaGreat
open Go.RowKit Gf2
set_option linter.unusedVariables false


theorem Mp.none_iff {w : World} {b n s : Nat} {M : Int → Option Nat} (h : Mp w b n s M) : s = 0 ↔ ∀ x, M x = none := by
  obtain ⟨D, h1, h2, h3, h4⟩ := h
  obtain ⟨es, rfl, hk⟩ := h1.keysOf
  have hs : es.length = s := h4
  constructor
  · intro e x
    have : es = [] := List.length_eq_zero_iff.1 (by omega)
    subst this
    have := h3 x
    have e2 : Maps.has (.map ([] : List (Lit × DataW Unit))) (.int .i64 x) = false := rfl
    rw [e2] at this
    cases hm : M x with
    | none => rfl
    | some g => rw [hm] at this; cases this
  · intro e
    cases es with
    | nil => exact hs.symm
    | cons p t =>
      obtain ⟨v, hv⟩ := hk p (List.mem_cons_self ..)
      obtain ⟨x, -, hx, -⟩ := Maps.keyOf_int_inv Tryz.underlying3 hv
      have h5 := h3 x
      rw [e x] at h5
      have : Maps.has (.map (p :: t)) (.int .i64 x) = true := by
        rw [Maps.has_eq, List.any_cons, hx]
        simp [Lit.sameKey]
      rw [this] at h5
      cases h5
theorem tail12 (x : Option Addr) (L C : Nat) (hL : 1 ≤ L) (hC : L ≤ C) : ∃ a', (∀ b o, x = some ⟨b, o, none⟩ → 1 < L → a' = some ⟨b, o + 1, none⟩) ∧
    ∀ W : World, (Instr.slice 40 (.slice x L C) (some (.int .i64 1)) none none).run Tryz.prog W = .ok (.slice a' (L - 1) (C - 1)) W := by
  have he : Tryz.prog.elem 40 = 3 := by kernel_rfl
  have hsz : ∀ W : World, (sizeOf 3).run Tryz.prog W = .ok 1 W := fun W => by
    obtain ⟨i, hi, -, hs, -⟩ := info_inta
    simp [sizeOf, typeInfo, hi, hs]
  refine ⟨if C = 1 then x else x.map (·.add (1 * 1)), fun b o e h0 => ?_, fun W => ?_⟩
  · subst e
    rw [if_neg (by omega)]
    show some ((⟨b, o, none⟩ : Addr).add (1 * 1)) = _
    rw [Addr.add_lit, Nat.mul_one]
  · have h := run_slice_l (P := Tryz.prog) (w := W) 40 x L C (by rw [he]; exact Tryz.underlying40) .i64 1 (by omega) (by omega)
    rw [h, he, hsz]
    have e2 : (1 : Int).toNat = 1 := rfl
    simp only [Result.andThen, sliced, e2]
theorem Qi.tail12 {w : World} {x a' : Option Addr} {L C : Nat} {F : Nat → Int} (h : Qi w (.slice x L C) L F) (hL : 1 ≤ L) (ha : ∀ b o, x = some ⟨b, o, none⟩ → 1 < L → a' = some ⟨b, o + 1, none⟩) : Qi w (.slice a' (L - 1) (C - 1)) (L - 1) (fun i => F (1 + i)) := by
  obtain ⟨h1, h2, a, cap, e, h5, h6, h4⟩ := h
  cases e
  refine ⟨by omega, trivial, _, _, rfl, by omega, by omega, fun h0 => ?_⟩
  obtain ⟨b, o, e, hl, hc⟩ := h4 (by omega)
  exact ⟨b, o + 1, ha b o e (by omega), hl, fun i hi => by rw [Nat.add_assoc]; exact hc (1 + i) (by omega)⟩
theorem tk12_len' (F : Nat → Int) (c : Nat) : (tk12 F c).length = c := by unfold tk12; simp
def cutB (B : List Int → Option Nat) (F : Nat → Int) (d n : Nat) : List Int → Option Nat := fun p => if d < p.length ∧ p.length ≤ n ∧ p = tk12 F p.length then none else B p
theorem cutB_id (B : List Int → Option Nat) (F : Nat → Int) (n : Nat) : cutB B F n n = B := by
  funext p
  exact if_neg (fun h => by omega)
theorem cutB_at {B : List Int → Option Nat} {F : Nat → Int} {d n i : Nat} : cutB B F d n (tk12 F i) = if d < i ∧ i ≤ n then none else B (tk12 F i) := by
  unfold cutB
  rw [tk12_len']
  by_cases h : d < i ∧ i ≤ n
  · rw [if_pos ⟨h.1, h.2, rfl⟩, if_pos h]
  · rw [if_neg (fun x => h ⟨x.1, x.2.1⟩), if_neg h]
theorem cutB_kid {B : List Int → Option Nat} {F : Nat → Int} {d n i : Nat} {x : Int} : cutB B F d n (tk12 F i ++ [x]) = if d ≤ i ∧ i < n ∧ x = F i then none else B (tk12 F i ++ [x]) := by
  unfold cutB
  have hl : (tk12 F i ++ [x]).length = i + 1 := by rw [List.length_append, tk12_len']; rfl
  rw [hl, tk12_succ]
  by_cases h : d ≤ i ∧ i < n ∧ x = F i
  · rw [if_pos ⟨by omega, by omega, by rw [h.2.2]⟩, if_pos h]
  · rw [if_neg (fun y => h ⟨by omega, by omega, (snoc_inj y.2.2).2⟩), if_neg h]
theorem cutB_some {B : List Int → Option Nat} {F : Nat → Int} {d n g : Nat} {p : List Int} (h : cutB B F d n p = some g) : B p = some g := by
  unfold cutB at h
  split at h
  · cases h
  · exact h
structure Cu12 (w w' : World) (r N : Nat) (B : List Int → Option Nat) (MB : Nat → Nat) (K : List Int → Option Nat) (F : Nat → Int) (c d n : Nat) : Prop where
  hd : c ≤ d ∧ d ≤ n
  tq : Tq w' r N (cutB B F d n) MB (updP K (tk12 F n) none)
  gone : ∀ i, d < i → i ≤ n → (i < n → K (tk12 F i) = none) ∧ ∀ x, B (tk12 F i ++ [x]) ≠ none → i < n ∧ x = F i
  need : c < d → (d < n ∧ K (tk12 F d) ≠ none) ∨ ∃ x, B (tk12 F d ++ [x]) ≠ none ∧ ¬ (d < n ∧ x = F d)
  ke : Ke (fun b => ∃ p g, B p = some g ∧ (b = g ∨ b = MB g)) w w'
theorem Tq.strike {w w2 : World} {r N : Nat} {B : List Int → Option Nat} {MB : Nat → Nat} {K : List Int → Option Nat} {F : Nat → Int} {c n g : Nat} (h : Tq w r N (cutB B F (c + 1) n) MB K) (hc : c < n) (hg : B (tk12 F c) = some g) (hk : K (tk12 F (c + 1)) = none) (hl : ∀ x, cutB B F (c + 1) n (tk12 F (c + 1) ++ [x]) = none)
    {n1 s1 : Nat} (hn : n1 ≤ N) (hM : Mp w2 (MB g) n1 s1 (upd12 (fun x => cutB B F (c + 1) n (tk12 F c ++ [x])) (F c) none)) (ht : w.mapTurned w2 (MB g)) : Tq w2 r N (cutB B F c n) MB K := by
  have gr := ht.grown
  have old : ∀ k, k < w.heap.size → k ≠ MB g → w2.heap[k]? = w.heap[k]? := fun k hk hne => gr.block k hk (fun e => hne (by cases e; rfl))
  have hgB : cutB B F (c + 1) n (tk12 F c) = some g := by rw [cutB_at, if_neg (by omega)]; exact hg
  have sub : ∀ p k, cutB B F c n p = some k → cutB B F (c + 1) n p = some k := fun p k hp => by
    unfold cutB at hp ⊢
    split at hp
    · cases hp
    · next e => rw [if_neg (fun x => e ⟨by omega, x.2.1, x.2.2⟩)]; exact hp
  have lt : ∀ p k, cutB B F (c + 1) n p = some k → k < w.heap.size := fun p k hp => (Array.getElem?_eq_some_iff.1 (h.node p k hp)).1
  have nm : ∀ p k, cutB B F (c + 1) n p = some k → k ≠ MB g := fun p k hp e => by
    obtain ⟨n', s', -, hm⟩ := h.kids _ _ hgB
    obtain ⟨es, cl, hb⟩ := mp_blk hm
    have := h.node p k hp
    rw [e, hb] at this
    cases this
  have off1 : cutB B F c n (tk12 F (c + 1)) = none := by rw [cutB_at, if_pos (by omega)]
  have same : ∀ p, p ≠ tk12 F (c + 1) → cutB B F c n p = cutB B F (c + 1) n p := fun p hp => by
    unfold cutB
    by_cases e : c + 1 < p.length ∧ p.length ≤ n ∧ p = tk12 F p.length
    · rw [if_pos e, if_pos ⟨by omega, e.2.1, e.2.2⟩]
    · rw [if_neg e, if_neg (fun x => ?_)]
      by_cases e2 : p.length = c + 1
      · exact hp (by rw [x.2.2, e2])
      · exact e ⟨by omega, x.2.1, x.2.2⟩
  refine ⟨⟨?_, fun p k hp => ?_, fun p k hp => ?_, fun p x hp => ?_⟩, fun p hp => ?_, fun p q k h1 h2 => h.inj p q k (sub _ _ h1) (sub _ _ h2), fun p q k k' h1 h2 e => h.minj p q k k' (sub _ _ h1) (sub _ _ h2) e⟩
  · rw [same [] (fun e => by have := congrArg List.length e; rw [tk12_len'] at this; simp at this)]
    exact h.root
  · have h1 := sub p k hp
    rw [old k (lt p k h1) (nm p k h1)]
    exact h.node p k h1
  · have h1 := sub p k hp
    by_cases e : p = tk12 F c
    · subst e
      rw [hgB] at h1
      cases h1
      refine ⟨n1, s1, hn, ?_⟩
      have e2 : upd12 (fun x => cutB B F (c + 1) n (tk12 F c ++ [x])) (F c) none = fun x => cutB B F c n (tk12 F c ++ [x]) := by
        funext x
        unfold upd12
        by_cases e3 : x = F c
        · rw [if_pos e3, e3, ← tk12_succ, off1]
        · rw [if_neg e3]
          exact (same _ (fun e4 => e3 (by rw [tk12_succ] at e4; exact (snoc_inj e4).2))).symm
      rw [← e2]
      exact hM
    · obtain ⟨n', s', a1, hm⟩ := h.kids p k h1
      refine ⟨n', s', a1, ?_⟩
      have e2 : (fun x => cutB B F c n (p ++ [x])) = fun x => cutB B F (c + 1) n (p ++ [x]) := by
        funext x
        exact same _ (fun e4 => e (by rw [tk12_succ] at e4; exact (snoc_inj e4).1))
      rw [e2]
      exact hm.of_block (old _ hm.lt (fun e5 => e (h.minj p (tk12 F c) k g h1 hgB e5)))
  · by_cases e : p ++ [x] = tk12 F (c + 1)
    · rw [e]; exact off1
    · rw [same _ e]
      by_cases e2 : p = tk12 F (c + 1)
      · rw [e2]; exact hl x
      · exact h.off p x (by rw [← same p e2]; exact hp)
  · by_cases e2 : p = tk12 F (c + 1)
    · rw [e2]; exact hk
    · exact h.kept p (by rw [← same p e2]; exact hp)
end Go.Proofs.YtefolifecbhgoaaGreat
