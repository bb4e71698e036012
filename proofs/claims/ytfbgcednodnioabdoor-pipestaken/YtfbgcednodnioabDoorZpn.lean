import Derived.Test.YtfbgcednodnioabDoorZpm
namespace Go.Proofs.YtfbgcednodnioabDoor
open Go.RowKit Gf2
set_option linter.unusedVariables false

-- layer 22: Full of a source
/-- what Full does from d bytes, i reads of nothing, the place p, t turns on: bytes, turns, error (0 none, 1 End, 2 the failure, 4 short). -/
def fu22 (n : Nat) (fa : Int) (k : Nat) (C : Nat → Int) (l : Nat) : Nat → Nat → Nat → Nat → Nat → Nat × Nat × Nat
  | 0, d, _, _, t => (d, t, 4)
  | s + 1, d, i, p, t =>
    if l ≤ d then (d, t, 0) else
    if 0 ≤ fa ∧ (p : Int) = fa then (d, t, 2) else
    if p = n then (d, t, 1) else
    if d + rd22 (l - d) n p fa k C t = l then (l, t + 1, 0) else
    if rd22 (l - d) n p fa k C t = 0 then (if i + 1 = 100 then (d, t + 1, 4) else fu22 n fa k C l s d (i + 1) p (t + 1)) else
    fu22 n fa k C l s (d + rd22 (l - d) n p fa k C t) 0 (p + rd22 (l - d) n p fa k C t) (t + 1)
/-- what is left to do. -/
def fm22 (l d i : Nat) : Nat := (l - d) * 101 + (100 - i)
/-- an error as a value. -/
def ev22 (T : TypeId) (x : Value) (f : Nat) : Nat → Value
  | 0 => .nilIface
  | 1 => .iface T x
  | 2 => .iface 51 (.pointer (some ⟨f, 0, none⟩))
  | _ => .iface 57 (.int .i64 240)
/-- two new cells: what ask makes, and how they end. -/
theorem ask_ke22 {E : Nat → Prop} {w w2 : World} (m : Int) (ev : Value) (h : Ke E ((w.alloc (.cells #[.int .i64 0] 3)).alloc (.cells #[.nilIface] 30)) w2) (hE : ∀ x, E x → x < w.heap.size) :
    w2.heap[w.heap.size]? = some (.cells #[.int .i64 0] 3 (0, 0)) ∧ w2.heap[w.heap.size + 1]? = some (.cells #[.nilIface] 30 (0, 0)) ∧
    Ke E w ((w2.setCell ⟨w.heap.size, 0, none⟩ (.int .i64 m)).setCell ⟨w.heap.size + 1, 0, none⟩ ev) ∧ (∀ x, x < w.heap.size → ((w2.setCell ⟨w.heap.size, 0, none⟩ (.int .i64 m)).setCell ⟨w.heap.size + 1, 0, none⟩ ev).heap[x]? = w2.heap[x]?) ∧
    ((w2.setCell ⟨w.heap.size, 0, none⟩ (.int .i64 m)).setCell ⟨w.heap.size + 1, 0, none⟩ ev).heap.size = w2.heap.size := by
  have b1 : Below w.heap.size w (w.alloc (.cells #[.int .i64 0] 3)) := (Below.refl _ _).alloc (Nat.le_refl _) _
  have s1 : (w.alloc (.cells #[.int .i64 0] 3)).heap.size = w.heap.size + 1 := by simp
  have b2 : Below (w.heap.size + 1) (w.alloc (.cells #[.int .i64 0] 3)) ((w.alloc (.cells #[.int .i64 0] 3)).alloc (.cells #[.nilIface] 30)) := (Below.refl _ _).alloc (by omega) _
  have s2 : ((w.alloc (.cells #[.int .i64 0] 3)).alloc (.cells #[.nilIface] 30)).heap.size = w.heap.size + 2 := by simp
  have a1 := heap_alloc_new w (.cells #[.int .i64 0] 3)
  have a2 := heap_alloc_new (w.alloc (.cells #[.int .i64 0] 3)) (.cells #[.nilIface] 30)
  rw [s1] at a2
  have k0 : Ke E w ((w.alloc (.cells #[.int .i64 0] 3)).alloc (.cells #[.nilIface] 30)) := ke_below (b1.trans (b2.mono (by omega))) E
  have o1 : Only w.heap.size w2 (w2.setCell ⟨w.heap.size, 0, none⟩ (.int .i64 m)) := (Only.refl _ _).setCell 0 _
  have o2 : Only (w.heap.size + 1) (w2.setCell ⟨w.heap.size, 0, none⟩ (.int .i64 m)) ((w2.setCell ⟨w.heap.size, 0, none⟩ (.int .i64 m)).setCell ⟨w.heap.size + 1, 0, none⟩ ev) := (Only.refl _ _).setCell 0 _
  have hx : ∀ x, x < w.heap.size → ((w2.setCell ⟨w.heap.size, 0, none⟩ (.int .i64 m)).setCell ⟨w.heap.size + 1, 0, none⟩ ev).heap[x]? = w2.heap[x]? := fun x hl => (o2.2.2 x (by omega)).trans (o1.2.2 x (by omega))
  refine ⟨?_, ?_, ?_, hx, o2.2.1.trans o1.2.1⟩
  · rw [h.2 _ (by omega) (fun e => by have := hE _ e; omega), b2.block _ (by omega)]; exact a1
  · rw [h.2 _ (by omega) (fun e => by have := hE _ e; omega)]; exact a2
  · refine ⟨(k0.trans h).1.trans (o1.1.trans o2.1), fun x hl hn => ?_⟩
    rw [hx x hl]
    exact (k0.trans h).2 x hl hn
/-- as So.keep, told block by block. -/
theorem So.same {lo hi b n k f p t : Nat} {w w' : World} {D : Nat → Nat} {C : Nat → Int} {fa code : Int} (h : So lo hi w b n D k C fa code f p t) {B : Nat} (hB : hi ≤ B) (hs : B ≤ w.heap.size) (e : ∀ x, x < B → w'.heap[x]? = w.heap[x]?) (hz : w.heap.size ≤ w'.heap.size) (hb : Below 0 w w') : So lo hi w' b n D k C fa code f p t :=
  h.keep (E := fun x => B ≤ x) ⟨hb, fun x _ hn => e x (by omega)⟩ (fun x _ h2 h3 => by omega)
/-- a source is asked: it breaks, or has ended. -/
theorem askstop22 {lo hi b n k f p t : Nat} {D : Nat → Nat} {C : Nat → Int} {fa code : Int} (v ev : Value) (w : World) (h : So lo hi w b n D k C fa code f p t) (hev : ev = .nilIface ∨ ∃ T v, ev = .iface T v)
    (c : ∀ W, So lo hi W b n D k C fa code f p t → Ke (fun _ => False) w W → Calls Tryd.prog 13 #[.pointer (some ⟨b, 0, none⟩), v] W fun e w' => e = .returned (.tuple #[.int .i64 0, ev]) ∧ ∃ m, w' = W.drewN m) :
    Calls Tryd.prog 25 #[.func (.method "Read") #[.iface 40 (.pointer (some ⟨b, 0, none⟩))] #[], v] w fun e w' => e = .returned (.tuple #[.int .i64 0, ev]) ∧ Ke (fun _ => False) w w' := by
  have k0 : Ke (fun _ => False) w ((w.alloc (.cells #[.int .i64 0] 3)).alloc (.cells #[.nilIface] 30)) := ke_below (((Below.refl _ _).alloc (Nat.le_refl _) _).alloc (by simp) _) _
  have hS := h.keep k0 (fun _ _ _ e => e)
  refine (askread22 _ v w ev hev (fun m w' => m = 0 ∧ Ke (fun _ => False) ((w.alloc (.cells #[.int .i64 0] 3)).alloc (.cells #[.nilIface] 30)) w') ((c _ hS k0).mono fun e w' ⟨he, m, hw⟩ => ?_)).mono fun e w' ⟨m, w2, he, ⟨hm, hk⟩, hw'⟩ => ⟨by rw [he, hm], ?_⟩
  · have hk : Ke (fun _ => False) ((w.alloc (.cells #[.int .i64 0] 3)).alloc (.cells #[.nilIface] 30)) w' := by rw [hw]; exact (Ke.refl _ _).drewN m
    have q := ask_ke22 0 ev hk (fun x e => e.elim)
    exact ⟨0, he, q.1, q.2.1, rfl, hk⟩
  · rw [hw']
    exact (ask_ke22 m ev hk (fun x e => e.elim)).2.2.1
/-- a source is asked, and the read has its turn. -/
theorem askturn22 {lo hi b n k f p t : Nat} {D : Nat → Nat} {C : Nat → Int} {fa code : Int} (g o N l c0 : Nat) (G : Nat → Nat) (w : World) (h : So lo hi w b n D k C fa code f p t) (hC : ∀ i, i < k → I6x (C i)) (hl : 0 < l) (hp : ¬ (0 ≤ fa ∧ (p : Int) = fa)) (hn : p < n)
    (hR : Rw w g N G) (hoN : o + l ≤ N) (hlb : l ≤ 140737488355328) (hg : g < lo ∨ hi ≤ g) :
    Calls Tryd.prog 25 #[.func (.method "Read") #[.iface 40 (.pointer (some ⟨b, 0, none⟩))] #[], .slice (some ⟨g, o, none⟩) l c0] w fun e w' => e = .returned (.tuple #[.int .i64 ((rd22 l n p fa k C t : Nat) : Int), .nilIface]) ∧
      So lo hi w' b n D k C fa code f (p + rd22 l n p fa k C t) (t + 1) ∧ Rw w' g N (pl G o (rd22 l n p fa k C t) (fun i => D (p + i))) ∧ Ke (fun x => x = b ∨ x = g) w w' := by
  have bA : Below w.heap.size w ((w.alloc (.cells #[.int .i64 0] 3)).alloc (.cells #[.nilIface] 30)) := ((Below.refl _ _).alloc (Nat.le_refl _) _).alloc (by simp) _
  have hS := h.below bA
  have rA := rw_below hR bA
  have hEb : ∀ x, (x = b ∨ x = g) → x < w.heap.size := fun x e => by
    rcases e with e | e
    · have := h.bl; have := h.hh; omega
    · rw [e]; exact hR.lt
  refine (askread22 _ _ w .nilIface (.inl rfl) (fun m w' => m = ((rd22 l n p fa k C t : Nat) : Int) ∧ So lo hi w' b n D k C fa code f (p + rd22 l n p fa k C t) (t + 1) ∧ Rw w' g N (pl G o (rd22 l n p fa k C t) (fun i => D (p + i))) ∧ Ke (fun x => x = b ∨ x = g) ((w.alloc (.cells #[.int .i64 0] 3)).alloc (.cells #[.nilIface] 30)) w')
    ((read22_turn g o N l c0 G _ hS hC hl hp hn rA hoN hlb hg).mono fun e w' ⟨he, s1, r1, k1⟩ => ?_)).mono fun e w' ⟨m, w2, he, ⟨hm, s1, r1, k1⟩, hw'⟩ => ?_
  · have q := ask_ke22 0 .nilIface k1 hEb
    exact ⟨_, he, q.1, q.2.1, rfl, s1, r1, k1⟩
  · have q := ask_ke22 m .nilIface k1 hEb
    rw [← hw'] at q
    have hb0 : Below 0 w2 w' := by
      rw [hw']
      exact (((Only.refl w.heap.size w2).setCell 0 (.int .i64 m)).1).trans (((Only.refl (w.heap.size + 1) (w2.setCell ⟨w.heap.size, 0, none⟩ (.int .i64 m))).setCell 0 .nilIface).1)
    have hz := k1.size
    have hz2 : ((w.alloc (.cells #[.int .i64 0] 3)).alloc (.cells #[.nilIface] 30)).heap.size = w.heap.size + 2 := by simp
    refine ⟨by rw [he, hm], s1.same h.hh (by omega) q.2.2.2.1 (by rw [q.2.2.2.2]; exact Nat.le_refl _) hb0, r1.of_block (q.2.2.2.1 g hR.lt), q.2.2.1⟩
end Go.Proofs.YtfbgcednodnioabDoor
