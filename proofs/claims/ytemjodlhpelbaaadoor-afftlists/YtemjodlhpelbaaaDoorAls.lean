import Derived.Test.YtemjodlhpelbaaaDoorAaq
namespace Go.Proofs.YtemjodlhpelbaaaDoor
open Go.RowKit Gf2
set_option linter.unusedVariables false

-- layer 14: an inventory of lists, for AfftLists
abbrev En := Nat × Nat × (Nat → Nat)
/-- lists in rows of their own, all of them at the base or behind. -/
def Iv (wB W : World) (l : List En) : Prop := (∀ p ∈ l, wB.heap.size ≤ p.1 ∧ R6 W p.1 p.2.1 p.2.2) ∧ l.Pairwise (fun p q => p.1 ≠ q.1)
theorem Iv.at {wB W : World} {l : List En} (h : Iv wB W l) {k : Nat} {p : En} (e : l[k]? = some p) : wB.heap.size ≤ p.1 ∧ R6 W p.1 p.2.1 p.2.2 := h.1 p (List.mem_of_getElem? e)
theorem Iv.ne {wB W : World} {l : List En} (h : Iv wB W l) {i j : Nat} {p q : En} (hi : l[i]? = some p) (hj : l[j]? = some q) (hij : i ≠ j) : p.1 ≠ q.1 := by
  have li : i < l.length := (List.getElem?_eq_some_iff.1 hi).1
  have lj : j < l.length := (List.getElem?_eq_some_iff.1 hj).1
  have ei := (List.getElem?_eq_some_iff.1 hi).2
  have ej := (List.getElem?_eq_some_iff.1 hj).2
  have hp := List.pairwise_iff_getElem.1 h.2
  rcases Nat.lt_or_ge i j with h9 | h9
  · have := hp i j li lj h9
    rw [ei, ej] at this
    exact this
  · have := hp j i lj li (by omega)
    rw [ei, ej] at this
    exact fun e => this e.symm
/-- the state: the tables, the list v, the other lists. -/
structure Ls (w wB W : World) (gv Cv n : Nat) (F : Nat → Nat) (l : List En) : Prop where
  bs : Bs w W
  v : R6 W gv Cv F
  nv : n ≤ Cv
  lv : gv < wB.heap.size
  iv : Iv wB W l
  bel : wB.heap.size ≤ W.heap.size
theorem Ls.below {w wB W W' : World} {gv Cv n : Nat} {F : Nat → Nat} {l : List En} (h : Ls w wB W gv Cv n F l) (b : Below W.heap.size W W') : Ls w wB W' gv Cv n F l :=
  ⟨h.bs.then b, h.v.below b, h.nv, h.lv, ⟨fun p hp => ⟨(h.iv.1 p hp).1, (h.iv.1 p hp).2.below b⟩, h.iv.2⟩, Nat.le_trans h.bel b.size⟩
theorem Ls.push {w wB W W' : World} {gv Cv n : Nat} {F : Nat → Nat} {l : List En} (h : Ls w wB W gv Cv n F l) (b : Below W.heap.size W W') {g C : Nat} {G : Nat → Nat} (hg : W.heap.size ≤ g) (r : R6 W' g C G) : Ls w wB W' gv Cv n F ((g, C, G) :: l) := by
  have h' := h.below b
  refine ⟨h'.bs, h'.v, h'.nv, h'.lv, ⟨fun p hp => ?_, List.pairwise_cons.2 ⟨fun p hp => ?_, h'.iv.2⟩⟩, h'.bel⟩
  · rcases List.mem_cons.1 hp with rfl | hp
    · exact ⟨Nat.le_trans h.bel hg, r⟩
    · exact h'.iv.1 p hp
  · have := (h.iv.1 p hp).2.lt
    show g ≠ p.1
    omega
theorem Ls.q {w wB W : World} {gv Cv n : Nat} {F : Nat → Nat} {l : List En} (h : Ls w wB W gv Cv n F l) : Q6 W (.slice (some ⟨gv, 0, none⟩) n Cv) n F := h.v.q6 h.nv h.nv h.v.1 (fun _ _ => rfl)
section
variable {w wB W : World} {gv Cv n k s t : Nat} {F : Nat → Nat} {l : List En}
theorem Ls.fwd (h : Ls w wB W gv Cv n F l) (hn : n = 2 ^ k) (h64 : n ≤ 64) (hd : n ∣ s) (hs : s + n ≤ 65536) :
    Calls Tryd.prog 13 #[.slice (some ⟨gv, 0, none⟩) n Cv, .int .i64 (s : Int)] W fun e W' => ∃ g : Nat, e = .returned (.tuple #[.slice (some ⟨g, 0, none⟩) n n, .int .i64 0]) ∧ Hid (Ls w wB W' gv Cv n F ((g, n, fw s k F k) :: l)) :=
  (fwd14 _ k n s F w W h.bs h.q (pow16 hn (by omega)) hn hd hs).mono fun e W' ⟨he, r, b⟩ => ⟨_, he, h.push b (Nat.le_refl _) r⟩
theorem Ls.inv (h : Ls w wB W gv Cv n F l) (hn : n = 2 ^ k) (h64 : n ≤ 64) (hd : n ∣ s) (hs : s + n ≤ 65536) :
    Calls Tryd.prog 12 #[.slice (some ⟨gv, 0, none⟩) n Cv, .int .i64 (s : Int)] W fun e W' => ∃ g : Nat, e = .returned (.tuple #[.slice (some ⟨g, 0, none⟩) n n, .int .i64 0]) ∧ Hid (Ls w wB W' gv Cv n F ((g, n, iw s F k) :: l)) :=
  (inv14 _ k n s F w W h.bs h.q (pow16 hn (by omega)) hn hd hs).mono fun e W' ⟨he, r, b⟩ => ⟨_, he, h.push b (Nat.le_refl _) r⟩
theorem Ls.ext (h : Ls w wB W gv Cv n F l) (hn : n = 2 ^ k) (h64 : n ≤ 64) (hd : n ∣ s) (hs : s + n ≤ 65536) (hd2 : n ∣ t) (hs2 : t + n ≤ 65536) :
    Calls Tryd.prog 18 #[.slice (some ⟨gv, 0, none⟩) n Cv, .int .i64 (s : Int), .int .i64 (t : Int)] W fun e W' => ∃ g : Nat, e = .returned (.tuple #[.slice (some ⟨g, 0, none⟩) n n, .int .i64 0]) ∧ Hid (Ls w wB W' gv Cv n F ((g, n, Go.Proofs.YtemjodlhpelbaaaDoor.ex s t k F) :: l)) :=
  (ext14 _ k n s t F w W h.bs h.q (pow16 hn (by omega)) hn hd hs hd2 hs2).mono fun e W' ⟨g, he, hg, r, b⟩ => ⟨g, he, h.push b hg r⟩
theorem Ls.fold (h : Ls w wB W gv Cv n F l) (hn : n = 2 ^ k) (h64 : n ≤ 64) (hd : n ∣ s) (hs : s + n ≤ 65536) :
    Calls Tryd.prog 21 #[.slice (some ⟨gv, 0, none⟩) n Cv, .int .i64 (n : Int), .int .i64 (s : Int)] W fun e W' => ∃ g : Nat, e = .returned (.tuple #[.slice (some ⟨g, 0, none⟩) n n, .int .i64 0]) ∧ Hid (Ls w wB W' gv Cv n F ((g, n, iw s F k) :: l)) :=
  (fold14 _ k n s 1 n F w W h.bs h.q (pow16 hn (by omega)) hn (by decide) (by rw [Nat.one_mul]) hd hs).mono fun e W' ⟨g, he, hg, r, b⟩ => ⟨g, he, h.push b hg (r.congr (fun i hi => by
    show 0 ^^^ iw (s + 0 * 2 ^ k) (fun y => F (0 * 2 ^ k + y)) k i = iw s F k i
    simp only [Nat.zero_mul, Nat.add_zero, Nat.zero_add, Nat.zero_xor]))⟩
/-- append([]uint16{}, x...) of a list that is there. -/
theorem Ls.copy (h : Ls w wB W gv Cv n F l) (h64 : n ≤ 64) {j g C : Nat} {G : Nat → Nat} (e : l[j]? = some (g, C, G)) (hC : C = n) :
    ∃ (W' : World) (ga Ca : Nat), (Builtin.append_ #[22, 22] 22 #[.slice (some ⟨W.heap.size, 0, none⟩) 0 0, .slice (some ⟨g, 0, none⟩) n n]).run Tryd.prog (W.alloc (.cells #[] 31)) = .ok (.slice (some ⟨ga, 0, none⟩) n Ca) W' ∧ Hid (Ls w wB W' gv Cv n F l ∧ Q6 W' (.slice (some ⟨ga, 0, none⟩) n Ca) n G) := by
  subst hC
  have r : R6 W g C G := (h.iv.at e).2
  obtain ⟨W', ga, Ca, Fa, run, hCa, hga, hR, hF, b⟩ := app_lit14 W r.all (by omega)
  exact ⟨W', ga, Ca, run, h.below b, hR.q6 hCa hCa hR.1 hF⟩
theorem Ls.fwd' (h : Ls w wB W gv Cv n F l) {u : Value} {G : Nat → Nat} (q : Q6 W u n G) (hn : n = 2 ^ k) (h64 : n ≤ 64) (hd : n ∣ s) (hs : s + n ≤ 65536) :
    Calls Tryd.prog 13 #[u, .int .i64 (s : Int)] W fun e W' => ∃ g : Nat, e = .returned (.tuple #[.slice (some ⟨g, 0, none⟩) n n, .int .i64 0]) ∧ Hid (Ls w wB W' gv Cv n F ((g, n, fw s k G k) :: l)) :=
  (fwd14 _ k n s G w W h.bs q (pow16 hn (by omega)) hn hd hs).mono fun e W' ⟨he, r, b⟩ => ⟨_, he, h.push b (Nat.le_refl _) r⟩
theorem Ls.inv' (h : Ls w wB W gv Cv n F l) {u : Value} {G : Nat → Nat} (q : Q6 W u n G) (hn : n = 2 ^ k) (h64 : n ≤ 64) (hd : n ∣ s) (hs : s + n ≤ 65536) :
    Calls Tryd.prog 12 #[u, .int .i64 (s : Int)] W fun e W' => ∃ g : Nat, e = .returned (.tuple #[.slice (some ⟨g, 0, none⟩) n n, .int .i64 0]) ∧ Hid (Ls w wB W' gv Cv n F ((g, n, iw s G k) :: l)) :=
  (inv14 _ k n s G w W h.bs q (pow16 hn (by omega)) hn hd hs).mono fun e W' ⟨he, r, b⟩ => ⟨_, he, h.push b (Nat.le_refl _) r⟩
theorem Ls.ext' (h : Ls w wB W gv Cv n F l) {u : Value} {G : Nat → Nat} (q : Q6 W u n G) (hn : n = 2 ^ k) (h64 : n ≤ 64) (hd : n ∣ s) (hs : s + n ≤ 65536) (hd2 : n ∣ t) (hs2 : t + n ≤ 65536) :
    Calls Tryd.prog 18 #[u, .int .i64 (s : Int), .int .i64 (t : Int)] W fun e W' => ∃ g : Nat, e = .returned (.tuple #[.slice (some ⟨g, 0, none⟩) n n, .int .i64 0]) ∧ Hid (Ls w wB W' gv Cv n F ((g, n, Go.Proofs.YtemjodlhpelbaaaDoor.ex s t k G) :: l)) :=
  (ext14 _ k n s t G w W h.bs q (pow16 hn (by omega)) hn hd hs hd2 hs2).mono fun e W' ⟨g, he, hg, r, b⟩ => ⟨g, he, h.push b hg r⟩
theorem Ls.eq (h : Ls w wB W gv Cv n F l) {u v : Value} {G : Nat → Nat} (qu : Q6 W u n G) (qv : Q6 W v n G) :
    Calls Tryd.prog 14 #[u, v] W fun e W' => e = .returned (.bool true) ∧ Hid (Ls w wB W' gv Cv n F l) :=
  (alike14 u v n G W qu qv).mono fun e W' ⟨he, m, hw⟩ => ⟨he, h.below (by rw [hw]; exact below_drewN (Below.refl _ _) m)⟩
/-- a list that is there, as it is read. -/
theorem Ls.get (h : Ls w wB W gv Cv n F l) (j : Nat) {g C : Nat} {G G' : Nat → Nat} (e : l[j]? = some (g, C, G)) (hC : n ≤ C) (he : ∀ i, i < n → G i = G' i) : Q6 W (.slice (some ⟨g, 0, none⟩) n C) n G' :=
  (h.iv.at e).2.q6 hC hC (h.iv.at e).2.1 he
end
/-- v's words are turned. -/
theorem Ls.turn {w wB W W' : World} {gv Cv n : Nat} {F F' : Nat → Nat} {l : List En} (h : Ls w wB W gv Cv n F l) (hw : w.heap.size ≤ gv) (k : Kp gv W W') (r : R6 W' gv Cv F') : Ls w wB W' gv Cv n F' l :=
  ⟨h.bs.kp k hw, r, h.nv, h.lv, ⟨fun p hp => ⟨(h.iv.1 p hp).1, (h.iv.1 p hp).2.kp k (by have := (h.iv.1 p hp).1; have := h.lv; omega)⟩, h.iv.2⟩, Nat.le_trans h.bel k.size⟩
def ix (r : Nat) : Nat := if r < 8 then 18 - r else 17 - r
theorem ix_inj {r s : Nat} (hr : r < 18) (hs : s < 18) (e : ix r = ix s) : r = s := by
  unfold ix at e
  by_cases a : r < 8
  · rw [if_pos a] at e
    by_cases b : s < 8
    · rw [if_pos b] at e; omega
    · rw [if_neg b] at e; omega
  · rw [if_neg a] at e
    by_cases b : s < 8
    · rw [if_pos b] at e; omega
    · rw [if_neg b] at e; omega
theorem ix_ne {r : Nat} (hr : r < 18) : ix r ≠ 10 := by
  unfold ix
  split <;> omega
/-- the 18 lists of apart, out of the inventory. -/
theorem pick18 {wB W : World} {n : Nat} {l : List En} (h : Iv wB W l) {Bk : Nat → Nat} (hl : ∀ r, r < 18 → ∃ G, l[ix r]? = some (Bk r, n, G)) :
    (∃ S : Nat → Nat → Nat, ∀ r, r < 18 → R6 W (Bk r) n (S r)) ∧ (∀ r s, r < 18 → s < 18 → Bk r = Bk s → r = s) ∧ (∀ r, r < 18 → wB.heap.size ≤ Bk r) ∧ (∀ r, r < 18 → ∀ p : En, l[10]? = some p → p.1 ≠ Bk r) := by
  refine ⟨⟨fun r => if hr : r < 18 then (hl r hr).choose else fun _ => 0, fun r hr => ?_⟩, fun r s hr hs e => ?_, fun r hr => ?_, fun r hr p hp => ?_⟩
  · simp only [dif_pos hr]
    exact (h.at (hl r hr).choose_spec).2
  · obtain ⟨G, h1⟩ := hl r hr
    obtain ⟨G', h2⟩ := hl s hs
    by_cases hne : ix r = ix s
    · exact ix_inj hr hs hne
    · exact absurd e (h.ne h1 h2 hne)
  · obtain ⟨G, h1⟩ := hl r hr
    exact (h.at h1).1
  · obtain ⟨G, h1⟩ := hl r hr
    exact h.ne hp h1 (fun e => ix_ne hr e.symm)
end Go.Proofs.YtemjodlhpelbaaaDoor
