import Derived.Test.YtldacjpkblffbabYj2
import Derived.Below
import Derived.Deep.OwnRows
import Derived.Laws.CopyOwn
import Derived.Deep.WholeRow
import Derived.Deep.QuietTactic
import Derived.BigQuiet
import Derived.StillTailTactics
import Derived.StillTail
import Derived.Deep.Upon
import Derived.Lib.AppendZeros
namespace Go.Proofs.Ytldacjpkblffbab
open Go.RowKit Gf2
set_option linter.unusedVariables false

/-- the greatest length. -/
def big : Nat := 9223372036854775807
/-- bytes behind a slice value. -/
def Rb (w : World) (v : Value) (n : Nat) (F : Nat → Nat) : Prop := n ≤ big ∧ (∀ i, i < n → F i < 256) ∧
  ∃ a cap, v = .slice a n cap ∧ n ≤ cap ∧ cap ≤ big ∧ (0 < n → ∃ b o, a = some ⟨b, o, none⟩ ∧ b < w.heap.size ∧ ∀ i, i < n → w.cell? ⟨b, o + i, none⟩ = some (.int .u8 (F i : Nat)))
/-- bytes in a row of its own. -/
def Rw (w : World) (g N : Nat) (F : Nat → Nat) : Prop := N ≤ big ∧ (∀ i, i < N → F i < 256) ∧ w.rowIs g 5 N (fun i => .int .u8 (F i : Nat))

theorem Rb.of {w w' : World} {v : Value} {n : Nat} {F : Nat → Nat} (h : Rb w v n F) (hs : w.heap.size ≤ w'.heap.size) (hc : ∀ b, b < w.heap.size → w'.heap[b]? = w.heap[b]?) : Rb w' v n F := by
  obtain ⟨h1, h2, a, cap, h3, h5, h6, h4⟩ := h
  refine ⟨h1, h2, a, cap, h3, h5, h6, fun h0 => ?_⟩
  obtain ⟨b, o, e, hl, hc'⟩ := h4 h0
  refine ⟨b, o, e, Nat.lt_of_lt_of_le hl hs, fun i hi => ?_⟩
  rw [← hc' i hi]
  unfold World.cell?
  rw [hc b hl]
theorem Rb.below {w w' : World} {v : Value} {n : Nat} {F : Nat → Nat} (h : Rb w v n F) (hb : Below w.heap.size w w') : Rb w' v n F := by
  obtain ⟨h1, h2, a, cap, h3, h5, h6, h4⟩ := h
  refine ⟨h1, h2, a, cap, h3, h5, h6, fun h0 => ?_⟩
  obtain ⟨b, o, e, hl, hc⟩ := h4 h0
  exact ⟨b, o, e, Nat.lt_of_lt_of_le hl hb.size, fun i hi => (hb.cell (p := ⟨b, o + i, none⟩) hl).trans (hc i hi)⟩
theorem Rb.drewN {w : World} {v : Value} {n : Nat} {F : Nat → Nat} (h : Rb w v n F) (m : Nat) : Rb (w.drewN m) v n F := h
theorem Rb.congr {w : World} {v : Value} {n : Nat} {F G : Nat → Nat} (h : Rb w v n F) (e : ∀ i, i < n → F i = G i) : Rb w v n G := by
  obtain ⟨h1, h2, a, cap, h3, h5, h6, h4⟩ := h
  refine ⟨h1, fun i hi => by rw [← e i hi]; exact h2 i hi, a, cap, h3, h5, h6, fun h0 => ?_⟩
  obtain ⟨b, o, e', hl, hc⟩ := h4 h0
  exact ⟨b, o, e', hl, fun i hi => by rw [← e i hi]; exact hc i hi⟩
theorem Rw.rb {w : World} {g N o n cap : Nat} {F : Nat → Nat} (h : Rw w g N F) (hn : o + n ≤ N) (hc : n ≤ cap) (hc2 : cap ≤ big) : Rb w (.slice (some ⟨g, o, none⟩) n cap) n (fun i => F (o + i)) := by
  obtain ⟨h1, h2, h3⟩ := h
  exact ⟨by omega, fun i hi => h2 _ (by omega), _, _, rfl, hc, hc2, fun _ => ⟨g, o, rfl, h3.lt, fun i hi => h3.cell (i := o + i) (by omega)⟩⟩
theorem Rw.rb0 {w : World} {g N : Nat} {F : Nat → Nat} (h : Rw w g N F) : Rb w (.slice (some ⟨g, 0, none⟩) N N) N F := by
  have h1 := h.1
  exact (h.rb (o := 0) (n := N) (cap := N) (by omega) (Nat.le_refl _) (by omega)).congr (fun i _ => by rw [Nat.zero_add])
theorem Rw.lt {w : World} {g N : Nat} {F : Nat → Nat} (h : Rw w g N F) : g < w.heap.size := h.2.2.lt
theorem Rw.of_block {w w' : World} {g N : Nat} {F : Nat → Nat} (h : Rw w g N F) (e : w'.heap[g]? = w.heap[g]?) : Rw w' g N F := ⟨h.1, h.2.1, h.2.2.of_block e⟩
theorem Rw.drewN {w : World} {g N : Nat} {F : Nat → Nat} (h : Rw w g N F) (m : Nat) : Rw (w.drewN m) g N F := h
theorem Rw.congr {w : World} {g N : Nat} {F G : Nat → Nat} (h : Rw w g N F) (e : ∀ i, i < N → F i = G i) : Rw w g N G :=
  ⟨h.1, fun i hi => by rw [← e i hi]; exact h.2.1 i hi, h.2.2.congr (fun i hi => by rw [e i hi])⟩

/-- nothing but block g has turned, and nothing is new. -/
def Only (g : Nat) (w w' : World) : Prop := Below 0 w w' ∧ w'.heap.size = w.heap.size ∧ ∀ b, b ≠ g → w'.heap[b]? = w.heap[b]?

theorem wrap_succ8 {j : Nat} (h : j < big) : wrap64 ((j : Int) + 1) = (j : Int) + 1 := by unfold big at h; unfold wrap64; omega
theorem wrap_add8 {i j : Nat} (h : i + j ≤ 281474976710656) : wrap64 ((i : Int) + (j : Int)) = (i : Int) + (j : Int) := by unfold wrap64; omega
theorem meas_lt8 {l k : Nat} (h : k < l) : l - (intOf (Value.int .i64 ((k : Int) + 1))).toNat < l - (intOf (Value.int .i64 (k : Int))).toNat := by
  simp [intOf]; omega

theorem info_u8m : (Try.prog.info? 5).map (fun i => (i.zero, i.size, i.bytes)) = some (some (Value.int .u8 0), 1, 1) := by kernel_rfl
theorem info_u8s : (Try.prog.info? 5).map (·.size) = some 1 := by kernel_rfl
theorem make_u8 (n : Nat) (hn : n ≤ 140737488355328) (w : World) : (Instr.makeSlice 24 (.int .i64 (n : Int)) (.int .i64 (n : Int))).run Try.prog w = .ok (.slice (some ⟨w.heap.size, 0, none⟩) n n) (w.alloc (.cells (madeCells #[.int .u8 0] n) 5)) :=
  run_make_row' (P := Try.prog) 24 5 (.int .u8 0) 1 Try.underlying24 info_u8m rfl .i64 .i64 n (by omega) (by omega) w
theorem made_rw (n : Nat) (hn : n ≤ 140737488355328) (w : World) : Rw (w.alloc (.cells (madeCells #[.int .u8 0] n) 5)) w.heap.size n (fun _ => 0) :=
  ⟨by unfold big; omega, fun _ _ => Nat.zero_lt_succ _, World.rowIs_made w (.int .u8 0) n 5⟩

/-- n brought to 0 .. 19. -/
def rm (n : Int) : Nat := (n % 20).toNat
theorem rm_lt (n : Int) : rm n < 20 := by unfold rm; omega
theorem tmod_20 (n : Int) : n.tmod 20 = if 0 ≤ n then n % 20 else -((-n) % 20) := by
  by_cases h : 0 ≤ n
  · rw [if_pos h, Int.tmod_eq_emod_of_nonneg h]
  · rw [if_neg h]
    have := Int.neg_tmod (-n) 20
    rw [Int.neg_neg] at this
    rw [this, Int.tmod_eq_emod_of_nonneg (by omega)]
theorem rm_1 (n : Int) : wrap64 (n.tmod 20 + 20) = n.tmod 20 + 20 := by
  rw [tmod_20]
  unfold wrap64
  split <;> omega
theorem rm_2 (n : Int) : (n.tmod 20 + 20).tmod 20 = (rm n : Nat) := by
  have h : 0 ≤ n.tmod 20 + 20 := by rw [tmod_20]; split <;> omega
  rw [Int.tmod_eq_emod_of_nonneg h, tmod_20]
  unfold rm
  split <;> omega

end Go.Proofs.Ytldacjpkblffbab
namespace Go.Proofs.Ytldacjpkblffbab
open Go.RowKit Gf2
set_option linter.unusedVariables false

theorem Only.refl (g : Nat) (w : World) : Only g w w := ⟨Below.refl _ _, rfl, fun _ _ => rfl⟩
theorem Only.trans {g : Nat} {a b c : World} (h : Only g a b) (k : Only g b c) : Only g a c := ⟨h.1.trans k.1, k.2.1.trans h.2.1, fun x hx => (k.2.2 x hx).trans (h.2.2 x hx)⟩
theorem Only.drewN {g : Nat} {a b : World} (h : Only g a b) (m : Nat) : Only g a (b.drewN m) := ⟨⟨h.1.os, h.1.tape, h.1.output, h.1.size, h.1.block⟩, h.2.1, h.2.2⟩
theorem Only.drew {g : Nat} {a b : World} (h : Only g a b) : Only g a b.drew := ⟨h.1.drew, h.2.1, h.2.2⟩
theorem Only.setCell {g : Nat} {a b : World} (h : Only g a b) (o : Nat) (v : Value) : Only g a (b.setCell ⟨g, o, none⟩ v) :=
  ⟨h.1.setCell (Nat.zero_le _) v, by rw [World.size_setCell]; exact h.2.1, fun x hx => by rw [← h.2.2 x hx]; exact heap_setCell_other _ _ _ _ hx⟩
theorem Only.setRow {g : Nat} {a b : World} (h : Only g a b) (cs : Array Value) : Only g a (b.setRow g cs) :=
  ⟨below_setRow h.1 (Nat.zero_le _) cs, by rw [setRow_size]; exact h.2.1, fun x hx => by rw [← h.2.2 x hx]; exact setRow_other _ _ _ _ hx⟩
theorem Only.below {g B : Nat} {a b : World} (h : Only g a b) (hg : B ≤ g) : Below B a b :=
  ⟨h.1.os, h.1.tape, h.1.output, h.1.size, fun k hk => h.2.2 k (by omega)⟩
theorem Only.rw_ {g k N : Nat} {F : Nat → Nat} {a b : World} (h : Only g a b) (hk : Rw a k N F) (hne : k ≠ g) : Rw b k N F := hk.of_block (h.2.2 k hne)
/-- old bytes stay. -/
def Rbb (B : Nat) (w : World) (v : Value) (n : Nat) (F : Nat → Nat) : Prop := n ≤ big ∧ (∀ i, i < n → F i < 256) ∧
  ∃ a cap, v = .slice a n cap ∧ n ≤ cap ∧ cap ≤ big ∧ (0 < n → ∃ b o, a = some ⟨b, o, none⟩ ∧ b < B ∧ b < w.heap.size ∧ ∀ i, i < n → w.cell? ⟨b, o + i, none⟩ = some (.int .u8 (F i : Nat)))
theorem Rbb.rb {B : Nat} {w : World} {v : Value} {n : Nat} {F : Nat → Nat} (h : Rbb B w v n F) : Rb w v n F := by
  obtain ⟨h1, h2, a, cap, h3, h5, h6, h4⟩ := h
  refine ⟨h1, h2, a, cap, h3, h5, h6, fun h0 => ?_⟩
  obtain ⟨b, o, e, hl, hl', hc⟩ := h4 h0
  exact ⟨b, o, e, hl', hc⟩
theorem Rb.rbb {w : World} {v : Value} {n : Nat} {F : Nat → Nat} (h : Rb w v n F) : Rbb w.heap.size w v n F := by
  obtain ⟨h1, h2, a, cap, h3, h5, h6, h4⟩ := h
  refine ⟨h1, h2, a, cap, h3, h5, h6, fun h0 => ?_⟩
  obtain ⟨b, o, e, hl, hc⟩ := h4 h0
  exact ⟨b, o, e, hl, hl, hc⟩
theorem Rbb.below {B : Nat} {w w' : World} {v : Value} {n : Nat} {F : Nat → Nat} (h : Rbb B w v n F) (hb : Below B w w') : Rbb B w' v n F := by
  obtain ⟨h1, h2, a, cap, h3, h5, h6, h4⟩ := h
  refine ⟨h1, h2, a, cap, h3, h5, h6, fun h0 => ?_⟩
  obtain ⟨b, o, e, hl, hl', hc⟩ := h4 h0
  exact ⟨b, o, e, hl, Nat.lt_of_lt_of_le hl' hb.size, fun i hi => (hb.cell (p := ⟨b, o + i, none⟩) hl).trans (hc i hi)⟩

/-- F with the first n of S from place o on. -/
def pl (F : Nat → Nat) (o n : Nat) (S : Nat → Nat) (i : Nat) : Nat := if o ≤ i ∧ i < o + n then S (i - o) else F i
theorem pl_in {F : Nat → Nat} {o n : Nat} {S : Nat → Nat} {i : Nat} (h : i < n) : pl F o n S (o + i) = S i := by unfold pl; rw [if_pos (by omega), Nat.add_sub_cancel_left]
theorem pl_out {F : Nat → Nat} {o n : Nat} {S : Nat → Nat} {i : Nat} (h : i < o ∨ o + n ≤ i) : pl F o n S i = F i := by unfold pl; rw [if_neg (by omega)]

/-- copy of bytes into a row. -/
theorem copy8_min (w : World) {g o N dl cap : Nat} {F : Nat → Nat} (hr : Rw w g N F) {a : Option Addr} {m n cap' : Nat} {S : Nat → Nat} (hS : ∀ i, i < n → S i < 256)
    (h4 : 0 < n → ∃ b p, a = some ⟨b, p, none⟩ ∧ ∀ i, i < n → w.cell? ⟨b, p + i, none⟩ = some (.int .u8 (S i : Nat))) (hd : o + dl ≤ N) (hn : n ≤ dl) (hnm : n ≤ m) (hmin : Nat.min m dl = n) :
    ∃ w', (Builtin.copy_ #[24, 24] 3 #[.slice (some ⟨g, o, none⟩) dl cap, .slice a m cap']).run Try.prog w = .ok (goInt n) w' ∧ Rw w' g N (pl F o n S) ∧ Only g w w' := by
  obtain ⟨h1, h2, c, hc, hs, hv⟩ := hr
  by_cases h0 : n = 0
  · subst h0
    refine ⟨w, run_copy_none (P := Try.prog) _ 24 24 3 5 _ a dl cap m cap' Try.underlying24 info_u8s hmin, ⟨h1, fun i hi => ?_, c, hc, hs, fun i hi => ?_⟩, Only.refl _ _⟩
    · rw [pl_out (by omega)]; exact h2 i hi
    · show c[i]? = some (Value.int .u8 ((pl F o 0 S i : Nat) : Int))
      rw [pl_out (by omega)]; exact hv i hi
  · obtain ⟨b, p, rfl, hcell⟩ := h4 (by omega)
    obtain ⟨cs, hcs⟩ : ∃ cs : List Value, cs = (List.range n).map (fun i => Value.int .u8 (S i : Nat)) := ⟨_, rfl⟩
    have hlen : cs.length = n := by rw [hcs]; simp
    have hget : ∀ j, j < n → cs[j]? = some (Value.int .u8 (S j : Nat)) := fun j hj => by rw [hcs]; simp [hj]
    have hr := run_copy_row (P := Try.prog) w 24 24 3 5 g o dl cap ⟨b, p, none⟩ m cap' c 5 cs Try.underlying24 info_u8s hc (by rw [hlen, hmin])
      (fun j u hu => by
        have hj : j < n := by
          rcases Nat.lt_or_ge j n with h9 | h9
          · exact h9
          · rw [List.getElem?_eq_none (by omega)] at hu; cases hu
        rw [hget j hj] at hu
        cases hu
        have ea : (⟨b, p, none⟩ : Addr).add j = ⟨b, p + j, none⟩ := by unfold Addr.add; split <;> simp_all
        rw [ea]
        exact hcell j hj) (by rw [hlen, hs]; omega) (fun u hu => by
        rw [hcs] at hu
        obtain ⟨x, _, rfl⟩ := List.mem_map.1 hu
        rfl)
    rw [hlen] at hr
    refine ⟨_, hr, ⟨h1, fun i hi => ?_, _, setRow_heap _ _ _ _ _ _ hc, ?_, fun i hi => ?_⟩, (Only.refl _ _).setRow _⟩
    · unfold pl
      split
      · exact hS _ (by omega)
      · exact h2 i hi
    · simp [hlen, hs]; omega
    · show _ = some (Value.int .u8 ((pl F o n S i : Nat) : Int))
      rw [List.getElem?_toArray]
      have ht : (c.toList.take o).length = o := by simp [hs]; omega
      by_cases e1 : i < o
      · rw [pl_out (by omega), List.append_assoc, List.getElem?_append_left (by rw [ht]; exact e1), List.getElem?_take_of_lt e1]
        simpa using hv i hi
      · by_cases e2 : i < o + n
        · obtain ⟨j, rfl⟩ : ∃ j, i = o + j := ⟨i - o, by omega⟩
          rw [pl_in (by omega), List.getElem?_append_left (by simp [ht, hlen]; omega), List.getElem?_append_right (by omega), ht, Nat.add_sub_cancel_left]
          exact hget j (by omega)
        · rw [pl_out (by omega), List.getElem?_append_right (by simp [ht, hlen]; omega), List.getElem?_drop]
          simp only [List.length_append, ht, hlen]
          rw [show o + n + (i - (o + n)) = i by omega]
          simpa using hv i hi
theorem copy8_run (w : World) {g o N dl cap : Nat} {F : Nat → Nat} (hr : Rw w g N F) {a : Option Addr} {n cap' : Nat} {S : Nat → Nat} (hS : ∀ i, i < n → S i < 256)
    (h4 : 0 < n → ∃ b p, a = some ⟨b, p, none⟩ ∧ ∀ i, i < n → w.cell? ⟨b, p + i, none⟩ = some (.int .u8 (S i : Nat))) (hd : o + dl ≤ N) (hn : n ≤ dl) :
    ∃ w', (Builtin.copy_ #[24, 24] 3 #[.slice (some ⟨g, o, none⟩) dl cap, .slice a n cap']).run Try.prog w = .ok (goInt n) w' ∧ Rw w' g N (pl F o n S) ∧ Only g w w' :=
  copy8_min w hr hS h4 hd hn (Nat.le_refl _) (Nat.min_eq_left hn)
end Go.Proofs.Ytldacjpkblffbab
namespace Go.Proofs.Ytldacjpkblffbab
open Go.RowKit Gf2
set_option linter.unusedVariables false

/-- the mark at place i. -/
def mk8 (M i : Nat) : Nat := (M + i) % 256
theorem mark_wrap (M k : Nat) : IntKind.u8.wrap ((M : Int) + IntKind.u8.wrap (k : Int)) = ((mk8 M k : Nat) : Int) := by unfold mk8; simp only [IntKind.wrap_u8]; omega
theorem mk8_lt (M i : Nat) : mk8 M i < 256 := Nat.mod_lt _ (by decide)

end Go.Proofs.Ytldacjpkblffbab
namespace Go.Proofs.Ytldacjpkblffbab
open Go.RowKit Gf2
set_option linter.unusedVariables false

theorem region_tail8 {P : Program} {id : Nat} {Q : Exit → Act → World → Prop} {a : Act} {w : World} {l : List Oper} (n : Nat) (hm : P.follows .mixedOrders = true) (hB : Region.lexTailB .any l.toArray n = true)
    (h : wpStill P l.toArray w.drew (fun a' => wpList P l.toArray Q (l.drop n) a' w.drew) (l.take n) a) : (Code.region id l.toArray true).wp P Q a w := wp_region_still_tail n hm hB h

end Go.Proofs.Ytldacjpkblffbab
namespace Go.Proofs.Ytldacjpkblffbab
open Go.RowKit Gf2
set_option linter.unusedVariables false

theorem Rb.cut {w : World} {x : Option Addr} {n m cx : Nat} {S : Nat → Nat} (h : Rb w (.slice x m cx) m S) (hn : n ≤ m) (hc : n ≤ cx) : Rb w (.slice x n cx) n S := by
  obtain ⟨b1, b2, a, c', b3, b5, b6, b4⟩ := h
  cases b3
  refine ⟨by omega, fun i hi => b2 i (by omega), x, cx, rfl, hc, b6, fun h0 => ?_⟩
  obtain ⟨b, o, e, hl, hcl⟩ := b4 (by omega)
  exact ⟨b, o, e, hl, fun i hi => hcl i (by omega)⟩
theorem Rb.drop {w : World} {b o' n o cx : Nat} {S : Nat → Nat} (h : Rb w (.slice (some ⟨b, o', none⟩) n cx) n S) (ho : o ≤ n) : Rb w (.slice (some ⟨b, o' + o, none⟩) (n - o) (cx - o)) (n - o) (fun i => S (o + i)) := by
  obtain ⟨b1, b2, a, c', b3, b5, b6, b4⟩ := h
  cases b3
  refine ⟨by omega, fun i hi => b2 _ (by omega), _, _, rfl, by omega, by omega, fun h0 => ?_⟩
  obtain ⟨b', p', e, hl, hcl⟩ := b4 (by omega)
  cases e
  exact ⟨b, o' + o, rfl, hl, fun i hi => by rw [Nat.add_assoc]; exact hcl (o + i) (by omega)⟩
/-- a row that is written out. -/
theorem lit_rw (l : List Nat) (W : World) (hl : ∀ x ∈ l, x < 256) (hn : l.length ≤ 1000) : Rw (W.alloc (.cells (l.map (fun n : Nat => Value.int .u8 (n : Int))).toArray 5)) W.heap.size l.length (fun i => l.getD i 0) := by
  refine ⟨by unfold big; omega, fun i hi => ?_, _, heap_alloc_new _ _, by simp, fun i hi => ?_⟩
  · simp only [List.getD_eq_getElem?_getD, List.getElem?_eq_getElem hi, Option.getD_some]
    exact hl _ (List.getElem_mem _)
  · simp [List.getD_eq_getElem?_getD, hi]
theorem rw_alloc {W : World} {g N : Nat} {F : Nat → Nat} (h : Rw W g N F) (o : Obj) : Rw (W.alloc o) g N F := h.of_block (Below.heap_alloc W o g h.lt)
theorem rw_below {W W' : World} {g N : Nat} {F : Nat → Nat} (h : Rw W g N F) (hb : Below W.heap.size W W') : Rw W' g N F := h.of_block (hb.block g h.lt)
theorem below_drewN {B : Nat} {W W' : World} (h : Below B W W') (m : Nat) : Below B W (W'.drewN m) := ⟨h.os, h.tape, h.output, h.size, h.block⟩

/-- how the list of src reads while block g turns: at place i it is rd F i, F what the row g holds. -/
def Reads (w : World) (g N n : Nat) (x : Option Addr) (rd : (Nat → Nat) → Nat → Nat) : Prop := ∃ h q, x = some ⟨h, q, none⟩ ∧ ∀ w' F, Only g w w' → Rw w' g N F → ∀ i, i < n → rd F i < 256 ∧ w'.cell? ⟨h, q + i, none⟩ = some (.int .u8 (rd F i : Nat))
/-- the row behind the first k places. -/
def goes (f : Nat → Nat → Nat) (o : Nat) (rd : (Nat → Nat) → Nat → Nat) (F : Nat → Nat) : Nat → Nat → Nat
  | 0, i => F i
  | k + 1, i => if i = o + k then f (goes f o rd F k (o + k)) (rd (goes f o rd F k) k) else goes f o rd F k i
theorem goes_out (f : Nat → Nat → Nat) (o : Nat) (rd : (Nat → Nat) → Nat → Nat) (F : Nat → Nat) : ∀ k i, (i < o ∨ o + k ≤ i) → goes f o rd F k i = F i
  | 0, i, _ => rfl
  | k + 1, i, h => by
    unfold goes
    rw [if_neg (by omega)]
    exact goes_out f o rd F k i (by omega)
theorem goes_far (f : Nat → Nat → Nat) (o : Nat) (S F : Nat → Nat) : ∀ k i, goes f o (fun _ => S) F k i = pl F o k (fun j => f (F (o + j)) (S j)) i
  | 0, i => (pl_out (by omega)).symm
  | k + 1, i => by
    unfold goes
    by_cases e : i = o + k
    · rw [if_pos e, e, pl_in (Nat.lt_succ_self _), goes_out f o _ F k (o + k) (by omega)]
    · rw [if_neg e, goes_far f o S F k i]
      unfold pl
      by_cases e2 : o ≤ i ∧ i < o + k
      · rw [if_pos e2, if_pos (by omega)]
      · rw [if_neg e2, if_neg (by omega)]
theorem goes_same (f : Nat → Nat → Nat) (o : Nat) (F : Nat → Nat) : ∀ k i, goes f o (fun G j => G (o + j)) F k i = pl F o k (fun j => f (F (o + j)) (F (o + j))) i
  | 0, i => (pl_out (by omega)).symm
  | k + 1, i => by
    unfold goes
    by_cases e : i = o + k
    · rw [if_pos e, e, pl_in (Nat.lt_succ_self _), goes_out f o _ F k (o + k) (by omega)]
    · rw [if_neg e, goes_same f o F k i]
      unfold pl
      by_cases e2 : o ≤ i ∧ i < o + k
      · rw [if_pos e2, if_pos (by omega)]
      · rw [if_neg e2, if_neg (by omega)]

/-- a list that lies apart from block g. -/
def Far (w : World) (g n : Nat) (x : Option Addr) (S : Nat → Nat) : Prop := (∀ i, i < n → S i < 256) ∧ (0 < n → ∃ h q, x = some ⟨h, q, none⟩ ∧ h ≠ g ∧ ∀ i, i < n → w.cell? ⟨h, q + i, none⟩ = some (.int .u8 (S i : Nat)))
theorem Far.reads {w : World} {g N n : Nat} {x : Option Addr} {S : Nat → Nat} (h : Far w g n x S) (h0 : 0 < n) : Reads w g N n x (fun _ => S) := by
  obtain ⟨b, q, e, hne, hc⟩ := h.2 h0
  refine ⟨b, q, e, fun w' F ho hr i hi => ⟨h.1 i hi, ?_⟩⟩
  rw [← hc i hi]
  unfold World.cell?
  rw [ho.2.2 b hne]
theorem Reads.row {w : World} {g N n q : Nat} {x : Option Addr} (e : x = some ⟨g, q, none⟩) (hq : q + n ≤ N) : Reads w g N n x (fun F i => F (q + i)) :=
  ⟨g, q, e, fun w' F ho hr i hi => ⟨hr.2.1 _ (by omega), hr.2.2.cell (i := q + i) (by omega)⟩⟩
/-- a list apart that can be read. -/
theorem Rb.far {w : World} {g n cap : Nat} {x : Option Addr} {S : Nat → Nat} (h : Rbb g w (.slice x n cap) n S) : Far w g n x S := by
  obtain ⟨h1, h2, a, c, h3, h5, h6, h4⟩ := h
  cases h3
  refine ⟨h2, fun h0 => ?_⟩
  obtain ⟨b, o, e, hl, -, hc⟩ := h4 h0
  exact ⟨b, o, e, by omega, hc⟩
theorem Rw.far {w : World} {g k N o n : Nat} {F : Nat → Nat} (h : Rw w k N F) (hne : k ≠ g) (hn : o + n ≤ N) : Far w g n (some ⟨k, o, none⟩) (fun i => F (o + i)) :=
  ⟨fun i hi => h.2.1 _ (by omega), fun _ => ⟨k, o, rfl, hne, fun i hi => h.2.2.cell (i := o + i) (by omega)⟩⟩
theorem Rw.far0 {w : World} {g k N : Nat} {F : Nat → Nat} (h : Rw w k N F) (hne : k ≠ g) : Far w g N (some ⟨k, 0, none⟩) F :=
  ⟨h.2.1, fun _ => ⟨k, 0, rfl, hne, fun i hi => by rw [Nat.zero_add]; exact h.2.2.cell hi⟩⟩
end Go.Proofs.Ytldacjpkblffbab
namespace Go.Proofs.Ytldacjpkblffbab
open Go.RowKit Gf2
set_option linter.unusedVariables false

/-- S 0, .., S (n - 1) as cells. -/
def bs : Nat → (Nat → Nat) → List Value
  | 0, _ => []
  | n + 1, S => Value.int .u8 ((S 0 : Nat) : Int) :: bs n (fun i => S (i + 1))
theorem bs_len : ∀ (n : Nat) (S : Nat → Nat), (bs n S).length = n
  | 0, _ => rfl
  | n + 1, S => by rw [bs, List.length_cons, bs_len n]
theorem bs_get : ∀ (n : Nat) (S : Nat → Nat) (i : Nat), i < n → (bs n S)[i]? = some (Value.int .u8 ((S i : Nat) : Int))
  | 0, _, i, h => absurd h (Nat.not_lt_zero _)
  | n + 1, S, 0, _ => rfl
  | n + 1, S, i + 1, h => by rw [bs, List.getElem?_cons_succ]; exact bs_get n _ i (by omega)
theorem bs_one {n : Nat} {S : Nat → Nat} : ∀ u ∈ bs n S, u.oneCell' = true := by
  intro u hu
  obtain ⟨i, hi⟩ := List.getElem?_of_mem hu
  have hl : i < n := by
    rcases Nat.lt_or_ge i n with h | h
    · exact h
    · rw [List.getElem?_eq_none (by rw [bs_len]; exact h)] at hi; cases hi
  rw [bs_get n S i hl] at hi
  cases hi
  rfl
theorem setCells_rw {g N : Nat} : ∀ (n : Nat) (S : Nat → Nat) (o : Nat) (w : World) (F : Nat → Nat), Rw w g N F → o + n ≤ N → (∀ i, i < n → S i < 256) → Rw (w.setCells g o (bs n S)) g N (pl F o n S) ∧ Only g w (w.setCells g o (bs n S))
  | 0, S, o, w, F, h, _, _ => ⟨h.congr (fun i hi => (pl_out (by omega)).symm), Only.refl _ _⟩
  | n + 1, S, o, w, F, h, ho, hS => by
    have h1 : Rw (w.setCell ⟨g, o, none⟩ (.int .u8 ((S 0 : Nat) : Int))) g N (fun i => if i = o then S 0 else F i) := by
      refine ⟨h.1, fun i hi => ?_, (h.2.2.set o _).congr (fun i hi => ?_)⟩
      · dsimp only
        split
        · exact hS 0 (by omega)
        · exact h.2.1 i hi
      · dsimp only
        by_cases e : i = o
        · rw [if_pos e, if_pos e]
        · rw [if_neg e, if_neg e]
    have o1 : Only g w (w.setCell ⟨g, o, none⟩ (.int .u8 ((S 0 : Nat) : Int))) := (Only.refl g w).setCell o _
    obtain ⟨h2, o2⟩ := setCells_rw n (fun i => S (i + 1)) (o + 1) _ _ h1 (by omega) (fun i hi => hS (i + 1) (by omega))
    refine ⟨h2.congr (fun i hi => ?_), o1.trans o2⟩
    unfold pl
    dsimp only
    by_cases e : i = o
    · rw [if_neg (by omega), if_pos e, if_pos (by omega), e, Nat.sub_self]
    · by_cases e2 : o + 1 ≤ i ∧ i < o + 1 + n
      · rw [if_pos e2, if_pos (by omega)]
        show S (i - (o + 1) + 1) = S (i - o)
        rw [show i - (o + 1) + 1 = i - o by omega]
      · rw [if_neg e2, if_neg e, if_neg (by omega)]

theorem info_u8a : ∃ i, Try.prog.info? 5 = some i ∧ i.zero = some (Value.int .u8 0) ∧ i.size = 1 ∧ i.bytes = 1 := by
  have h := info_u8m
  cases hi : Try.prog.info? 5 with
  | none => rw [hi] at h; cases h
  | some i =>
    rw [hi] at h
    simp at h
    exact ⟨i, rfl, h.1, h.2.1, h.2.2⟩

/-- n bytes more behind the first L of a row. -/
theorem app8 (w : World) {g C L : Nat} {F : Nat → Nat} (hr : Rw w g C F) (hL : L ≤ C) {x : Option Addr} {n cx : Nat} {S : Nat → Nat} (hS : ∀ i, i < n → S i < 256)
    (h4 : 0 < n → ∃ b p, x = some ⟨b, p, none⟩ ∧ ∀ i, i < n → w.cell? ⟨b, p + i, none⟩ = some (.int .u8 (S i : Nat))) (hn : L + n ≤ 140737488355328) :
    ∃ w' g' C' F', (Builtin.append_ #[24, 24] 24 #[.slice (some ⟨g, 0, none⟩) L C, .slice x n cx]).run Try.prog w = .ok (.slice (some ⟨g', 0, none⟩) (L + n) C') w' ∧
      L + n ≤ C' ∧ Rw w' g' C' F' ∧ (∀ i, i < L → F' i = F i) ∧ (∀ i, i < n → F' (L + i) = S i) ∧ ((g' = g ∧ Only g w w') ∨ (g' = w.heap.size ∧ w'.heap.size = w.heap.size + 1 ∧ Below w.heap.size w w')) := by
  obtain ⟨ti, hi, hz, hs1, hb1⟩ := info_u8a
  by_cases h0 : n = 0
  · subst h0
    refine ⟨w, g, C, F, ?_, hL, hr, fun _ _ => rfl, fun i hi => absurd hi (Nat.not_lt_zero _), .inl ⟨rfl, Only.refl _ _⟩⟩
    cases x with
    | none =>
      have hs : Src Try.prog ti.size 24 (.slice none 0 cx) 0 [] w := Src.ofNil w Try.underlying24 cx
      exact run_append_nothing w 24 24 24 5 ti Try.underlying24 hi _ L C hL _ hs
    | some a =>
      have hs : Src Try.prog ti.size 24 (.slice (some a) 0 cx) 0 [] w := Src.ofSlice w Try.underlying24 a 0 cx [] (by simp) (fun j u h => by simp at h) (fun u h => by cases h)
      exact run_append_nothing w 24 24 24 5 ti Try.underlying24 hi _ L C hL _ hs
  · obtain ⟨b, p, rfl, hc⟩ := h4 (by omega)
    have ea : ∀ j, (⟨b, p, none⟩ : Addr).add j = ⟨b, p + j, none⟩ := fun j => by unfold Addr.add; split <;> simp_all
    have hs : Src Try.prog ti.size 24 (.slice (some ⟨b, p, none⟩) n cx) n (bs n S) w := Src.ofSlice w Try.underlying24 ⟨b, p, none⟩ n cx (bs n S) (by rw [bs_len, hs1, Nat.mul_one]) (fun j u h => by
      have hj : j < n := by
        rcases Nat.lt_or_ge j n with h9 | h9
        · exact h9
        · rw [List.getElem?_eq_none (by rw [bs_len]; exact h9)] at h; cases h
      rw [bs_get n S j hj] at h
      cases h
      rw [ea]
      exact hc j hj) bs_one
    by_cases hroom : L + n ≤ C
    · obtain ⟨k1, k2⟩ := setCells_rw n S L w F hr hroom hS
      have hrun := run_append_room_src w 24 24 24 5 ti Try.underlying24 hi g 0 L C _ n (bs n S) hs hroom
        (fun j hj => by rw [bs_len] at hj; rw [hs1, Nat.mul_one, Nat.zero_add, hr.2.2.cell (i := L + j) (by omega)]; rfl)
        (fun j hj => by rw [hs1, Nat.mul_one, Nat.zero_add]; exact hr.2.2.frozen _)
      rw [hs1, Nat.mul_one, Nat.zero_add] at hrun
      exact ⟨_, g, C, _, hrun, hroom, k1, fun i hi => pl_out (by omega), fun i hi => pl_in hi, .inl ⟨rfl, k2⟩⟩
    · have hold : (Builtin.firstCells ti.size L (.slice (some ⟨g, 0, none⟩) L C)).run Try.prog w.drew = .ok (bs L F).toArray w.drew := by
        refine run_firstCells_some w.drew ti.size L ⟨g, 0, none⟩ L C (bs L F) (by rw [bs_len, hs1, Nat.mul_one]) (fun j u hu => ?_)
        have hj : j < L := by
          rcases Nat.lt_or_ge j L with h9 | h9
          · exact h9
          · rw [List.getElem?_eq_none (by rw [bs_len]; exact h9)] at hu; cases hu
        rw [bs_get L F j hj] at hu
        cases hu
        rw [Addr.add_lit, Nat.zero_add]
        exact hr.2.2.cell (i := j) (by omega)
      have hrun := run_append_grow_src w 24 24 24 5 ti (Value.int .u8 0) Try.underlying24 hi hz (some ⟨g, 0, none⟩) L C (bs L F) hold _ n (bs n S) hs (by omega) (by omega) (growslice_fits (by omega) (by rw [hb1, Nat.mul_one]; exact hn))
      have hge := grownCap_ge w (L + n) C 5
      have hcm := grownCap_le_maxLen w (L + n) C 5 (by unfold maxLen; omega)
      obtain ⟨C', hC'⟩ : ∃ C', C' = grownCap w (L + n) C 5 := ⟨_, rfl⟩
      rw [← hC'] at hrun hge hcm
      have hF0 : ∀ i, i < L → F i < 256 := fun i hi => hr.2.1 i (by omega)
      refine ⟨_, w.heap.size, C', fun i => if i < L then F i else if i < L + n then S (i - L) else 0, hrun, hge, ⟨by unfold big; unfold maxLen at hcm; exact hcm, fun i hi => ?_, _, heap_alloc_new _ _, ?_, fun i hi => ?_⟩, fun i hi => if_pos hi, fun i hi => ?_, .inr ⟨rfl, by simp, ?_⟩⟩
      · dsimp only
        split
        · exact hF0 i (by assumption)
        · split
          · exact hS _ (by omega)
          · decide
      · rw [Array.size_append, List.size_toArray, List.length_append, bs_len, bs_len, size_zeroCells]
        show L + n + (C' - (L + n)) * 1 = C'
        omega
      · show _ = some (Value.int .u8 (((if i < L then F i else if i < L + n then S (i - L) else 0) : Nat) : Int))
        by_cases e1 : i < L
        · rw [if_pos e1, Array.getElem?_append_left (by simp [bs_len]; omega), List.getElem?_toArray, List.getElem?_append_left (by rw [bs_len]; exact e1), bs_get _ _ _ e1]
        · by_cases e2 : i < L + n
          · rw [if_neg e1, if_pos e2, Array.getElem?_append_left (by simp [bs_len]; omega), List.getElem?_toArray, List.getElem?_append_right (by rw [bs_len]; omega), bs_len, bs_get _ _ _ (by omega)]
          · rw [if_neg e1, if_neg e2, Array.getElem?_append_right (by simp [bs_len]; omega)]
            have hk : i - ((bs L F ++ bs n S).toArray).size < C' - (L + n) := by simp [bs_len]; omega
            generalize i - ((bs L F ++ bs n S).toArray).size = k at hk
            simp [Builtin.zeroCells, Value.cells, hk, Nat.mod_one]
      · show (if L + i < L then F (L + i) else if L + i < L + n then S (L + i - L) else 0) = S i
        rw [if_neg (by omega), if_pos (by omega), Nat.add_sub_cancel_left]
      · exact ((Below.refl w.heap.size w).drew).alloc (by simp) _
end Go.Proofs.Ytldacjpkblffbab
namespace Go.Proofs.Ytldacjpkblffbab
open Go.RowKit Gf2
set_option linter.unusedVariables false

/-- append([]byte{}, x...). -/
theorem copy_app (w : World) {x : Option Addr} {n cx : Nat} {S : Nat → Nat} (h : Rb w (.slice x n cx) n S) (hn : n ≤ 140737488355328) :
    ∃ w' g C F, (Builtin.append_ #[24, 24] 24 #[.slice (some ⟨w.heap.size, 0, none⟩) 0 0, .slice x n cx]).run Try.prog (w.alloc (.cells #[] 5)) = .ok (.slice (some ⟨g, 0, none⟩) n C) w' ∧
      n ≤ C ∧ w.heap.size ≤ g ∧ g < w'.heap.size ∧ Rw w' g C F ∧ (∀ i, i < n → F i = S i) ∧ Below w.heap.size w w' := by
  obtain ⟨b1, b2, a, c', b3, b5, b6, b4⟩ := h
  cases b3
  have r0 := lit_rw [] w (fun x h => by cases h) (by decide)
  have hb0 : Below w.heap.size w (w.alloc (.cells #[] 5)) := (Below.refl _ _).alloc (Nat.le_refl _) _
  obtain ⟨w1, g, C, F, hrun, hC, hR, -, hF, hcase⟩ := app8 (w.alloc (.cells #[] 5)) (g := w.heap.size) (C := 0) (L := 0) r0 (Nat.le_refl _) (x := x) (n := n) (cx := cx) (S := S) b2 (fun h0 => by
    obtain ⟨b, o, e, hl, hcl⟩ := b4 h0
    exact ⟨b, o, e, fun i hi => (hb0.cell (p := ⟨b, o + i, none⟩) hl).trans (hcl i hi)⟩) (by omega)
  rw [Nat.zero_add] at hrun hC
  have hs : (w.alloc (.cells #[] 5)).heap.size = w.heap.size + 1 := by simp
  refine ⟨w1, g, C, F, hrun, hC, ?_, hR.lt, hR, fun i hi => by rw [← hF i hi, Nat.zero_add], ?_⟩
  · rcases hcase with ⟨e, -⟩ | ⟨e, -, -⟩
    · omega
    · rw [hs] at e; omega
  · rcases hcase with ⟨e, ho⟩ | ⟨e, -, hb⟩
    · exact hb0.trans (ho.below (Nat.le_refl _))
    · exact hb0.trans (hb.mono (by rw [hs]; omega))

/-- what a list is behind a call of the document's: n bytes in a row of its own. -/
def Own8 (w w' : World) (g C n : Nat) (S : Nat → Nat) : Prop := n ≤ C ∧ w.heap.size ≤ g ∧ Below w.heap.size w w' ∧ ∃ F, Rw w' g C F ∧ ∀ i, i < n → F i = S i

end Go.Proofs.Ytldacjpkblffbab
namespace Go.Proofs.Ytldacjpkblffbab
open Go.RowKit Gf2
set_option linter.unusedVariables false

/-- of what was there nothing but block g has turned. -/
def Kp (g : Nat) (w w' : World) : Prop := Below 0 w w' ∧ ∀ b, b < w.heap.size → b ≠ g → w'.heap[b]? = w.heap[b]?
theorem Kp.refl (g : Nat) (w : World) : Kp g w w := ⟨Below.refl _ _, fun _ _ _ => rfl⟩
theorem Kp.size {g : Nat} {w w' : World} (h : Kp g w w') : w.heap.size ≤ w'.heap.size := h.1.size
theorem Kp.trans {g : Nat} {a b c : World} (h : Kp g a b) (k : Kp g b c) : Kp g a c := ⟨h.1.trans k.1, fun x hx hn => (k.2 x (Nat.lt_of_lt_of_le hx h.size) hn).trans (h.2 x hx hn)⟩
theorem Only.kp {g : Nat} {a b : World} (h : Only g a b) : Kp g a b := ⟨h.1, fun x _ hn => h.2.2 x hn⟩
theorem kp_below {a b : World} (h : Below a.heap.size a b) (g : Nat) : Kp g a b := ⟨h.mono (Nat.zero_le _), fun x hx _ => h.block x hx⟩
theorem Kp.below {g B : Nat} {a b : World} (h : Kp g a b) (hg : B ≤ g) (hB : B ≤ a.heap.size) : Below B a b := ⟨h.1.os, h.1.tape, h.1.output, h.1.size, fun k hk => h.2 k (by omega) (by omega)⟩
theorem Kp.drewN {g : Nat} {a b : World} (h : Kp g a b) (m : Nat) : Kp g a (b.drewN m) := ⟨⟨h.1.os, h.1.tape, h.1.output, h.1.size, h.1.block⟩, h.2⟩
theorem Kp.drew {g : Nat} {a b : World} (h : Kp g a b) : Kp g a b.drew := ⟨h.1.drew, h.2⟩
theorem Kp.setCell {g : Nat} {a b : World} (h : Kp g a b) (o : Nat) (v : Value) : Kp g a (b.setCell ⟨g, o, none⟩ v) := h.trans ((Only.refl g b).setCell o v).kp
theorem Kp.rw_ {g k N : Nat} {F : Nat → Nat} {a b : World} (h : Kp g a b) (hk : Rw a k N F) (hne : k ≠ g) : Rw b k N F := hk.of_block (h.2 k hk.lt hne)
theorem Kp.cell {g h q : Nat} {a b : World} (k : Kp g a b) (hl : h < a.heap.size) (hne : h ≠ g) : b.cell? ⟨h, q, none⟩ = a.cell? ⟨h, q, none⟩ := by
  unfold World.cell?
  rw [k.2 h hl hne]
/-- how the list of src reads while block g turns and new memory is made. -/
def Rdk (w : World) (g N n : Nat) (x : Option Addr) (rd : (Nat → Nat) → Nat → Nat) : Prop := ∃ h q, x = some ⟨h, q, none⟩ ∧ ∀ w' F, Kp g w w' → Rw w' g N F → ∀ i, i < n → rd F i < 256 ∧ w'.cell? ⟨h, q + i, none⟩ = some (.int .u8 (rd F i : Nat))
/-- a list in another block than g. -/
def Fk (w : World) (g n : Nat) (x : Option Addr) (S : Nat → Nat) : Prop := (∀ i, i < n → S i < 256) ∧ (0 < n → ∃ h q, x = some ⟨h, q, none⟩ ∧ h ≠ g ∧ h < w.heap.size ∧ ∀ i, i < n → w.cell? ⟨h, q + i, none⟩ = some (.int .u8 (S i : Nat)))
theorem Fk.reads {w : World} {g N n : Nat} {x : Option Addr} {S : Nat → Nat} (h : Fk w g n x S) (h0 : 0 < n) : Rdk w g N n x (fun _ => S) := by
  obtain ⟨b, q, e, hne, hl, hc⟩ := h.2 h0
  exact ⟨b, q, e, fun w' F ho hr i hi => ⟨h.1 i hi, (ho.cell hl hne).trans (hc i hi)⟩⟩
theorem Rdk.row {w : World} {g N n q : Nat} {x : Option Addr} (e : x = some ⟨g, q, none⟩) (hq : q + n ≤ N) : Rdk w g N n x (fun F i => F (q + i)) :=
  ⟨g, q, e, fun w' F ho hr i hi => ⟨hr.2.1 _ (by omega), hr.2.2.cell (i := q + i) (by omega)⟩⟩
theorem Rdk.later {w w1 : World} {g N n : Nat} {x : Option Addr} {rd : (Nat → Nat) → Nat → Nat} (h : Rdk w g N n x rd) (hb : Kp g w w1) : Rdk w1 g N n x rd := by
  obtain ⟨b, q, e, hr⟩ := h
  exact ⟨b, q, e, fun w' F ho hR i hi => hr w' F (hb.trans ho) hR i hi⟩

/-- F, but at t. -/
def upn {α : Type} (G : Nat → α) (t : Nat) (F : α) (j : Nat) : α := if j = t then F else G j
theorem upn_same {α : Type} (G : Nat → α) (t : Nat) (F : α) : upn G t F t = F := if_pos rfl
theorem upn_other {α : Type} (G : Nat → α) {t j : Nat} (F : α) (h : j ≠ t) : upn G t F j = G j := if_neg h
/-- K rows above the world W0, in blocks of their own, the j-th in block B j, of length N j, with the bytes G j; nothing of W0 has turned. -/
def Ow (W0 : World) (K : Nat) (N B : Nat → Nat) (G : Nat → Nat → Nat) (W : World) : Prop :=
  Below W0.heap.size W0 W ∧ (∀ j, j < K → W0.heap.size ≤ B j ∧ Rw W (B j) (N j) (G j)) ∧ ∀ i j, i < K → j < K → i ≠ j → B i ≠ B j
theorem Ow.start (W0 : World) (N B : Nat → Nat) (G : Nat → Nat → Nat) : Ow W0 0 N B G W0 := ⟨Below.refl _ _, fun j hj => absurd hj (Nat.not_lt_zero _), fun i j hi => absurd hi (Nat.not_lt_zero _)⟩

section
variable {W0 W : World} {K : Nat} {N B : Nat → Nat} {G : Nat → Nat → Nat}
theorem Ow.bel (h : Ow W0 K N B G W) : Below W0.heap.size W0 W := h.1
theorem Ow.drewN (h : Ow W0 K N B G W) (m : Nat) : Ow W0 K N B G (W.drewN m) := ⟨below_drewN h.1 m, fun j hj => ⟨(h.2.1 j hj).1, (h.2.1 j hj).2.drewN m⟩, h.2.2⟩
theorem Ow.drew (h : Ow W0 K N B G W) : Ow W0 K N B G W.drew := ⟨h.1.drew, fun j hj => ⟨(h.2.1 j hj).1, (h.2.1 j hj).2.1, (h.2.1 j hj).2.2.1, (h.2.1 j hj).2.2.2.drew⟩, h.2.2⟩
theorem Ow.row (h : Ow W0 K N B G W) {t : Nat} (ht : t < K) : Rw W (B t) (N t) (G t) := (h.2.1 t ht).2
theorem Ow.lo (h : Ow W0 K N B G W) {t : Nat} (ht : t < K) : W0.heap.size ≤ B t := (h.2.1 t ht).1
theorem Ow.still (h : Ow W0 K N B G W) {W' : World} (hb : Below W.heap.size W W') : Ow W0 K N B G W' :=
  ⟨h.1.trans (hb.mono h.1.size), fun j hj => ⟨(h.2.1 j hj).1, rw_below (h.2.1 j hj).2 hb⟩, h.2.2⟩
theorem Ow.more (h : Ow W0 K N B G W) {W' : World} {n b : Nat} {F : Nat → Nat} (hb : Below W.heap.size W W') (hs : W.heap.size ≤ b) (hr : Rw W' b n F) : Ow W0 (K + 1) (upn N K n) (upn B K b) (upn G K F) W' := by
  refine ⟨h.1.trans (hb.mono h.1.size), fun j hj => ?_, fun i j hi hj hij => ?_⟩
  · by_cases e : j = K
    · subst e
      rw [upn_same, upn_same, upn_same]
      exact ⟨Nat.le_trans h.1.size hs, hr⟩
    · rw [upn_other _ _ e, upn_other _ _ e, upn_other _ _ e]
      exact ⟨(h.2.1 j (by omega)).1, rw_below (h.2.1 j (by omega)).2 hb⟩
  · by_cases e : i = K
    · subst e
      rw [upn_same, upn_other _ _ (fun e => hij e.symm)]
      have := (h.2.1 j (by omega)).2.lt
      omega
    · rw [upn_other _ _ e]
      by_cases e2 : j = K
      · subst e2
        rw [upn_same]
        have := (h.2.1 i (by omega)).2.lt
        omega
      · rw [upn_other _ _ e2]
        exact h.2.2 i j (by omega) (by omega) hij
theorem Ow.turn (h : Ow W0 K N B G W) {W' : World} {t : Nat} {F : Nat → Nat} (ht : t < K) (hk : Kp (B t) W W') (hr : Rw W' (B t) (N t) F) : Ow W0 K N B (upn G t F) W' := by
  refine ⟨h.1.trans (hk.below (h.lo ht) h.1.size), fun j hj => ⟨(h.2.1 j hj).1, ?_⟩, h.2.2⟩
  by_cases e : j = t
  · subst e; rw [upn_same]; exact hr
  · rw [upn_other _ _ e]
    exact hk.rw_ (h.2.1 j hj).2 (h.2.2 j t hj ht e)
theorem Ow.congr (h : Ow W0 K N B G W) {G' : Nat → Nat → Nat} (e : ∀ j, j < K → ∀ i, i < N j → G j i = G' j i) : Ow W0 K N B G' W := ⟨h.1, fun j hj => ⟨(h.2.1 j hj).1, (h.2.1 j hj).2.congr (e j hj)⟩, h.2.2⟩
theorem Rw.set {w : World} {g N : Nat} {F : Nat → Nat} (h : Rw w g N F) (k v : Nat) (hv : v < 256) : Rw (w.setCell ⟨g, k, none⟩ (.int .u8 (v : Nat))) g N (fun i => if i = k then v else F i) := by
  refine ⟨h.1, fun i hi => ?_, (h.2.2.set k _).congr (fun i hi => ?_)⟩
  · dsimp only
    split
    · exact hv
    · exact h.2.1 i hi
  · dsimp only
    by_cases e : i = k
    · rw [if_pos e, if_pos e]
    · rw [if_neg e, if_neg e]
/-- one byte of row t. -/
theorem Ow.set (h : Ow W0 K N B G W) (t k v : Nat) {b : Nat} (hb : b = B t) (ht : t < K) (hv : v < 256) : Ow W0 K N B (upn G t (fun i => if i = k then v else G t i)) (W.setCell ⟨b, k, none⟩ (.int .u8 (v : Nat))) := by
  subst hb
  exact h.turn ht ((Only.refl _ _).setCell _ _).kp ((h.row ht).set k v hv)
theorem Ow.one {N B : Nat → Nat} {G : Nat → Nat → Nat} (h : Ow W0 1 N B G W) (T : Nat → Nat) (e : G 0 = T) : Ow W0 1 N B (fun _ => T) W :=
  h.congr (fun j hj i _ => by obtain rfl : j = 0 := by omega
                              rw [e])
theorem Ow.one6 {N B : Nat → Nat} {G : Nat → Nat → Nat} (h : Ow W0 1 N B G W) (T : Nat → Nat) (e : ∀ i, i < N 0 → G 0 i = T i) : Ow W0 1 N B (fun _ => T) W :=
  h.congr (fun j hj i hi => by obtain rfl : j = 0 := by omega
                               exact e i hi)
theorem Ow.over {t : Nat} {F F' : Nat → Nat} (h : Ow W0 K N B (upn (upn G t F) t F') W) : Ow W0 K N B (upn G t F') W :=
  h.congr (fun j hj i hi => by by_cases e : j = t
                               · subst e; rw [upn_same, upn_same]
                               · rw [upn_other _ _ e, upn_other _ _ e, upn_other _ _ e])
/-- a list of W0 in W. -/
theorem Ow.src (h : Ow W0 K N B G W) {v : Value} {n : Nat} {S : Nat → Nat} (hv : Rb W0 v n S) : Rb W v n S := hv.below h.1
/-- row t as a list. -/
theorem Ow.own (h : Ow W0 K N B G W) (t n cap : Nat) {b : Nat} (hb : b = B t) (ht : t < K) (hn : n = N t) (hc : n ≤ cap) (hc2 : cap ≤ big) : Rb W (.slice (some ⟨b, 0, none⟩) n cap) n (G t) := by
  subst hb hn
  exact ((h.row ht).rb (o := 0) (n := N t) (cap := cap) (by omega) hc hc2).congr (fun i _ => by rw [Nat.zero_add])
/-- a list of W0 lies apart from row t. -/
theorem Ow.far (h : Ow W0 K N B G W) (t : Nat) {x : Option Addr} {n cx : Nat} {S : Nat → Nat} (hv : Rb W0 (.slice x n cx) n S) (ht : t < K) : Fk W (B t) n x S := by
  obtain ⟨b1, b2, a, c', b3, b5, b6, b4⟩ := hv
  cases b3
  refine ⟨b2, fun h0 => ?_⟩
  obtain ⟨b, o, e, hl, hc⟩ := b4 h0
  have := h.lo ht
  exact ⟨b, o, e, by omega, Nat.lt_of_lt_of_le hl h.1.size, fun i hi => (h.1.cell (p := ⟨b, o + i, none⟩) hl).trans (hc i hi)⟩
/-- row s lies apart from row t. -/
theorem Ow.farRow (h : Ow W0 K N B G W) (s t n : Nat) {b : Nat} (hb : b = B s) (hs : s < K) (ht : t < K) (hst : s ≠ t) (hn : n ≤ N s) : Fk W (B t) n (some ⟨b, 0, none⟩) (G s) := by
  subst hb
  have hr := h.row hs
  refine ⟨fun i hi => hr.2.1 i (by omega), fun h0 => ⟨B s, 0, rfl, h.2.2 s t hs ht hst, hr.lt, fun i hi => ?_⟩⟩
  rw [Nat.zero_add]
  exact hr.2.2.cell (by omega)
end
end Go.Proofs.Ytldacjpkblffbab
namespace Go.Proofs.Ytldacjpkblffbab
open Go.RowKit Gf2
set_option linter.unusedVariables false

/-- of what was there nothing but the blocks of E has turned; new memory may have come. -/
def Ke (E : Nat → Prop) (w w' : World) : Prop := Below 0 w w' ∧ ∀ b, b < w.heap.size → ¬ E b → w'.heap[b]? = w.heap[b]?
theorem Ke.refl (E : Nat → Prop) (w : World) : Ke E w w := ⟨Below.refl _ _, fun _ _ _ => rfl⟩
theorem Ke.size {E : Nat → Prop} {w w' : World} (h : Ke E w w') : w.heap.size ≤ w'.heap.size := h.1.size
theorem Ke.trans {E : Nat → Prop} {a b c : World} (h : Ke E a b) (k : Ke E b c) : Ke E a c := ⟨h.1.trans k.1, fun x hx hn => (k.2 x (Nat.lt_of_lt_of_le hx h.size) hn).trans (h.2 x hx hn)⟩
theorem Ke.mono {E E' : Nat → Prop} {a b : World} (h : Ke E a b) (hE : ∀ x, x < a.heap.size → E x → E' x) : Ke E' a b := ⟨h.1, fun x hx hn => h.2 x hx (fun e => hn (hE x hx e))⟩
theorem Kp.ke {g : Nat} {a b : World} (h : Kp g a b) : Ke (fun x => x = g) a b := ⟨h.1, fun x hx hn => h.2 x hx hn⟩
theorem Ke.kp {g : Nat} {a b : World} (h : Ke (fun x => x = g) a b) : Kp g a b := ⟨h.1, fun x hx hn => h.2 x hx hn⟩
theorem ke_below {a b : World} (h : Below a.heap.size a b) (E : Nat → Prop) : Ke E a b := ⟨h.mono (Nat.zero_le _), fun x hx _ => h.block x hx⟩
theorem Ke.below {E : Nat → Prop} {B : Nat} {a b : World} (h : Ke E a b) (hE : ∀ x, E x → B ≤ x) (hB : B ≤ a.heap.size) : Below B a b := ⟨h.1.os, h.1.tape, h.1.output, h.1.size, fun k hk => h.2 k (by omega) (fun e => by have := hE k e; omega)⟩
theorem Ke.drewN {E : Nat → Prop} {a b : World} (h : Ke E a b) (m : Nat) : Ke E a (b.drewN m) := ⟨⟨h.1.os, h.1.tape, h.1.output, h.1.size, h.1.block⟩, h.2⟩
theorem Ke.cell {E : Nat → Prop} {h q : Nat} {a b : World} (k : Ke E a b) (hl : h < a.heap.size) (hne : ¬ E h) : b.cell? ⟨h, q, none⟩ = a.cell? ⟨h, q, none⟩ := by
  unfold World.cell?
  rw [k.2 h hl hne]
theorem Ke.rw_ {E : Nat → Prop} {k N : Nat} {F : Nat → Nat} {a b : World} (h : Ke E a b) (hk : Rw a k N F) (hne : ¬ E k) : Rw b k N F := hk.of_block (h.2 k hk.lt hne)

/-- bytes behind a slice value, in no block of E. -/
def Re (E : Nat → Prop) (w : World) (v : Value) (n : Nat) (F : Nat → Nat) : Prop := n ≤ big ∧ (∀ i, i < n → F i < 256) ∧
  ∃ a cap, v = .slice a n cap ∧ n ≤ cap ∧ cap ≤ big ∧ (0 < n → ∃ b o, a = some ⟨b, o, none⟩ ∧ (b < w.heap.size ∧ ¬ E b) ∧ ∀ i, i < n → w.cell? ⟨b, o + i, none⟩ = some (.int .u8 (F i : Nat)))
theorem Re.rb {E : Nat → Prop} {w : World} {v : Value} {n : Nat} {F : Nat → Nat} (h : Re E w v n F) : Rb w v n F := by
  obtain ⟨h1, h2, a, cap, h3, h5, h6, h4⟩ := h
  refine ⟨h1, h2, a, cap, h3, h5, h6, fun h0 => ?_⟩
  obtain ⟨b, o, e, hl, hc⟩ := h4 h0
  exact ⟨b, o, e, hl.1, hc⟩
theorem Rb.re {E : Nat → Prop} {w : World} {v : Value} {n : Nat} {F : Nat → Nat} (h : Rb w v n F) (hE : ∀ x, x < w.heap.size → ¬ E x) : Re E w v n F := by
  obtain ⟨h1, h2, a, cap, h3, h5, h6, h4⟩ := h
  refine ⟨h1, h2, a, cap, h3, h5, h6, fun h0 => ?_⟩
  obtain ⟨b, o, e, hl, hc⟩ := h4 h0
  exact ⟨b, o, e, ⟨hl, hE b hl⟩, hc⟩
theorem Re.mono {E E' : Nat → Prop} {w : World} {v : Value} {n : Nat} {F : Nat → Nat} (h : Re E w v n F) (hE : ∀ x, x < w.heap.size → E' x → E x) : Re E' w v n F := by
  obtain ⟨h1, h2, a, cap, h3, h5, h6, h4⟩ := h
  refine ⟨h1, h2, a, cap, h3, h5, h6, fun h0 => ?_⟩
  obtain ⟨b, o, e, hl, hc⟩ := h4 h0
  exact ⟨b, o, e, ⟨hl.1, fun x => hl.2 (hE b hl.1 x)⟩, hc⟩
theorem Re.ke {E : Nat → Prop} {w w' : World} {v : Value} {n : Nat} {F : Nat → Nat} (h : Re E w v n F) (hk : Ke E w w') : Re E w' v n F := by
  obtain ⟨h1, h2, a, cap, h3, h5, h6, h4⟩ := h
  refine ⟨h1, h2, a, cap, h3, h5, h6, fun h0 => ?_⟩
  obtain ⟨b, o, e, hl, hc⟩ := h4 h0
  exact ⟨b, o, e, ⟨Nat.lt_of_lt_of_le hl.1 hk.size, hl.2⟩, fun i hi => (hk.cell hl.1 hl.2).trans (hc i hi)⟩
theorem Re.congr {E : Nat → Prop} {w : World} {v : Value} {n : Nat} {F G : Nat → Nat} (h : Re E w v n F) (e : ∀ i, i < n → F i = G i) : Re E w v n G := by
  obtain ⟨h1, h2, a, cap, h3, h5, h6, h4⟩ := h
  refine ⟨h1, fun i hi => by rw [← e i hi]; exact h2 i hi, a, cap, h3, h5, h6, fun h0 => ?_⟩
  obtain ⟨b, o, e', hl, hc⟩ := h4 h0
  exact ⟨b, o, e', hl, fun i hi => by rw [← e i hi]; exact hc i hi⟩
theorem Re.fk {g : Nat} {w : World} {x : Option Addr} {n cx : Nat} {F : Nat → Nat} (h : Re (fun b => b = g) w (.slice x n cx) n F) : Fk w g n x F := by
  obtain ⟨h1, h2, a, cap, h3, h5, h6, h4⟩ := h
  cases h3
  refine ⟨h2, fun h0 => ?_⟩
  obtain ⟨b, o, e, hl, hc⟩ := h4 h0
  exact ⟨b, o, e, hl.2, hl.1, hc⟩
theorem Rw.re {E : Nat → Prop} {w : World} {g N n cap : Nat} {F : Nat → Nat} (h : Rw w g N F) (hn : n ≤ N) (hc : n ≤ cap) (hc2 : cap ≤ big) (hE : ¬ E g) : Re E w (.slice (some ⟨g, 0, none⟩) n cap) n F := by
  obtain ⟨h1, h2, h3⟩ := h
  exact ⟨by omega, fun i hi => h2 _ (by omega), _, _, rfl, hc, hc2, fun _ => ⟨g, 0, rfl, ⟨h3.lt, hE⟩, fun i hi => by rw [Nat.zero_add]; exact h3.cell (by omega)⟩⟩

/-- values behind a slice value, in no block of E. -/
def Lv (E : Nat → Prop) (w : World) (v : Value) (m : Nat) (V : Nat → Value) : Prop := m ≤ big ∧
  ∃ a cap, v = .slice a m cap ∧ m ≤ cap ∧ cap ≤ big ∧ (0 < m → ∃ b o, a = some ⟨b, o, none⟩ ∧ (b < w.heap.size ∧ ¬ E b) ∧ ∀ i, i < m → w.cell? ⟨b, o + i, none⟩ = some (V i))
theorem Lv.mono {E E' : Nat → Prop} {w : World} {v : Value} {n : Nat} {V : Nat → Value} (h : Lv E w v n V) (hE : ∀ x, x < w.heap.size → E' x → E x) : Lv E' w v n V := by
  obtain ⟨h1, a, cap, h3, h5, h6, h4⟩ := h
  refine ⟨h1, a, cap, h3, h5, h6, fun h0 => ?_⟩
  obtain ⟨b, o, e, hl, hc⟩ := h4 h0
  exact ⟨b, o, e, ⟨hl.1, fun x => hl.2 (hE b hl.1 x)⟩, hc⟩
theorem Lv.ke {E : Nat → Prop} {w w' : World} {v : Value} {n : Nat} {V : Nat → Value} (h : Lv E w v n V) (hk : Ke E w w') : Lv E w' v n V := by
  obtain ⟨h1, a, cap, h3, h5, h6, h4⟩ := h
  refine ⟨h1, a, cap, h3, h5, h6, fun h0 => ?_⟩
  obtain ⟨b, o, e, hl, hc⟩ := h4 h0
  exact ⟨b, o, e, ⟨Nat.lt_of_lt_of_le hl.1 hk.size, hl.2⟩, fun i hi => (hk.cell hl.1 hl.2).trans (hc i hi)⟩
/-- a list of m lists of bytes, the i-th of n i bytes S i, all in no block of E. -/
def Ll (E : Nat → Prop) (w : World) (v : Value) (m : Nat) (n : Nat → Nat) (S : Nat → Nat → Nat) : Prop := ∃ V, Lv E w v m V ∧ ∀ i, i < m → Re E w (V i) (n i) (S i)
theorem Ll.mono {E E' : Nat → Prop} {w : World} {v : Value} {m : Nat} {n : Nat → Nat} {S : Nat → Nat → Nat} (h : Ll E w v m n S) (hE : ∀ x, x < w.heap.size → E' x → E x) : Ll E' w v m n S := by
  obtain ⟨V, h1, h2⟩ := h
  exact ⟨V, h1.mono hE, fun i hi => (h2 i hi).mono hE⟩
theorem Ll.ke {E : Nat → Prop} {w w' : World} {v : Value} {m : Nat} {n : Nat → Nat} {S : Nat → Nat → Nat} (h : Ll E w v m n S) (hk : Ke E w w') : Ll E w' v m n S := by
  obtain ⟨V, h1, h2⟩ := h
  exact ⟨V, h1.ke hk, fun i hi => (h2 i hi).ke hk⟩
theorem Ll.congr {E : Nat → Prop} {w : World} {v : Value} {m : Nat} {n : Nat → Nat} {S T : Nat → Nat → Nat} (h : Ll E w v m n S) (e : ∀ i, i < m → ∀ j, j < n i → S i j = T i j) : Ll E w v m n T := by
  obtain ⟨V, h1, h2⟩ := h
  exact ⟨V, h1, fun i hi => (h2 i hi).congr (e i hi)⟩
theorem Ll.lens {E : Nat → Prop} {w : World} {v : Value} {m : Nat} {n n' : Nat → Nat} {S : Nat → Nat → Nat} (h : Ll E w v m n S) (e : ∀ i, i < m → n i = n' i) : Ll E w v m n' S := by
  obtain ⟨V, h1, h2⟩ := h
  exact ⟨V, h1, fun i hi => by rw [← e i hi]; exact h2 i hi⟩
/-- a list of lists that can be read. -/
abbrev Lb (w : World) (v : Value) (m : Nat) (n : Nat → Nat) (S : Nat → Nat → Nat) : Prop := Ll (fun _ => False) w v m n S
theorem Ll.lb {E : Nat → Prop} {w : World} {v : Value} {m : Nat} {n : Nat → Nat} {S : Nat → Nat → Nat} (h : Ll E w v m n S) : Lb w v m n S := h.mono (fun x _ hx => hx.elim)
theorem Lb.below {w w' : World} {v : Value} {m : Nat} {n : Nat → Nat} {S : Nat → Nat → Nat} (h : Lb w v m n S) (hb : Below w.heap.size w w') : Lb w' v m n S := h.ke (ke_below hb _)
theorem Lb.ll {E : Nat → Prop} {w : World} {v : Value} {m : Nat} {n : Nat → Nat} {S : Nat → Nat → Nat} (h : Lb w v m n S) (hE : ∀ x, x < w.heap.size → ¬ E x) : Ll E w v m n S := h.mono (fun x hx e => hE x hx e)
/-- what lies below B can be read on, whatever turns above. -/
theorem Ll.later {w w1 w' : World} {E : Nat → Prop} {v : Value} {m : Nat} {n : Nat → Nat} {S : Nat → Nat → Nat} (h : Lb w v m n S) (hb : Below w.heap.size w w1) (hk : Ke E w1 w') (hE : ∀ x, E x → w.heap.size ≤ x) : Lb w' v m n S :=
  h.below (hb.trans (hk.below hE hb.size))

/-- the sum of the products of R i and S i t, i below k. -/
def ks (R : Nat → Nat) (S : Nat → Nat → Nat) : Nat → Nat → Nat
  | 0, _ => 0
  | k + 1, t => ks R S k t ^^^ fm 285 (R k) (S k t)
theorem ks_lt (R : Nat → Nat) (S : Nat → Nat → Nat) : ∀ k t, ks R S k t < 256
  | 0, _ => by unfold ks; decide
  | k + 1, t => by unfold ks; exact Nat.xor_lt_two_pow (n := 8) (ks_lt R S k t) (fm8_lt _ _)
theorem ks_congr {R R' : Nat → Nat} {S S' : Nat → Nat → Nat} {t : Nat} : ∀ k, (∀ i, i < k → R i = R' i ∧ S i t = S' i t) → ks R S k t = ks R' S' k t
  | 0, _ => rfl
  | k + 1, h => by
    unfold ks
    rw [ks_congr k (fun i hi => h i (by omega)), (h k (by omega)).1, (h k (by omega)).2]

/-- lists of bytes in the blocks from lo up to hi, each at the head of a block of its own, the i-th of n i bytes S i, with room for C i; and the list of them. -/
structure Cs (lo hi : Nat) (w : World) (v : Value) (m : Nat) (n C B : Nat → Nat) (S : Nat → Nat → Nat) : Prop where
  mb : m ≤ big
  hw : hi ≤ w.heap.size
  form : ∃ a c, v = .slice a m c ∧ m ≤ c ∧ c ≤ big ∧ (0 < m → ∃ g, a = some ⟨g, 0, none⟩ ∧ lo ≤ g ∧ g < hi ∧ (∀ i, i < m → B i ≠ g) ∧ ∀ i, i < m → w.cell? ⟨g, i, none⟩ = some (.slice (some ⟨B i, 0, none⟩) (n i) (C i)))
  row : ∀ i, i < m → lo ≤ B i ∧ B i < hi ∧ n i ≤ C i ∧ Rw w (B i) (C i) (S i)
  inj : ∀ i j, i < m → j < m → B i = B j → i = j
/-- the blocks outside of lo up to hi. -/
def Out (lo hi x : Nat) : Prop := x < lo ∨ hi ≤ x
section
variable {lo hi m : Nat} {w w' : World} {v : Value} {n C B : Nat → Nat} {S : Nat → Nat → Nat}
theorem Cs.keep {E : Nat → Prop} (h : Cs lo hi w v m n C B S) (hk : Ke E w w') (hE : ∀ x, lo ≤ x → x < hi → ¬ E x) : Cs lo hi w' v m n C B S := by
  obtain ⟨mb, hw, ⟨a, c, e, hc1, hc2, hf⟩, row, inj⟩ := h
  refine ⟨mb, Nat.le_trans hw hk.size, ⟨a, c, e, hc1, hc2, fun h0 => ?_⟩, fun i hi' => ?_, inj⟩
  · obtain ⟨g, e1, g1, g2, g3, g4⟩ := hf h0
    exact ⟨g, e1, g1, g2, g3, fun i hi' => (hk.cell (by omega) (hE g g1 g2)).trans (g4 i hi')⟩
  · obtain ⟨r1, r2, r3, r4⟩ := row i hi'
    exact ⟨r1, r2, r3, hk.rw_ r4 (hE _ r1 r2)⟩
theorem Cs.below (h : Cs lo hi w v m n C B S) (hb : Below w.heap.size w w') : Cs lo hi w' v m n C B S := h.keep (ke_below hb (fun _ => False)) (fun _ _ _ e => e)
theorem Cs.drewN (h : Cs lo hi w v m n C B S) (k : Nat) : Cs lo hi (w.drewN k) v m n C B S := h.keep ((Ke.refl (fun _ => False) w).drewN k) (fun _ _ _ e => e)
theorem Cs.wide {lo' hi' : Nat} (h : Cs lo hi w v m n C B S) (h1 : lo' ≤ lo) (h2 : hi ≤ hi') (h3 : hi' ≤ w.heap.size) : Cs lo' hi' w v m n C B S := by
  obtain ⟨mb, hw, ⟨a, c, e, hc1, hc2, hf⟩, row, inj⟩ := h
  refine ⟨mb, h3, ⟨a, c, e, hc1, hc2, fun h0 => ?_⟩, fun i hi' => ?_, inj⟩
  · obtain ⟨g, e1, g1, g2, g3, g4⟩ := hf h0
    exact ⟨g, e1, by omega, by omega, g3, g4⟩
  · obtain ⟨r1, r2, r3, r4⟩ := row i hi'
    exact ⟨by omega, by omega, r3, r4⟩
theorem Cs.ll {E : Nat → Prop} (h : Cs lo hi w v m n C B S) (hE : ∀ x, lo ≤ x → x < hi → ¬ E x) : Ll E w v m n S := by
  obtain ⟨mb, hw, ⟨a, c, e, hc1, hc2, hf⟩, row, inj⟩ := h
  refine ⟨fun i => .slice (some ⟨B i, 0, none⟩) (n i) (C i), ⟨mb, a, c, e, hc1, hc2, fun h0 => ?_⟩, fun i hi' => ?_⟩
  · obtain ⟨g, e1, g1, g2, g3, g4⟩ := hf h0
    exact ⟨g, 0, e1, ⟨by omega, hE g g1 g2⟩, fun i hi' => by rw [Nat.zero_add]; exact g4 i hi'⟩
  · obtain ⟨r1, r2, r3, r4⟩ := row i hi'
    exact r4.re r3 r3 r4.1 (hE _ r1 r2)
theorem Cs.lb (h : Cs lo hi w v m n C B S) : Lb w v m n S := h.ll (fun _ _ _ e => e)
/-- the rows turned. -/
theorem Cs.turn {T : Nat → Nat → Nat} (h : Cs lo hi w v m n C B S) (hk : Ke (fun x => ∃ r, r < m ∧ x = B r) w w') (hr : ∀ i, i < m → Rw w' (B i) (C i) (T i)) : Cs lo hi w' v m n C B T := by
  obtain ⟨mb, hw, ⟨a, c, e, hc1, hc2, hf⟩, row, inj⟩ := h
  refine ⟨mb, Nat.le_trans hw hk.size, ⟨a, c, e, hc1, hc2, fun h0 => ?_⟩, fun i hi' => ?_, inj⟩
  · obtain ⟨g, e1, g1, g2, g3, g4⟩ := hf h0
    exact ⟨g, e1, g1, g2, g3, fun i hi' => (hk.cell (by omega) (fun ⟨r, hr1, hr2⟩ => g3 r hr1 hr2.symm)).trans (g4 i hi')⟩
  · obtain ⟨r1, r2, r3, r4⟩ := row i hi'
    exact ⟨r1, r2, r3, hr i hi'⟩
theorem Cs.congr {T : Nat → Nat → Nat} (h : Cs lo hi w v m n C B S) (e : ∀ i, i < m → ∀ j, j < C i → S i j = T i j) : Cs lo hi w v m n C B T := by
  obtain ⟨mb, hw, hf, row, inj⟩ := h
  exact ⟨mb, hw, hf, fun i hi' => ⟨(row i hi').1, (row i hi').2.1, (row i hi').2.2.1, (row i hi').2.2.2.congr (e i hi')⟩, inj⟩
end
end Go.Proofs.Ytldacjpkblffbab
