import Derived.Test.YtefolifecbhgoaaGreatMbaf
import Derived.StillTail
namespace Go.Proofs.YtefolifecbhgoaaGreat
open Go.RowKit Gf2
set_option linter.unusedVariables false

theorem region_tail8 {P : Program} {id : Nat} {Q : Exit → Act → World → Prop} {a : Act} {w : World} {l : List Oper} (n : Nat) (hm : P.follows .mixedOrders = true) (hB : Region.lexTailB .any l.toArray n = true)
    (h : wpStill P l.toArray w.drew (fun a' => wpList P l.toArray Q (l.drop n) a' w.drew) (l.take n) a) : (Code.region id l.toArray true).wp P Q a w := wp_region_still_tail n hm hB h

end Go.Proofs.YtefolifecbhgoaaGreat
namespace Go.Proofs.YtefolifecbhgoaaGreat
open Go.RowKit Gf2
set_option linter.unusedVariables false

theorem Rb.cut {w : World} {x : Option Addr} {n m cx : Nat} {S : Nat → Nat} (h : Rb w (.slice x m cx) m S) (hn : n ≤ m) (hc : n ≤ cx) : Rb w (.slice x n cx) n S := by
  obtain ⟨b1, b2, a, c', b3, b5, b6, b4⟩ := h
  cases b3
  refine ⟨by omega, fun i hi => b2 i (by omega), x, cx, rfl, hc, b6, fun h0 => ?_⟩
  obtain ⟨b, o, e, hl, hcl⟩ := b4 (by omega)
  exact ⟨b, o, e, hl, fun i hi => hcl i (by omega)⟩
theorem Rb.drop {w : World} {b o' n o cx : Nat} {S : Nat → Nat} (h : Rb w (.slice (some ⟨b, o', none⟩) n cx) n S) (ho : o ≤ n) : Rb w (.slice (some ⟨b, o' + o, none⟩) (n - o) (cx - o)) (n - o) (fun i => S (o + i)) := by
  obtain ⟨b1, b2, a, c', b3, b5, b6, b4⟩ := h
  cases b3
  refine ⟨by omega, fun i hi => b2 _ (by omega), _, _, rfl, by omega, by omega, fun h0 => ?_⟩
  obtain ⟨b', p', e, hl, hcl⟩ := b4 (by omega)
  cases e
  exact ⟨b, o' + o, rfl, hl, fun i hi => by rw [Nat.add_assoc]; exact hcl (o + i) (by omega)⟩
theorem lit_rw (l : List Nat) (W : World) (hl : ∀ x ∈ l, x < 256) (hn : l.length ≤ 1000) : Rw (W.alloc (.cells (l.map (fun n : Nat => Value.int .u8 (n : Int))).toArray 5)) W.heap.size l.length (fun i => l.getD i 0) := by
  refine ⟨by unfold big; omega, fun i hi => ?_, _, heap_alloc_new _ _, by simp, fun i hi => ?_⟩
  · simp only [List.getD_eq_getElem?_getD, List.getElem?_eq_getElem hi, Option.getD_some]
    exact hl _ (List.getElem_mem _)
  · simp [List.getD_eq_getElem?_getD, hi]
theorem rw_alloc {W : World} {g N : Nat} {F : Nat → Nat} (h : Rw W g N F) (o : Obj) : Rw (W.alloc o) g N F := h.of_block (Below.heap_alloc W o g h.lt)
theorem rw_below {W W' : World} {g N : Nat} {F : Nat → Nat} (h : Rw W g N F) (hb : Below W.heap.size W W') : Rw W' g N F := h.of_block (hb.block g h.lt)
theorem below_drewN {B : Nat} {W W' : World} (h : Below B W W') (m : Nat) : Below B W (W'.drewN m) := ⟨h.os, h.tape, h.output, h.size, h.block⟩

def Reads (w : World) (g N n : Nat) (x : Option Addr) (rd : (Nat → Nat) → Nat → Nat) : Prop := ∃ h q, x = some ⟨h, q, none⟩ ∧ ∀ w' F, Only g w w' → Rw w' g N F → ∀ i, i < n → rd F i < 256 ∧ w'.cell? ⟨h, q + i, none⟩ = some (.int .u8 (rd F i : Nat))
def goes (f : Nat → Nat → Nat) (o : Nat) (rd : (Nat → Nat) → Nat → Nat) (F : Nat → Nat) : Nat → Nat → Nat
  | 0, i => F i
  | k + 1, i => if i = o + k then f (goes f o rd F k (o + k)) (rd (goes f o rd F k) k) else goes f o rd F k i
theorem goes_out (f : Nat → Nat → Nat) (o : Nat) (rd : (Nat → Nat) → Nat → Nat) (F : Nat → Nat) : ∀ k i, (i < o ∨ o + k ≤ i) → goes f o rd F k i = F i
  | 0, i, _ => rfl
  | k + 1, i, h => by
    unfold goes
    rw [if_neg (by omega)]
    exact goes_out f o rd F k i (by omega)
theorem goes_far (f : Nat → Nat → Nat) (o : Nat) (S F : Nat → Nat) : ∀ k i, goes f o (fun _ => S) F k i = pl F o k (fun j => f (F (o + j)) (S j)) i
  | 0, i => (pl_out (by omega)).symm
  | k + 1, i => by
    unfold goes
    by_cases e : i = o + k
    · rw [if_pos e, e, pl_in (Nat.lt_succ_self _), goes_out f o _ F k (o + k) (by omega)]
    · rw [if_neg e, goes_far f o S F k i]
      unfold pl
      by_cases e2 : o ≤ i ∧ i < o + k
      · rw [if_pos e2, if_pos (by omega)]
      · rw [if_neg e2, if_neg (by omega)]
theorem Reads.row {w : World} {g N n q : Nat} {x : Option Addr} (e : x = some ⟨g, q, none⟩) (hq : q + n ≤ N) : Reads w g N n x (fun F i => F (q + i)) :=
  ⟨g, q, e, fun w' F ho hr i hi => ⟨hr.2.1 _ (by omega), hr.2.2.cell (i := q + i) (by omega)⟩⟩
end Go.Proofs.YtefolifecbhgoaaGreat
namespace Go.Proofs.YtefolifecbhgoaaGreat
open Go.RowKit Gf2
set_option linter.unusedVariables false

def Ker (w : World) (p : Addr) (lo hi : Nat) : Prop := p = ⟨lo, 0, none⟩ ∧ lo < hi ∧ hi ≤ w.heap.size ∧ ∃ A, w.heap[lo]? = some (.cells A 155 (0, 0)) ∧ A.size = 65536 ∧ ∀ a b, a < 256 → b < 256 → A[a * 256 + b]? = some (.int .u8 (fm 285 a b : Nat))
theorem Ker.hi {w : World} {p : Addr} {lo hi : Nat} (h : Ker w p lo hi) : hi ≤ w.heap.size := h.2.2.1
theorem Ker.lo {w : World} {p : Addr} {lo hi : Nat} (h : Ker w p lo hi) : lo < hi := h.2.1
theorem Ker.keep {w w' : World} {p : Addr} {lo hi : Nat} (h : Ker w p lo hi) (hs : hi ≤ w'.heap.size) (hb : ∀ b, lo ≤ b → b < hi → w'.heap[b]? = w.heap[b]?) : Ker w' p lo hi := by
  obtain ⟨h1, h2, h3, A, h4, h5⟩ := h
  exact ⟨h1, h2, hs, A, (hb lo (Nat.le_refl _) h2).trans h4, h5⟩
theorem Ker.drewN {w : World} {p : Addr} {lo hi : Nat} (h : Ker w p lo hi) (m : Nat) : Ker (w.drewN m) p lo hi := h

end Go.Proofs.YtefolifecbhgoaaGreat
namespace Go.Proofs.YtefolifecbhgoaaGreat
open Go.RowKit Gf2
set_option linter.unusedVariables false

set_option maxHeartbeats 4000000 in
set_option maxRecDepth 100000 in
theorem kadd_gen (p : Addr) (lo hi c n g o N : Nat) (F : Nat → Nat) (rd : (Nat → Nat) → Nat → Nat) (a x : Option Addr) (ca cx : Nat) (w : World) (hk : Ker w p lo hi) (hc : c < 256) (hn : n ≤ big) (hg : g < lo ∨ hi ≤ g)
    (hR : Rw w g N F) (hd : 0 < n → a = some ⟨g, o, none⟩ ∧ o + n ≤ N) (hx : 0 < n → Reads w g N n x rd) :
    Calls Tryz.prog 185 #[.pointer (some p), .int .u8 (c : Int), .slice a n ca, .slice x n cx] w fun e w' => e = .returned (.int .i64 0) ∧ Only g w w' ∧ Rw w' g N (goes (fun d s => d ^^^ fm 285 c s) o rd F n) := by
  obtain ⟨rfl, hlo, hhi, A, hA, hAs, hT⟩ := hk
  by_cases h0 : 0 < n
  · obtain ⟨rfl, hoN⟩ := hd h0
    obtain ⟨h, q, rfl, hrd⟩ := hx h0
    have c1 : Hid (∀ w' G, Only g w w' → Rw w' g N G → ∀ i, i < n → rd G i < 256 ∧ w'.cell? ⟨h, q + i, none⟩ = some (.int .u8 (rd G i : Nat))) := hrd
    have cell : ∀ w', Only g w w' → ∀ s, s < 256 → w'.cell? ⟨lo, c * 256 + s, none⟩ = some (.int .u8 (fm 285 c s : Nat)) := by
      intro w' ho s hs
      rw [cell_of_row w' lo (c * 256 + s) A _ _ ((ho.2.2 lo (by omega)).trans hA)]
      exact hT c s hc hs
    have HC : Hid (∀ w', Only g w w' → ∀ s, s < 256 → w'.cell? ⟨lo, c * 256 + s, none⟩ = some (.int .u8 (fm 285 c s : Nat))) := cell
    clear hrd cell hT
    go_enter Tryz.func185, Tryz.ntmps185
    go_wp2
    go_loopw [27] (fun i wr => ∃ k : Nat, k ≤ n ∧ i = .int .i64 k ∧ Only g w wr ∧ Rw wr g N (goes (fun d s => d ^^^ fm 285 c s) o rd F k)) (fun i _ => n - (intOf i).toNat)
    case atStart => exact ⟨0, Nat.zero_le _, rfl, Only.refl _ _, hR⟩
    case round =>
      obtain ⟨k, hk, rfl, ho, hr⟩ := hrel
      by_cases hlt : k < n
      · obtain ⟨G, hG⟩ : ∃ G, G = goes (fun d s => d ^^^ fm 285 c s) o rd F k := ⟨_, rfl⟩
        rw [← hG] at hr
        obtain ⟨ls, qs⟩ := c1.out wr G ho hr k hlt
        obtain ⟨s, hs⟩ : ∃ s, s = rd G k := ⟨_, rfl⟩
        rw [← hs] at ls qs
        have qt := HC.out wr ho s ls
        have q1 := hr.2.2.cell (i := o + k) (by omega)
        have q2 := hr.2.2.frozen (o + k)
        have lf : G (o + k) ^^^ fm 285 c s < 256 := Nat.xor_lt_two_pow (n := 8) (hr.2.1 _ (by omega)) (fm8_lt _ _)
        have new : Rw (wr.setCell ⟨g, o + k, none⟩ (.int .u8 (G (o + k) ^^^ fm 285 c s : Nat))) g N (goes (fun d s => d ^^^ fm 285 c s) o rd F (k + 1)) := by
          refine ⟨hr.1, fun i hi => ?_, (hr.2.2.set (o + k) _).congr (fun i hi => ?_)⟩
          · unfold goes
            rw [← hG, ← hs]
            split
            · exact lf
            · exact hr.2.1 i hi
          · unfold goes
            rw [← hG, ← hs]
            by_cases e : i = o + k
            · rw [if_pos e, if_pos e]
            · rw [if_neg e, if_neg e]
        have HP : Hid (Only g w (wr.setCell ⟨g, o + k, none⟩ (.int .u8 (G (o + k) ^^^ fm 285 c s : Nat))) ∧ Rw (wr.setCell ⟨g, o + k, none⟩ (.int .u8 (G (o + k) ^^^ fm 285 c s : Nat))) g N (goes (fun d s => d ^^^ fm 285 c s) o rd F (k + 1))) := ⟨ho.setCell _ _, new⟩
        have X := u8_xor_nat (G (o + k)) (fm 285 c s) (hr.2.1 _ (by omega)) (fm8_lt _ _)
        have ib : ((k : Nat) : Int) < (n : Int) := by omega
        have is_ : ((s : Nat) : Int) < 256 := by omega
        have W1 := wrap_succ8 (j := k) (by omega)
        clear new hr ho hG hs hR hd hx hn lf
        go_wp2
        refine region_tail8 10 (by kernel_rfl) (by kernel_rfl) ?_
        simp only [List.take_succ_cons, List.take_zero, List.drop_succ_cons, List.drop_zero]
        repeat still_step
        refine wpStill_nil ?_
        go_wp2
        go_roundw
        case rel => exact ⟨k + 1, hlt, by first | rfl | (rw [W1]; rfl), HP.out.1.drew, HP.out.2.1, HP.out.2.2.1, HP.out.2.2.2.drew⟩
        case measure => first | exact meas_lt8 hlt | (rw [W1]; exact meas_lt8 hlt)
      · have hkn : k = n := by omega
        subst hkn
        clear hx hd
        go_wp2
        go_ret
        exact ⟨rfl, ho, hr⟩
  · have hn0 : n = 0 := by omega
    subst hn0
    go_enter Tryz.func185, Tryz.ntmps185
    go_wp2
    refine wp_loop_rounds 1 ?_
    rw [rounds_succ]
    go_wp2
    go_ret
    exact ⟨rfl, Only.refl _ _, hR⟩
end Go.Proofs.YtefolifecbhgoaaGreat
