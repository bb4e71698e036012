import Derived.Test.YtaoapplbcgflmaaGreatMlal
import Derived.Test.YtaoapplbcgflmaaGreatMlaf
import Derived.Laws.Tables
import Derived.StillTail
import Derived.StillTailTactics
import Derived.Test.YtaoapplbcgflmaaGreatMlae
namespace Go.Proofs.YtaoapplbcgflmaaGreat
open Go.RowKit Gf2
set_option linter.unusedVariables false

/-- a row of sixteen products, the first k of them laid: at i that of c and m * i. -/
def halfRow (c m k : Nat) : Array Value := ((List.range 16).map fun j => Value.int .u8 (if j < k then ((fm 285 c (j * m) : Nat) : Int) else 0)).toArray
theorem halfRow_size (c m k : Nat) : (halfRow c m k).size = 16 := by simp [halfRow]
theorem halfRow_get (c m k j : Nat) (h : j < 16) : (halfRow c m k)[j]? = some (Value.int .u8 (if j < k then ((fm 285 c (j * m) : Nat) : Int) else 0)) := by
  simp [halfRow, h]
theorem halfRow_zero (c m : Nat) : halfRow c m 0 = (List.replicate 16 (Value.int .u8 0)).toArray := by
  apply Array.ext_getElem?
  intro j
  by_cases h : j < 16
  · rw [halfRow_get _ _ _ _ h, List.getElem?_toArray, List.getElem?_replicate, if_pos h]; simp
  · rw [Array.getElem?_eq_none (by rw [halfRow_size]; omega), Array.getElem?_eq_none (by simp; omega)]
theorem halfRow_set (c m k : Nat) (h : k < 16) : (halfRow c m k).setIfInBounds k (Value.int .u8 ((fm 285 c (k * m) : Nat) : Int)) = halfRow c m (k + 1) := by
  apply Array.ext_getElem?
  intro j
  by_cases hj : j < 16
  · rw [halfRow_get _ _ _ _ hj, Array.getElem?_setIfInBounds]
    by_cases e : k = j
    · subst e
      rw [if_pos rfl, if_pos (by rw [halfRow_size]; exact h), if_pos (by omega)]
    · rw [if_neg e, halfRow_get _ _ _ _ hj]
      by_cases h1 : j < k
      · rw [if_pos h1, if_pos (by omega)]
      · rw [if_neg h1, if_neg (by omega)]
  · rw [Array.getElem?_eq_none (by simp [halfRow_size]; omega), Array.getElem?_eq_none (by rw [halfRow_size]; omega)]
theorem halfRow_all (c m k : Nat) : (halfRow c m k).all (·.oneCell') = true := by
  rw [Array.all_eq_true_iff_forall_mem]
  intro v hv
  simp [halfRow] at hv
  obtain ⟨j, -, rfl⟩ := hv
  rfl
/-- the first place is always nought: so one product is laid from the start. -/
theorem halfRow_one (c m : Nat) : halfRow c m 0 = halfRow c m 1 := by
  apply Array.ext_getElem?
  intro j
  by_cases h : j < 16
  · rw [halfRow_get _ _ _ _ h, halfRow_get _ _ _ _ h]
    by_cases e : j < 1
    · obtain rfl : j = 0 := by omega
      rw [if_neg (by omega), if_pos e, Nat.zero_mul, fld8.fm_zero]
      rfl
    · rw [if_neg (by omega), if_neg e]
  · rw [Array.getElem?_eq_none (by rw [halfRow_size]; omega), Array.getElem?_eq_none (by rw [halfRow_size]; omega)]
def pow2 (b : Nat) : Prop := b = 1 ∨ b = 2 ∨ b = 4 ∨ b = 8
theorem half_sum {b r m : Nat} (hb : pow2 b) (hm : m = 1 ∨ m = 16) (hr : r < b) : (b + r) * m = (b * m) ^^^ (r * m) := by
  have key : ∀ b ∈ [1, 2, 4, 8], ∀ m ∈ [1, 16], ∀ r, r < 8 → r < b → (b + r) * m = (b * m) ^^^ (r * m) := by decide
  refine key b ?_ m ?_ r ?_ hr
  · unfold pow2 at hb; simp; omega
  · simp; omega
  · unfold pow2 at hb; omega
theorem half_step {c b r m : Nat} (hb : pow2 b) (hm : m = 1 ∨ m = 16) (hr : r < b) : fm 285 c (b * m) ^^^ fm 285 c (r * m) = fm 285 c ((b + r) * m) := by
  rw [half_sum hb hm hr, fld8.fm_xor]
end Go.Proofs.YtaoapplbcgflmaaGreat
namespace Go.Proofs.YtaoapplbcgflmaaGreat
open Go.RowKit Gf2
set_option linter.unusedVariables false

theorem info_half : (Tryz.prog.info? 251).map (·.size) = some 16 := by kernel_rfl

set_option maxHeartbeats 2000000 in
set_option maxRecDepth 100000 in
theorem multiples_nat (c m : Nat) (w : World) (hc : c < 256) (hm : m = 1 ∨ m = 16) :
    Calls Tryz.prog 196 #[.int .u8 (c : Int), .int .u8 (m : Int)] w fun e w' => e = .returned (.agg (halfRow c m 16)) ∧ Below w.heap.size w w' := by
  go_enter Tryz.func196, Tryz.ntmps196
  go_wp2
  go_loopw [6] (fun i wr => ∃ b : Nat, (pow2 b ∨ b = 16) ∧ i = .int .i64 b ∧ wr.heap.size = w.heap.size + 2 ∧
      wr.heap[w.heap.size]? = some (.cells (halfRow c m 0) 251 (0, 0)) ∧ wr.heap[w.heap.size + 1]? = some (.cells (halfRow c m b) 251 (0, 0)) ∧ Below w.heap.size w wr) (fun i _ => 16 - (intOf i).toNat)
  case atStart =>
    refine ⟨1, Or.inl (Or.inl rfl), rfl, by simp, ?_, ?_, ((Below.refl _ _).alloc (Nat.le_refl _) _).alloc (by simp) _⟩
    · rw [heap_alloc2_old, halfRow_zero]; rfl
    · rw [heap_alloc2_new, ← halfRow_one, halfRow_zero]; rfl
  case round =>
    obtain ⟨b, hb, rfl, hsz, h0, h1, hB⟩ := hrel
    by_cases hlt : b < 16
    · have hp : pow2 b := by rcases hb with h | h; exact h; omega
      have hbm : b * m < 256 := by unfold pow2 at hp; rcases hm with rfl | rfl <;> omega
      have m1 : IntKind.u8.wrap ((b : Nat) : Int) = (b : Int) := by rw [IntKind.wrap_u8]; omega
      have m2 : IntKind.u8.wrap ((b : Int) * (m : Int)) = (b : Int) * (m : Int) := by
        rw [IntKind.wrap_u8, show (b : Int) * (m : Int) = ((b * m : Nat) : Int) from (Int.natCast_mul _ _).symm]; omega
      have c1 : ∀ W, Calls Tryz.prog 153 #[.int .u8 (c : Int), .int .u8 ((b : Int) * (m : Int))] W fun e w' => e = .returned (.int .u8 (fm 285 c (b * m) : Nat)) ∧ w' = W := fun W => by
        have h := gmul_nat c (b * m) W hc hbm
        rw [Int.natCast_mul] at h
        exact h
      have ib : ((b : Nat) : Int) < 16 := by omega
      obtain ⟨P, hP⟩ : ∃ P, P = fm 285 c (b * m) := ⟨_, rfl⟩
      have HP : Hid (P = fm 285 c (b * m)) := hP
      have lP : P < 256 := by rw [hP]; exact fm8_lt _ _
      rw [← hP] at c1
      have HV : Hid (wr.heap.size = w.heap.size + 2 ∧ wr.heap[w.heap.size]? = some (.cells (halfRow c m 0) 251 (0, 0)) ∧ wr.heap[w.heap.size + 1]? = some (.cells (halfRow c m b) 251 (0, 0)) ∧ Below w.heap.size w wr ∧ pow2 b) := ⟨hsz, h0, h1, hB, hp⟩
      clear hsz h0 h1 hB hb hP hp
      go_wp2_with (go_at_call 153; ((with_reducible refine (c1 _).mono ?_); (rintro e w9 ⟨rfl, hw9⟩; have hw9 := hw9.symm; subst hw9)))
      go_loopw [20] (fun i wq => ∃ r : Nat, r ≤ b ∧ i = .int .i64 r ∧ wq.heap.size = w.heap.size + 2 ∧
        wq.heap[w.heap.size]? = some (.cells (halfRow c m 0) 251 (0, 0)) ∧ wq.heap[w.heap.size + 1]? = some (.cells (halfRow c m (b + r)) 251 (0, 0)) ∧ Below w.heap.size w wq) (fun i _ => 16 - (intOf i).toNat)
      case atStart => exact ⟨0, Nat.zero_le _, rfl, HV.out.1, HV.out.2.1, HV.out.2.2.1, HV.out.2.2.2.1⟩
      case round =>
        obtain ⟨r, hr, rfl, hsz, h0, h1, hB⟩ := hrel
        by_cases hrb : r < b
        · have hp := HV.out.2.2.2.2
          have hbr : b + r < 16 := by unfold pow2 at hp; omega
          have q1 := cell_of_row wr (w.heap.size + 1) r _ 251 (0, 0) h1
          have q2 := cell_of_row wr (w.heap.size + 1) (b + r) _ 251 (0, 0) h1
          rw [halfRow_get _ _ _ _ (by omega), if_pos (by omega)] at q1
          rw [halfRow_get _ _ _ _ hbr, if_neg (by omega)] at q2
          have z1 := frozen_of_row wr (w.heap.size + 1) (b + r) _ 251 h1
          have X := u8_xor_nat P (fm 285 c (r * m)) lP (fm8_lt _ _)
          rw [HP.out, half_step hp hm hrb, ← HP.out] at X
          obtain ⟨R, hR⟩ : ∃ R, R = fm 285 c (r * m) := ⟨_, rfl⟩
          rw [← hR] at q1 X
          obtain ⟨T, hT⟩ : ∃ T, T = fm 285 c ((b + r) * m) := ⟨_, rfl⟩
          rw [← hT] at X
          have new : (wr.setCell ⟨w.heap.size + 1, b + r, none⟩ (.int .u8 (T : Nat))).heap[w.heap.size + 1]? = some (.cells (halfRow c m (b + (r + 1))) 251 (0, 0)) := by
            rw [heap_setCell_same _ _ _ _ _ _ h1, hT, halfRow_set c m (b + r) hbr, Nat.add_assoc]
          have old : (wr.setCell ⟨w.heap.size + 1, b + r, none⟩ (.int .u8 (T : Nat))).heap[w.heap.size]? = some (.cells (halfRow c m 0) 251 (0, 0)) := by
            rw [heap_setCell_other _ _ _ _ (by simp)]; exact h0
          have HN : Hid ((wr.setCell ⟨w.heap.size + 1, b + r, none⟩ (.int .u8 (T : Nat))).heap.size = w.heap.size + 2 ∧ (wr.setCell ⟨w.heap.size + 1, b + r, none⟩ (.int .u8 (T : Nat))).heap[w.heap.size]? = some (.cells (halfRow c m 0) 251 (0, 0)) ∧ (wr.setCell ⟨w.heap.size + 1, b + r, none⟩ (.int .u8 (T : Nat))).heap[w.heap.size + 1]? = some (.cells (halfRow c m (b + (r + 1))) 251 (0, 0)) ∧ Below w.heap.size w (wr.setCell ⟨w.heap.size + 1, b + r, none⟩ (.int .u8 (T : Nat)))) := ⟨by simp [hsz], old, new, hB.setCell (by simp) _⟩
          have i1 : ((r : Nat) : Int) < 16 := by omega
          have i2 : ((r : Nat) : Int) < (b : Int) := by omega
          have i3 : (b : Int) + (r : Int) < 16 := by omega
          clear new old h0 h1 hB hsz hR hT hp
          go_wp2
          go_roundw
          case rel => exact ⟨r + 1, hrb, by go_num, HN.out.1, HN.out.2.1, HN.out.2.2.1, HN.out.2.2.2⟩
          case measure => simp [intOf]; omega
        · obtain rfl : r = b := by omega
          have hp := HV.out.2.2.2.2
          have h1' : wr.heap[w.heap.size + 1]? = some (.cells (halfRow c m (2 * r)) 251 (0, 0)) := by rw [Nat.two_mul]; exact h1
          have HN : Hid (wr.heap.size = w.heap.size + 2 ∧ wr.heap[w.heap.size]? = some (.cells (halfRow c m 0) 251 (0, 0)) ∧ wr.heap[w.heap.size + 1]? = some (.cells (halfRow c m (2 * r)) 251 (0, 0)) ∧ Below w.heap.size w wr ∧ (pow2 (2 * r) ∨ 2 * r = 16)) := ⟨hsz, h0, h1', hB, by unfold pow2 at *; omega⟩
          clear h0 h1 h1' hB hsz hp
          go_wp2
          go_roundw
          case rel => exact ⟨2 * r, HN.out.2.2.2.2, by go_num, HN.out.1, HN.out.2.1, HN.out.2.2.1, HN.out.2.2.2.1⟩
          case measure =>
            have := HV.out.2.2.2.2
            unfold pow2 at this
            simp [intOf]; omega
    · have hb6 : b = 16 := by unfold pow2 at hb; omega
      subst hb6
      have i53 : (Tryz.prog.info? 251).map (·.size) = some (halfRow c m 16).size := by rw [halfRow_size]; exact info_half
      have o53 : (halfRow c m 0).size = (halfRow c m 16).size := by rw [halfRow_size, halfRow_size]
      go_wp2_with (first | (refine wpList_load_row rfl 251 _ rfl (w.heap.size + 1) rfl 251 _ (0, 0) _ h1 Tryz.underlying251 rfl i53 ?_) | (refine wpList_store_row rfl 251 _ _ rfl w.heap.size (halfRow c m 16) rfl rfl 251 _ h0 i53 o53 (halfRow_all c m 16) ?_))
      refine bodyPost_ret (v := .agg (halfRow c m 16)) ?_ rfl ⟨rfl, ?_⟩
      · exact results_cell_row (P := Tryz.prog) (fn := Tryz.f196) rfl _ _ w.heap.size 251 (halfRow c m 16) (0, 0) _ rfl (setRow_heap _ _ _ _ _ _ h0) Tryz.underlying251 rfl i53
      · exact below_setRow hB (Nat.le_refl _) _
end Go.Proofs.YtaoapplbcgflmaaGreat
namespace Go.Proofs.YtaoapplbcgflmaaGreat
open Go.RowKit Gf2
set_option linter.unusedVariables false

theorem results_two_rows {P : Program} {fn : Func} {p q : Tmp} {ty : TypeId} (h : fn.results = #[.cell p ty, .cell q ty]) (tmps : Array Value) (w : World) (g g' : Nat) (t t' : TypeId) (cs ds : Array Value) (fr fr' : Nat × Nat) (d : TypeDesc)
    (hp : tmps.getD p undef = .pointer (some ⟨g, 0, none⟩)) (hq : tmps.getD q undef = .pointer (some ⟨g', 0, none⟩)) (hg : w.heap[g]? = some (.cells cs t fr)) (hg' : w.heap[g']? = some (.cells ds t' fr'))
    (hu : P.underlying ty = some d) (hd : (match d with | .struct _ | .array _ _ => true | _ => false) = true) (hi : (P.info? ty).map (·.size) = some cs.size) (hi' : (P.info? ty).map (·.size) = some ds.size) :
    (results fn tmps).run P w = .ok (.tuple #[.agg cs, .agg ds]) w := by
  have hp' : tmps[p]?.getD undef = .pointer (some ⟨g, 0, none⟩) := by simpa using hp
  have hq' : tmps[q]?.getD undef = .pointer (some ⟨g', 0, none⟩) := by simpa using hq
  simp [results, h, hp', hq', asAddr, run_loadVar_row w g t ty cs fr d hg hu hd hi, run_loadVar_row w g' t' ty ds fr' d hg' hu hd hi']

theorem two_blocks {w w1 w2 : World} {A B : Obj} (hb1 : Below ((w.alloc A).alloc B).heap.size ((w.alloc A).alloc B) w1) (hb2 : Below w1.heap.size w1 w2) :
    w2.heap[w.heap.size]? = some A ∧ w2.heap[w.heap.size + 1]? = some B ∧ Below w.heap.size w w2 := by
  have hs : ((w.alloc A).alloc B).heap.size = w.heap.size + 2 := by simp
  have h1 := hb1.size
  refine ⟨?_, ?_, ?_⟩
  · rw [hb2.block _ (by omega), hb1.block _ (by omega), heap_alloc2_old]
  · rw [hb2.block _ (by omega), hb1.block _ (by omega), heap_alloc2_new]
  · exact ((((Below.refl _ _).alloc (Nat.le_refl _) _).alloc (by simp) _).trans (hb1.mono (by omega))).trans (hb2.mono (by omega))

set_option maxHeartbeats 2000000 in
set_option maxRecDepth 100000 in
theorem nhalf_nat (c : Nat) (w : World) (hc : c < 256) :
    Calls Tryz.prog 195 #[.int .u8 (c : Int)] w fun e w' => e = .returned (.tuple #[.agg (halfRow c 1 16), .agg (halfRow c 16 16)]) ∧ Below w.heap.size w w' := by
  have c1 : ∀ W, Calls Tryz.prog 196 #[.int .u8 (c : Int), .int .u8 1] W fun e w' => e = .returned (.agg (halfRow c 1 16)) ∧ Below W.heap.size W w' := fun W => multiples_nat c 1 W hc (Or.inl rfl)
  have c2 : ∀ W, Calls Tryz.prog 196 #[.int .u8 (c : Int), .int .u8 16] W fun e w' => e = .returned (.agg (halfRow c 16 16)) ∧ Below W.heap.size W w' := fun W => multiples_nat c 16 W hc (Or.inr rfl)
  obtain ⟨Z, hZ⟩ : ∃ Z, Z = halfRow 0 1 0 := ⟨_, rfl⟩
  obtain ⟨L, hL⟩ : ∃ L, L = halfRow c 1 16 := ⟨_, rfl⟩
  obtain ⟨H, hH⟩ : ∃ H, H = halfRow c 16 16 := ⟨_, rfl⟩
  have sZ : Z.size = 16 := by rw [hZ, halfRow_size]
  have sL : L.size = 16 := by rw [hL, halfRow_size]
  have sH : H.size = 16 := by rw [hH, halfRow_size]
  have aL : L.all (·.oneCell') = true := by rw [hL]; exact halfRow_all _ _ _
  have aH : H.all (·.oneCell') = true := by rw [hH]; exact halfRow_all _ _ _
  have iL : (Tryz.prog.info? 251).map (·.size) = some L.size := by rw [sL]; exact info_half
  have iH : (Tryz.prog.info? 251).map (·.size) = some H.size := by rw [sH]; exact info_half
  have oL : Z.size = L.size := by rw [sZ, sL]
  have oH : Z.size = H.size := by rw [sZ, sH]
  have eZ : (List.replicate 16 (Value.int .u8 0)).toArray = Z := by rw [hZ, halfRow_zero]
  rw [← hL, ← hH]
  rw [← hL] at c1
  rw [← hH] at c2
  clear hL hH hZ sZ sL sH
  go_enter Tryz.func195, Tryz.ntmps195
  go_wp2_with (first | (go_at_call 196; first | ((with_reducible refine (c1 _).mono ?_); rintro e w1 ⟨rfl, hb1⟩) | ((with_reducible refine (c2 _).mono ?_); rintro e w2 ⟨rfl, hb2⟩; obtain ⟨g1, g2, g3⟩ := two_blocks hb1 hb2; have k1 : w2.heap[w.heap.size]? = some (.cells Z 251 (0, 0)) := (by rw [← eZ]; exact g1); have k2 : w2.heap[w.heap.size + 1]? = some (.cells Z 251 (0, 0)) := (by rw [← eZ]; exact g2); clear hb1 hb2 g1 g2)) | (refine wpList_store_row rfl 251 _ _ rfl w.heap.size L rfl rfl 251 Z k1 iL oL aL ?_) | (refine wpList_store_row rfl 251 _ _ rfl (w.heap.size + 1) H rfl rfl 251 Z ((setRow_other _ _ _ _ (Nat.succ_ne_self _)).trans k2) iH oH aH ?_))
  have k2' := (setRow_other w2 w.heap.size (w.heap.size + 1) L (Nat.succ_ne_self _)).trans k2
  refine bodyPost_ret (v := .tuple #[.agg L, .agg H]) ?_ rfl ⟨rfl, ?_⟩
  · exact results_two_rows (P := Tryz.prog) (fn := Tryz.f195) rfl _ _ w.heap.size (w.heap.size + 1) 251 251 L H (0, 0) (0, 0) _ rfl rfl ((setRow_other _ _ _ _ (Nat.succ_ne_self _).symm).trans (setRow_heap _ _ _ _ _ _ k1)) (setRow_heap _ _ _ _ _ _ k2') Tryz.underlying251 rfl iL iH
  · exact below_setRow (below_setRow g3 (Nat.le_refl _) _) (by simp) _
end Go.Proofs.YtaoapplbcgflmaaGreat
namespace Go.Proofs.YtaoapplbcgflmaaGreat
open Go.RowKit Gf2
set_option linter.unusedVariables false

/-- a kernel at p, in the blocks from lo to hi: it has no fields. -/
def Nk (w : World) (p : Addr) (lo hi : Nat) : Prop := lo ≤ hi ∧ hi ≤ w.heap.size
theorem Nk.hi {w : World} {p : Addr} {lo hi : Nat} (h : Nk w p lo hi) : hi ≤ w.heap.size := h.2
theorem Nk.keep {w w' : World} {p : Addr} {lo hi : Nat} (h : Nk w p lo hi) (hs : hi ≤ w'.heap.size) (hb : ∀ b, lo ≤ b → b < hi → w'.heap[b]? = w.heap[b]?) : Nk w' p lo hi := ⟨h.1, hs⟩

set_option maxHeartbeats 2000000 in
theorem unfit_ok (p : Addr) (n : Nat) (a x : Option Addr) (ca cx : Nat) (w : World) :
    Calls Tryz.prog 194 #[.pointer (some p), .slice a n ca, .slice x n cx] w fun e w' => e = .returned (.int .i64 0) ∧ w' = w := by
  go_enter Tryz.func194, Tryz.ntmps194
  go_wp2
  go_ret
  exact ⟨rfl, rfl⟩
set_option maxHeartbeats 2000000 in
theorem nnew_any (w : World) :
    Calls Tryz.prog 76 #[] w fun e w' => ∃ p, e = .returned (.pointer (some p)) ∧ Nk w' p w.heap.size w'.heap.size ∧ Below w.heap.size w w' := by
  go_enter Tryz.func76, Tryz.ntmps76
  go_wp2
  go_ret
  refine ⟨_, rfl, ⟨?_, Nat.le_refl _⟩, ?_⟩
  · simp
  · exact (Below.refl _ _).alloc (Nat.le_refl _) _
end Go.Proofs.YtaoapplbcgflmaaGreat
namespace Go.Proofs.YtaoapplbcgflmaaGreat
open Go.RowKit Gf2
set_option linter.unusedVariables false

theorem half_split (c s : Nat) (hs : s < 256) : fm 285 c (s % 16 * 1) ^^^ fm 285 c (s / 16 * 16) = fm 285 c s := by
  have key : ∀ s, s < 256 → (s % 16 * 1) ^^^ (s / 16 * 16) = s := by decide +kernel
  rw [← fld8.fm_xor, key s hs]
theorem half_and (s : Nat) (hs : s < 256) : bits .and .u8 (s : Int) 15 = ((s % 16 : Nat) : Int) := by
  have h := u8_and_nat s 15 hs (by decide)
  have e : s &&& 15 = s % 16 := Nat.and_two_pow_sub_one_eq_mod s 4
  rw [e] at h
  exact h
/-- what the two lists at b and b + 1 of a world hold. -/
def Two (c b : Nat) (w : World) : Prop := w.heap[b]? = some (.cells (halfRow c 1 16) 251 (0, 0)) ∧ w.heap[b + 1]? = some (.cells (halfRow c 16 16) 251 (0, 0))
theorem Two.lo {c b : Nat} {w : World} (h : Two c b w) {j : Nat} (hj : j < 16) : w.cell? ⟨b, j, none⟩ = some (.int .u8 (fm 285 c (j * 1) : Nat)) := by
  rw [cell_of_row w b j _ _ _ h.1, halfRow_get _ _ _ _ hj, if_pos hj]
theorem Two.up {c b : Nat} {w : World} (h : Two c b w) {j : Nat} (hj : j < 16) : w.cell? ⟨b + 1, j, none⟩ = some (.int .u8 (fm 285 c (j * 16) : Nat)) := by
  rw [cell_of_row w (b + 1) j _ _ _ h.2, halfRow_get _ _ _ _ hj, if_pos hj]
theorem Two.keep {c b g : Nat} {w w' : World} (h : Two c b w) (hk : Kp g w w') (hg : g < b) : Two c b w' := by
  have l1 := (Array.getElem?_eq_some_iff.1 h.1).1
  have l2 := (Array.getElem?_eq_some_iff.1 h.2).1
  exact ⟨(hk.2 b l1 (by omega)).trans h.1, (hk.2 (b + 1) l2 (by omega)).trans h.2⟩
theorem Two.drew {c b : Nat} {w : World} (h : Two c b w) : Two c b w.drew := h
/-- the world behind halves and the two stores. -/
theorem two_laid {c g N : Nat} {F : Nat → Nat} {w w1 : World} {A B : Array Value} (hb : Below w.heap.size w w1) (hR : Rw w g N F) :
    Two c w1.heap.size (((((w1.alloc (.cells A 251)).alloc (.cells B 251)).setRow w1.heap.size (halfRow c 1 16))).setRow (w1.heap.size + 1) (halfRow c 16 16)) ∧
    Kp g w (((((w1.alloc (.cells A 251)).alloc (.cells B 251)).setRow w1.heap.size (halfRow c 1 16))).setRow (w1.heap.size + 1) (halfRow c 16 16)) ∧
    Rw (((((w1.alloc (.cells A 251)).alloc (.cells B 251)).setRow w1.heap.size (halfRow c 1 16))).setRow (w1.heap.size + 1) (halfRow c 16 16)) g N F := by
  have h1 := heap_alloc2_old w1 (.cells A 251) (.cells B 251)
  have h2 := heap_alloc2_new w1 (.cells A 251) (.cells B 251)
  have b : Below w.heap.size w (((((w1.alloc (.cells A 251)).alloc (.cells B 251)).setRow w1.heap.size (halfRow c 1 16))).setRow (w1.heap.size + 1) (halfRow c 16 16)) :=
    below_setRow (below_setRow ((hb.alloc hb.size _).alloc (by have := hb.size; simp; omega) _) hb.size _) (by have := hb.size; omega) _
  refine ⟨⟨?_, ?_⟩, kp_below b g, rw_below hR b⟩
  · rw [setRow_other _ _ _ _ (Nat.succ_ne_self _).symm]
    exact setRow_heap _ _ _ _ _ _ h1
  · exact setRow_heap _ _ _ _ _ _ ((setRow_other _ _ _ _ (Nat.succ_ne_self _)).trans h2)

end Go.Proofs.YtaoapplbcgflmaaGreat
namespace Go.Proofs.YtaoapplbcgflmaaGreat
open Go.RowKit Gf2
set_option linter.unusedVariables false

set_option maxHeartbeats 4000000 in
set_option maxRecDepth 100000 in
theorem nadd_gen (p : Addr) (lo hi c n g o N : Nat) (F : Nat → Nat) (rd : (Nat → Nat) → Nat → Nat) (a x : Option Addr) (ca cx : Nat) (w : World) (hk : Nk w p lo hi) (hc : c < 256) (hn : n ≤ big) (hg : g < lo ∨ hi ≤ g)
    (hR : Rw w g N F) (hd : 0 < n → a = some ⟨g, o, none⟩ ∧ o + n ≤ N) (hx : 0 < n → Rdk w g N n x rd) :
    Calls Tryz.prog 193 #[.pointer (some p), .int .u8 (c : Int), .slice a n ca, .slice x n cx] w fun e w' => e = .returned (.int .i64 0) ∧ Kp g w w' ∧ Rw w' g N (goes (fun d s => d ^^^ fm 285 c s) o rd F n) := by
  have hgl := hR.lt
  have u1 := fun W => unfit_ok p n a x ca cx W
  have u2 := nhalf_nat c w hc
  have iL : (Tryz.prog.info? 251).map (·.size) = some (halfRow c 1 16).size := by rw [halfRow_size]; exact info_half
  have iH : (Tryz.prog.info? 251).map (·.size) = some (halfRow c 16 16).size := by rw [halfRow_size]; exact info_half
  have aL := halfRow_all c 1 16
  have aH := halfRow_all c 16 16
  have sL : Hid (16 = (halfRow c 1 16).size) := (halfRow_size _ _ _).symm
  have sH : Hid (16 = (halfRow c 16 16).size) := (halfRow_size _ _ _).symm
  have TL : Hid (∀ w1 A B, Below w.heap.size w w1 → Two c w1.heap.size (((((w1.alloc (.cells A 251)).alloc (.cells B 251)).setRow w1.heap.size (halfRow c 1 16))).setRow (w1.heap.size + 1) (halfRow c 16 16)) ∧
    Kp g w (((((w1.alloc (.cells A 251)).alloc (.cells B 251)).setRow w1.heap.size (halfRow c 1 16))).setRow (w1.heap.size + 1) (halfRow c 16 16)) ∧
    Rw (((((w1.alloc (.cells A 251)).alloc (.cells B 251)).setRow w1.heap.size (halfRow c 1 16))).setRow (w1.heap.size + 1) (halfRow c 16 16)) g N F) := fun w1 A B hb => two_laid hb hR
  by_cases h0 : 0 < n
  · obtain ⟨rfl, hoN⟩ := hd h0
    obtain ⟨h, q, rfl, hrd⟩ := hx h0
    have c1 : Hid (∀ w' G, Kp g w w' → Rw w' g N G → ∀ i, i < n → rd G i < 256 ∧ w'.cell? ⟨h, q + i, none⟩ = some (.int .u8 (rd G i : Nat))) := hrd
    obtain ⟨L, hL⟩ : ∃ L, L = halfRow c 1 16 := ⟨_, rfl⟩
    obtain ⟨H, hH⟩ : ∃ H, H = halfRow c 16 16 := ⟨_, rfl⟩
    rw [← hL, ← hH] at u2 TL
    rw [← hL] at iL aL sL
    rw [← hH] at iH aH sH
    have HN : Hid (n ≤ big) := hn
    clear hrd hn hc hL hH hk hg
    go_enter Tryz.func193, Tryz.ntmps193
    go_wp2_with (first | (go_at_call 194; (with_reducible refine (u1 _).mono ?_); rintro e w9 ⟨rfl, hw9⟩; have hw9 := hw9.symm; subst hw9) | (go_at_call 195; (with_reducible refine u2.mono ?_); rintro e w1 ⟨rfl, hb1⟩) | (refine wpList_store_row rfl 251 _ _ rfl w1.heap.size L rfl rfl 251 _ (heap_alloc2_old _ _ _) iL sL.out aL ?_) | (refine wpList_store_row rfl 251 _ _ rfl (w1.heap.size + 1) H rfl rfl 251 _ ((setRow_other _ _ _ _ (Nat.succ_ne_self _)).trans (heap_alloc2_new _ _ _)) iH sH.out aH ?_))
    go_loopw [28] (fun i wr => ∃ k : Nat, k ≤ n ∧ i = .int .i64 k ∧ Kp g w wr ∧ Two c w1.heap.size wr ∧ Rw wr g N (goes (fun d s => d ^^^ fm 285 c s) o rd F k)) (fun i _ => n - (intOf i).toNat)
    case atStart =>
      obtain ⟨t1, t2, t3⟩ := TL.out w1 _ _ hb1
      exact ⟨0, Nat.zero_le _, rfl, t2, t1, t3⟩
    case round =>
      obtain ⟨k, hk, rfl, ho, ht, hr⟩ := hrel
      by_cases hlt : k < n
      · obtain ⟨G, hG⟩ : ∃ G, G = goes (fun d s => d ^^^ fm 285 c s) o rd F k := ⟨_, rfl⟩
        rw [← hG] at hr
        obtain ⟨ls, qs⟩ := c1.out wr G ho hr k hlt
        obtain ⟨s, hs⟩ : ∃ s, s = rd G k := ⟨_, rfl⟩
        rw [← hs] at ls qs
        have ql := ht.lo (j := s % 16) (by omega)
        have qh := ht.up (j := s / 16) (by omega)
        have X := u8_xor_nat (fm 285 c (s % 16 * 1)) (fm 285 c (s / 16 * 16)) (fm8_lt _ _) (fm8_lt _ _)
        rw [half_split c s ls] at X
        obtain ⟨U, hU⟩ : ∃ U, U = fm 285 c (s % 16 * 1) := ⟨_, rfl⟩
        obtain ⟨V, hV⟩ : ∃ V, V = fm 285 c (s / 16 * 16) := ⟨_, rfl⟩
        rw [← hU] at ql X
        rw [← hV] at qh X
        have A1 := half_and s ls
        have A2 : (s : Int) / 16 = ((s / 16 : Nat) : Int) := by omega
        have q1 := hr.2.2.cell (i := o + k) (by omega)
        have q2 := hr.2.2.frozen (o + k)
        have lf : G (o + k) ^^^ fm 285 c s < 256 := Nat.xor_lt_two_pow (n := 8) (hr.2.1 _ (by omega)) (fm8_lt _ _)
        have X2 := u8_xor_nat (G (o + k)) (fm 285 c s) (hr.2.1 _ (by omega)) (fm8_lt _ _)
        have new : Rw (wr.setCell ⟨g, o + k, none⟩ (.int .u8 (G (o + k) ^^^ fm 285 c s : Nat))) g N (goes (fun d s => d ^^^ fm 285 c s) o rd F (k + 1)) := by
          refine ⟨hr.1, fun i hi => ?_, (hr.2.2.set (o + k) _).congr (fun i hi => ?_)⟩
          · unfold goes
            rw [← hG, ← hs]
            split
            · exact lf
            · exact hr.2.1 i hi
          · unfold goes
            rw [← hG, ← hs]
            by_cases e : i = o + k
            · rw [if_pos e, if_pos e]
            · rw [if_neg e, if_neg e]
        have k1 : Kp g wr (wr.setCell ⟨g, o + k, none⟩ (.int .u8 (G (o + k) ^^^ fm 285 c s : Nat))) := (Kp.refl g wr).setCell _ _
        have HP : Hid (Kp g w (wr.setCell ⟨g, o + k, none⟩ (.int .u8 (G (o + k) ^^^ fm 285 c s : Nat))) ∧ Two c w1.heap.size (wr.setCell ⟨g, o + k, none⟩ (.int .u8 (G (o + k) ^^^ fm 285 c s : Nat))) ∧ Rw (wr.setCell ⟨g, o + k, none⟩ (.int .u8 (G (o + k) ^^^ fm 285 c s : Nat))) g N (goes (fun d s => d ^^^ fm 285 c s) o rd F (k + 1))) := ⟨ho.setCell _ _, ht.keep k1 (Nat.lt_of_lt_of_le hgl hb1.size), new⟩
        have ib : ((k : Nat) : Int) < (n : Int) := by omega
        have i1 : ((s % 16 : Nat) : Int) < 16 := by omega
        have i2 : ((s / 16 : Nat) : Int) < 16 := by omega
        have W1 := wrap_succ8 (j := k) (Nat.lt_of_lt_of_le hlt HN.out)
        obtain ⟨T, hT⟩ : ∃ T, T = fm 285 c s := ⟨_, rfl⟩
        rw [← hT] at X X2 HP
        obtain ⟨E, hE⟩ : ∃ E, E = G (o + k) ^^^ T := ⟨_, rfl⟩
        rw [← hE] at X2 HP
        obtain ⟨sl, hsl⟩ : ∃ sl, sl = s % 16 := ⟨_, rfl⟩
        obtain ⟨sh, hsh⟩ : ∃ sh, sh = s / 16 := ⟨_, rfl⟩
        rw [← hsl] at A1 i1 ql
        rw [← hsh] at A2 i2 qh
        clear new hr ho ht hG hs hR hd hx lf k1 hU hV hT hE TL hsl hsh
        go_wp2
        refine region_tail8 14 (by kernel_rfl) (by kernel_rfl) ?_
        simp only [List.take_succ_cons, List.take_zero, List.drop_succ_cons, List.drop_zero]
        repeat still_step
        refine wpStill_nil ?_
        go_wp2
        go_roundw
        case rel => exact ⟨k + 1, hlt, by first | rfl | (rw [W1]; rfl), HP.out.1.drew, HP.out.2.1.drew, HP.out.2.2.1, HP.out.2.2.2.1, HP.out.2.2.2.2.drew⟩
        case measure => first | exact meas_lt8 hlt | (rw [W1]; exact meas_lt8 hlt)
      · have hkn : k = n := by omega
        subst hkn
        clear hx hd TL
        go_wp2
        go_ret
        exact ⟨rfl, ho, hr⟩
  · have hn0 : n = 0 := by omega
    subst hn0
    obtain ⟨L, hL⟩ : ∃ L, L = halfRow c 1 16 := ⟨_, rfl⟩
    obtain ⟨H, hH⟩ : ∃ H, H = halfRow c 16 16 := ⟨_, rfl⟩
    rw [← hL, ← hH] at u2 TL
    rw [← hL] at iL aL sL
    rw [← hH] at iH aH sH
    clear hn hc hL hH hk hg hd hx
    go_enter Tryz.func193, Tryz.ntmps193
    go_wp2_with (first | (go_at_call 194; (with_reducible refine (u1 _).mono ?_); rintro e w9 ⟨rfl, hw9⟩; have hw9 := hw9.symm; subst hw9) | (go_at_call 195; (with_reducible refine u2.mono ?_); rintro e w1 ⟨rfl, hb1⟩) | (refine wpList_store_row rfl 251 _ _ rfl w1.heap.size L rfl rfl 251 _ (heap_alloc2_old _ _ _) iL sL.out aL ?_) | (refine wpList_store_row rfl 251 _ _ rfl (w1.heap.size + 1) H rfl rfl 251 _ ((setRow_other _ _ _ _ (Nat.succ_ne_self _)).trans (heap_alloc2_new _ _ _)) iH sH.out aH ?_))
    refine wp_loop_rounds 1 ?_
    rw [rounds_succ]
    go_wp2
    go_ret
    obtain ⟨t1, t2, t3⟩ := TL.out w1 _ _ hb1
    exact ⟨rfl, t2, t3⟩
end Go.Proofs.YtaoapplbcgflmaaGreat
namespace Go.Proofs.YtaoapplbcgflmaaGreat.Gf2
set_option linter.unusedVariables false

/-- c times the first k bytes of w, each in its place. -/
def wdk (c w : Nat) : Nat → Nat
  | 0 => 0
  | k + 1 => wdk c w k + fm 285 c (w / 256 ^ k % 256) * 256 ^ k
/-- k bytes as a number. -/
def wbs (S : Nat → Nat) : Nat → Nat
  | 0 => 0
  | k + 1 => wbs S k + S k * 256 ^ k

theorem bit_lt (x b : Nat) : x / 2 ^ b % 2 < 2 := Nat.mod_lt _ (by decide)
theorem bit_top (a x k j : Nat) (ha : a < 2 ^ k) (hx : x < 2) : (a + x * 2 ^ k) / 2 ^ j % 2 = if j < k then a / 2 ^ j % 2 else if j = k then x else 0 := by
  by_cases h : j < k
  · rw [if_pos h]
    obtain ⟨d, rfl⟩ : ∃ d, k = j + 1 + d := ⟨k - (j + 1), by omega⟩
    have e : x * 2 ^ (j + 1 + d) = 2 ^ j * (2 * (x * 2 ^ d)) := by
      rw [Nat.pow_add, Nat.pow_succ]
      simp only [Nat.mul_assoc, Nat.mul_left_comm, Nat.mul_comm]
    rw [e, Nat.add_mul_div_left _ _ (Nat.two_pow_pos j), Nat.add_mul_mod_self_left]
  · rw [if_neg h]
    by_cases e : j = k
    · subst e
      rw [if_pos rfl, Nat.add_mul_div_right _ _ (Nat.two_pow_pos j), Nat.div_eq_of_lt ha, Nat.zero_add, Nat.mod_eq_of_lt hx]
    · rw [if_neg e]
      have h2 : a + x * 2 ^ k < 2 ^ j := by
        have hp : 2 ^ (k + 1) ≤ 2 ^ j := Nat.pow_le_pow_right (by decide) (by omega)
        rw [Nat.pow_succ] at hp
        rcases Nat.lt_or_ge x 1 with h1 | h1
        · have : x = 0 := by omega
          rw [this]; omega
        · have : x = 1 := by omega
          rw [this]; omega
      rw [Nat.div_eq_of_lt h2]
/-- numbers with the same bits. -/
theorem bits_ext {x y : Nat} (h : ∀ j, x / 2 ^ j % 2 = y / 2 ^ j % 2) : x = y := by
  apply Nat.eq_of_testBit_eq
  intro j
  simp only [Nat.testBit_eq_decide_div_mod_eq, h j]
theorem xor_bit (x y j : Nat) : (x ^^^ y) / 2 ^ j % 2 = (x / 2 ^ j % 2 + y / 2 ^ j % 2) % 2 := by
  have h := Nat.testBit_xor x y j
  simp only [Nat.testBit_eq_decide_div_mod_eq] at h
  have h1 := bit_lt x j
  have h2 := bit_lt y j
  have h3 := bit_lt (x ^^^ y) j
  rcases (show x / 2 ^ j % 2 = 0 ∨ x / 2 ^ j % 2 = 1 by omega) with a | a <;> rcases (show y / 2 ^ j % 2 = 0 ∨ y / 2 ^ j % 2 = 1 by omega) with b | b <;> simp [a, b] at h ⊢ <;> omega
/-- c times the lowest t bits of x. -/
theorem fm_low (c x : Nat) : ∀ t, fm 285 c (x % 2 ^ (t + 1)) = fm 285 c (x % 2 ^ t) ^^^ (if x / 2 ^ t % 2 = 1 then fm 285 c (2 ^ t) else 0) := by
  intro t
  have e : x % 2 ^ (t + 1) = (x % 2 ^ t) ^^^ (x / 2 ^ t % 2 * 2 ^ t) := by
    apply bits_ext
    intro j
    have hl : x % 2 ^ t < 2 ^ t := Nat.mod_lt _ (Nat.two_pow_pos t)
    have s : x % 2 ^ (t + 1) = x % 2 ^ t + x / 2 ^ t % 2 * 2 ^ t := by
      rw [Nat.pow_succ, Nat.mod_mul, Nat.mul_comm]
    rw [s, bit_top _ _ _ _ hl (bit_lt _ _), xor_bit]
    have z := bit_top 0 (x / 2 ^ t % 2) t j (Nat.two_pow_pos t) (bit_lt _ _)
    rw [Nat.zero_add] at z
    rw [z]
    by_cases h : j < t
    · rw [if_pos h, if_pos h]; simp
    · have z2 : x % 2 ^ t / 2 ^ j % 2 = 0 := by
        rw [Nat.div_eq_of_lt (Nat.lt_of_lt_of_le hl (Nat.pow_le_pow_right (by decide) (by omega)))]
      rw [if_neg h, if_neg h, z2, Nat.zero_add]
      split
      · omega
      · rfl
  rw [e, fld8.fm_xor]
  congr 1
  have := bit_lt x t
  split
  · next h => rw [h, Nat.one_mul]
  · next h => rw [show x / 2 ^ t % 2 = 0 by omega, Nat.zero_mul, fld8.fm_zero]
theorem wbs_lt {S : Nat → Nat} : ∀ {k : Nat}, (∀ j, j < k → S j < 256) → wbs S k < 256 ^ k
  | 0, _ => by simp [wbs]
  | k + 1, h => by
    have h1 := wbs_lt (fun j hj => h j (by omega) : ∀ j, j < k → S j < 256)
    have h2 := h k (by omega)
    have h3 : S k * 256 ^ k ≤ 255 * 256 ^ k := Nat.mul_le_mul_right _ (by omega)
    unfold wbs
    rw [Nat.pow_succ]
    omega
theorem byte_top (a x k j : Nat) (ha : a < 256 ^ k) (hx : x < 256) : (a + x * 256 ^ k) / 256 ^ j % 256 = if j < k then a / 256 ^ j % 256 else if j = k then x else 0 := by
  have pos : ∀ m, 0 < 256 ^ m := fun m => Nat.pow_pos (by decide)
  by_cases h : j < k
  · rw [if_pos h]
    obtain ⟨d, rfl⟩ : ∃ d, k = j + 1 + d := ⟨k - (j + 1), by omega⟩
    have e : x * 256 ^ (j + 1 + d) = 256 ^ j * (256 * (x * 256 ^ d)) := by
      rw [Nat.pow_add, Nat.pow_succ]
      simp only [Nat.mul_assoc, Nat.mul_left_comm, Nat.mul_comm]
    rw [e, Nat.add_mul_div_left _ _ (pos j), Nat.add_mul_mod_self_left]
  · rw [if_neg h]
    by_cases e : j = k
    · subst e
      rw [if_pos rfl, Nat.add_mul_div_right _ _ (pos j), Nat.div_eq_of_lt ha, Nat.zero_add, Nat.mod_eq_of_lt hx]
    · rw [if_neg e]
      have h2 : a + x * 256 ^ k < 256 ^ j := by
        have hp : 256 ^ (k + 1) ≤ 256 ^ j := Nat.pow_le_pow_right (by decide) (by omega)
        rw [Nat.pow_succ] at hp
        have h3 : x * 256 ^ k ≤ 255 * 256 ^ k := Nat.mul_le_mul_right _ (by omega)
        omega
      rw [Nat.div_eq_of_lt h2]
theorem wbs_byte {S : Nat → Nat} : ∀ {k : Nat}, (∀ j, j < k → S j < 256) → ∀ j, j < k → wbs S k / 256 ^ j % 256 = S j
  | 0, _, j, hj => absurd hj (Nat.not_lt_zero _)
  | k + 1, h, j, hj => by
    have h1 : ∀ j, j < k → S j < 256 := fun j hj => h j (by omega)
    unfold wbs
    rw [byte_top _ _ _ _ (wbs_lt h1) (h k (by omega))]
    by_cases e : j < k
    · rw [if_pos e, wbs_byte h1 j e]
    · rw [if_neg e, if_pos (by omega), show j = k by omega]
theorem wdk_wbs {c : Nat} {S : Nat → Nat} (h : ∀ j, j < 8 → S j < 256) : ∀ k, k ≤ 8 → wdk c (wbs S 8) k = wbs (fun j => fm 285 c (S j)) k
  | 0, _ => rfl
  | k + 1, hk => by
    show wdk c (wbs S 8) k + fm 285 c (wbs S 8 / 256 ^ k % 256) * 256 ^ k = wbs (fun j => fm 285 c (S j)) k + fm 285 c (S k) * 256 ^ k
    rw [wdk_wbs h k (by omega), wbs_byte h k (by omega)]
theorem wdk_lt (c w : Nat) : ∀ k, wdk c w k < 256 ^ k
  | 0 => by simp [wdk]
  | k + 1 => by
    have h1 := wdk_lt c w k
    have h2 : fm 285 c (w / 256 ^ k % 256) < 256 := fld8.fm_lt _ _
    have h3 : fm 285 c (w / 256 ^ k % 256) * 256 ^ k ≤ 255 * 256 ^ k := Nat.mul_le_mul_right _ (by omega)
    unfold wdk
    rw [Nat.pow_succ]
    omega
/-- a byte into the place above. -/
theorem or_top {a x k : Nat} (ha : a < 256 ^ k) : a ||| x * 256 ^ k = a + x * 256 ^ k := by
  have e : 256 ^ k = 2 ^ (8 * k) := by rw [Nat.pow_mul]
  rw [e] at ha ⊢
  rw [Nat.or_comm, Nat.mul_comm, Nat.add_comm, Nat.two_pow_add_eq_or_of_lt ha]
end Go.Proofs.YtaoapplbcgflmaaGreat.Gf2

namespace Go.Proofs.YtaoapplbcgflmaaGreat.Gf2
set_option linter.unusedVariables false

theorem xor_top2 {a b x y k : Nat} (ha : a < 2 ^ k) (hb : b < 2 ^ k) : (a + x * 2 ^ k) ^^^ (b + y * 2 ^ k) = (a ^^^ b) + (x ^^^ y) * 2 ^ k := by
  have hc : a ^^^ b < 2 ^ k := Nat.xor_lt_two_pow ha hb
  rw [Nat.add_comm a, Nat.add_comm b, Nat.add_comm (a ^^^ b), Nat.mul_comm x, Nat.mul_comm y, Nat.mul_comm (x ^^^ y)]
  apply Nat.eq_of_testBit_eq
  intro j
  rw [Nat.testBit_xor, Nat.testBit_two_pow_mul_add _ ha, Nat.testBit_two_pow_mul_add _ hb, Nat.testBit_two_pow_mul_add _ hc]
  split <;> simp
theorem and_top2 {a b x y k : Nat} (ha : a < 2 ^ k) (hb : b < 2 ^ k) : (a + x * 2 ^ k) &&& (b + y * 2 ^ k) = (a &&& b) + (x &&& y) * 2 ^ k := by
  have hc : a &&& b < 2 ^ k := Nat.and_lt_two_pow _ hb
  rw [Nat.add_comm a, Nat.add_comm b, Nat.add_comm (a &&& b), Nat.mul_comm x, Nat.mul_comm y, Nat.mul_comm (x &&& y)]
  apply Nat.eq_of_testBit_eq
  intro j
  rw [Nat.testBit_and, Nat.testBit_two_pow_mul_add _ ha, Nat.testBit_two_pow_mul_add _ hb, Nat.testBit_two_pow_mul_add _ hc]
  split <;> simp
theorem p256 (k : Nat) : 256 ^ k = 2 ^ (8 * k) := by rw [Nat.pow_mul]
theorem xor_wbs {S T : Nat → Nat} : ∀ {k : Nat}, (∀ j, j < k → S j < 256) → (∀ j, j < k → T j < 256) → wbs S k ^^^ wbs T k = wbs (fun j => S j ^^^ T j) k
  | 0, _, _ => by simp [wbs]
  | k + 1, h, g => by
    have a := wbs_lt (fun j hj => h j (by omega) : ∀ j, j < k → S j < 256)
    have b := wbs_lt (fun j hj => g j (by omega) : ∀ j, j < k → T j < 256)
    show (wbs S k + S k * 256 ^ k) ^^^ (wbs T k + T k * 256 ^ k) = wbs (fun j => S j ^^^ T j) k + (S k ^^^ T k) * 256 ^ k
    rw [p256] at a b ⊢
    rw [xor_top2 a b, xor_wbs (fun j hj => h j (by omega)) (fun j hj => g j (by omega))]
theorem and_wbs {S T : Nat → Nat} : ∀ {k : Nat}, (∀ j, j < k → S j < 256) → (∀ j, j < k → T j < 256) → wbs S k &&& wbs T k = wbs (fun j => S j &&& T j) k
  | 0, _, _ => by simp [wbs]
  | k + 1, h, g => by
    have a := wbs_lt (fun j hj => h j (by omega) : ∀ j, j < k → S j < 256)
    have b := wbs_lt (fun j hj => g j (by omega) : ∀ j, j < k → T j < 256)
    show (wbs S k + S k * 256 ^ k) &&& (wbs T k + T k * 256 ^ k) = wbs (fun j => S j &&& T j) k + (S k &&& T k) * 256 ^ k
    rw [p256] at a b ⊢
    rw [and_top2 a b, and_wbs (fun j hj => h j (by omega)) (fun j hj => g j (by omega))]
theorem wbs_mul (S : Nat → Nat) (f : Nat) : ∀ k, wbs S k * f = wbs (fun j => S j * f) k
  | 0 => by simp [wbs]
  | k + 1 => by
    show (wbs S k + S k * 256 ^ k) * f = wbs (fun j => S j * f) k + S k * f * 256 ^ k
    rw [Nat.add_mul, wbs_mul S f k, Nat.mul_right_comm]
theorem wbs_congr {S T : Nat → Nat} : ∀ {k : Nat}, (∀ j, j < k → S j = T j) → wbs S k = wbs T k
  | 0, _ => rfl
  | k + 1, h => by
    unfold wbs
    rw [wbs_congr (fun j hj => h j (by omega) : ∀ j, j < k → S j = T j), h k (by omega)]
theorem wbs_digits (x : Nat) : ∀ k, wbs (fun j => x / 256 ^ j % 256) k = x % 256 ^ k
  | 0 => by simp [wbs, Nat.mod_one]
  | k + 1 => by
    show wbs (fun j => x / 256 ^ j % 256) k + x / 256 ^ k % 256 * 256 ^ k = x % 256 ^ (k + 1)
    rw [wbs_digits x k, Nat.pow_succ, Nat.mod_mul, Nat.mul_comm (256 ^ k)]
theorem wdk_is (c w : Nat) : ∀ k, wdk c w k = wbs (fun j => fm 285 c (w / 256 ^ j % 256)) k
  | 0 => rfl
  | k + 1 => by
    unfold wdk wbs
    rw [wdk_is c w k]
theorem low_mask : (72340172838076673 : Nat) = wbs (fun _ => 1) 8 := by decide
theorem mask_is {x : Nat} (hx : x < 18446744073709551616) : x &&& 72340172838076673 = wbs (fun j => x / 256 ^ j % 2) 8 := by
  have e : x = wbs (fun j => x / 256 ^ j % 256) 8 := by rw [wbs_digits, Nat.mod_eq_of_lt]; exact hx
  have h : ∀ j, j < 8 → x / 256 ^ j % 256 < 256 := fun j _ => Nat.mod_lt _ (by decide)
  rw [low_mask]
  conv => lhs; lhs; rw [e]
  rw [and_wbs h (fun _ _ => by decide)]
  exact wbs_congr (fun j _ => by rw [Nat.and_one_is_mod, Nat.mod_mod_of_dvd _ (by decide)])
/-- the bits b of the bytes of w. -/
def msk (w b : Nat) : Nat := (w / 2 ^ b) &&& 72340172838076673
theorem msk_is {w b : Nat} (hw : w < 18446744073709551616) (hb : b < 8) : msk w b = wbs (fun j => w / 256 ^ j % 256 / 2 ^ b % 2) 8 := by
  unfold msk
  rw [mask_is (Nat.lt_of_le_of_lt (Nat.div_le_self _ _) hw)]
  refine wbs_congr (fun j _ => ?_)
  rw [Nat.div_div_eq_div_mul, Nat.mul_comm, ← Nat.div_div_eq_div_mul]
  generalize w / 256 ^ j = v
  rcases (show b = 0 ∨ b = 1 ∨ b = 2 ∨ b = 3 ∨ b = 4 ∨ b = 5 ∨ b = 6 ∨ b = 7 by omega) with rfl | rfl | rfl | rfl | rfl | rfl | rfl | rfl <;> simp only [Nat.reducePow] <;> omega
theorem bitmul_lt {f : Nat} (hf : f < 256) (x : Nat) : x % 2 * f < 256 := by
  rcases (show x % 2 = 0 ∨ x % 2 = 1 by omega) with h | h <;> rw [h] <;> omega
theorem msk_mul {w b f : Nat} (hw : w < 18446744073709551616) (hb : b < 8) : msk w b * f = wbs (fun j => w / 256 ^ j % 256 / 2 ^ b % 2 * f) 8 := by
  rw [msk_is hw hb, wbs_mul]
theorem msk_mul_lt {w b f : Nat} (hw : w < 18446744073709551616) (hb : b < 8) (hf : f < 256) : msk w b * f < 18446744073709551616 := by
  rw [msk_mul hw hb]
  exact wbs_lt (k := 8) (fun j _ => bitmul_lt hf _)
theorem fm_bits (c : Nat) {y : Nat} (hy : y < 256) : fm 285 c y = y / 2 ^ 0 % 2 * fm 285 c (2 ^ 0) ^^^ y / 2 ^ 1 % 2 * fm 285 c (2 ^ 1) ^^^ y / 2 ^ 2 % 2 * fm 285 c (2 ^ 2) ^^^ y / 2 ^ 3 % 2 * fm 285 c (2 ^ 3) ^^^ y / 2 ^ 4 % 2 * fm 285 c (2 ^ 4) ^^^ y / 2 ^ 5 % 2 * fm 285 c (2 ^ 5) ^^^ y / 2 ^ 6 % 2 * fm 285 c (2 ^ 6) ^^^ y / 2 ^ 7 % 2 * fm 285 c (2 ^ 7) := by
  have s : ∀ t, fm 285 c (y % 2 ^ (t + 1)) = fm 285 c (y % 2 ^ t) ^^^ y / 2 ^ t % 2 * fm 285 c (2 ^ t) := fun t => by
    rw [fm_low]
    congr 1
    have := bit_lt y t
    split
    · next h => rw [h, Nat.one_mul]
    · next h => rw [show y / 2 ^ t % 2 = 0 by omega, Nat.zero_mul]
  have e : y % 2 ^ 8 = y := Nat.mod_eq_of_lt hy
  conv => lhs; rw [← e]
  rw [s 7, s 6, s 5, s 4, s 3, s 2, s 1, s 0]
  rw [show y % 2 ^ 0 = 0 by simp [Nat.mod_one], fld8.fm_zero, Nat.zero_xor]
/-- the eight sums. -/
theorem word_is {c w : Nat} (hw : w < 18446744073709551616) :
    msk w 0 * fm 285 c (2 ^ 0) ^^^ msk w 1 * fm 285 c (2 ^ 1) ^^^ msk w 2 * fm 285 c (2 ^ 2) ^^^ msk w 3 * fm 285 c (2 ^ 3) ^^^ msk w 4 * fm 285 c (2 ^ 4) ^^^ msk w 5 * fm 285 c (2 ^ 5) ^^^ msk w 6 * fm 285 c (2 ^ 6) ^^^ msk w 7 * fm 285 c (2 ^ 7) = wdk c w 8 := by
  have l : ∀ b j, w / 256 ^ j % 256 / 2 ^ b % 2 * fm 285 c (2 ^ b) < 256 := fun b j => bitmul_lt (fld8.fm_lt _ _) _
  have x8 : ∀ {a b : Nat}, a < 256 → b < 256 → a ^^^ b < 256 := fun h g => Nat.xor_lt_two_pow (n := 8) h g
  rw [msk_mul hw (by decide), msk_mul hw (by decide), msk_mul hw (by decide), msk_mul hw (by decide), msk_mul hw (by decide), msk_mul hw (by decide), msk_mul hw (by decide), msk_mul hw (by decide)]
  have k1 : ∀ j, w / 256 ^ j % 256 / 2 ^ 0 % 2 * fm 285 c (2 ^ 0) ^^^ w / 256 ^ j % 256 / 2 ^ 1 % 2 * fm 285 c (2 ^ 1) < 256 := fun j => x8 (l 0 j) (l 1 j)
  have k2 := fun j => x8 (k1 j) (l 2 j)
  have k3 := fun j => x8 (k2 j) (l 3 j)
  have k4 := fun j => x8 (k3 j) (l 4 j)
  have k5 := fun j => x8 (k4 j) (l 5 j)
  have k6 := fun j => x8 (k5 j) (l 6 j)
  rw [xor_wbs (fun j _ => l 0 j) (fun j _ => l 1 j), xor_wbs (fun j _ => k1 j) (fun j _ => l 2 j), xor_wbs (fun j _ => k2 j) (fun j _ => l 3 j), xor_wbs (fun j _ => k3 j) (fun j _ => l 4 j), xor_wbs (fun j _ => k4 j) (fun j _ => l 5 j), xor_wbs (fun j _ => k5 j) (fun j _ => l 6 j), xor_wbs (fun j _ => k6 j) (fun j _ => l 7 j)]
  rw [wdk_is]
  exact wbs_congr (fun j _ => (fm_bits c (Nat.mod_lt _ (by decide))).symm)
/-- the lowest byte of a word's product. -/
theorem wdk_low (c w : Nat) : wdk c w 8 % 256 = fm 285 c (w % 256) := by
  rw [wdk_is]
  have h := wbs_byte (S := fun j => fm 285 c (w / 256 ^ j % 256)) (k := 8) (fun j _ => fld8.fm_lt _ _) 0 (by decide)
  simpa using h
end Go.Proofs.YtaoapplbcgflmaaGreat.Gf2

namespace Go.Proofs.YtaoapplbcgflmaaGreat
open Go.RowKit Gf2
set_option linter.unusedVariables false

/-- words in a row of its own. -/
def Rv (w : World) (g N : Nat) (F : Nat → Nat) : Prop := N ≤ big ∧ (∀ i, i < N → F i < 18446744073709551616) ∧ w.rowIs g 225 N (fun i => .int .u64 (F i : Nat))
theorem one8 (k : Nat) (hk : k < 8) : IntKind.u8.wrap (2 ^ k) = ((2 ^ k : Nat) : Int) := by
  have hp : 2 ^ k ≤ 2 ^ 7 := Nat.pow_le_pow_right (by decide) (by omega)
  have z : ((2 : Int) ^ k) = ((2 ^ k : Nat) : Int) := by rw [Int.natCast_pow]; rfl
  rw [z, IntKind.wrap_u8]
  generalize 2 ^ k = P at hp ⊢
  have : (2 : Nat) ^ 7 = 128 := by decide
  omega
theorem pow256 (j : Nat) (hj : j < 8) : 255 * 256 ^ j + 256 ^ j ≤ 18446744073709551616 := by
  have h : 256 ^ (j + 1) ≤ 256 ^ 8 := Nat.pow_le_pow_right (by decide) (by omega)
  rw [Nat.pow_succ] at h
  have : (256 : Nat) ^ 8 = 18446744073709551616 := by decide
  omega
theorem Rv.set {w : World} {g N : Nat} {F : Nat → Nat} (h : Rv w g N F) (k v : Nat) (hv : v < 18446744073709551616) : Rv (w.setCell ⟨g, k, none⟩ (.int .u64 (v : Nat))) g N (fun i => if i = k then v else F i) := by
  refine ⟨h.1, fun i hi => ?_, (h.2.2.set k _).congr (fun i hi => ?_)⟩
  · dsimp only
    split
    · exact hv
    · exact h.2.1 i hi
  · dsimp only
    by_cases e : i = k
    · rw [if_pos e, if_pos e]
    · rw [if_neg e, if_neg e]
theorem Rv.congr {w : World} {g N : Nat} {F G : Nat → Nat} (h : Rv w g N F) (e : ∀ i, i < N → F i = G i) : Rv w g N G := by
  refine ⟨h.1, fun i hi => by rw [← e i hi]; exact h.2.1 i hi, h.2.2.congr (fun i hi => by rw [e i hi])⟩
/-- a region that draws its order and only reads. -/
theorem region_still7 {P : Program} {id : Nat} {Q : Exit → Act → World → Prop} {a : Act} {w : World} {l : List Oper} (hm : P.follows .mixedOrders = true) (hB : Region.lexB .any l.toArray = true)
    (h : wpStill P l.toArray w.drew (fun a' => Q .normal a' w.drew) l a) : (Code.region id l.toArray true).wp P Q a w := wp_region_still_lit hm hB h
end Go.Proofs.YtaoapplbcgflmaaGreat
namespace Go.Proofs.YtaoapplbcgflmaaGreat
open Go.RowKit Gf2
set_option linter.unusedVariables false

/-- the columns of a factor, the first k of them laid. -/
def colRow (c k : Nat) : Array Value := ((List.range 8).map fun j => Value.int .u64 (if j < k then ((fm 285 c (2 ^ j) : Nat) : Int) else 0)).toArray
theorem colRow_size (c k : Nat) : (colRow c k).size = 8 := by simp [colRow]
theorem colRow_get (c k j : Nat) (h : j < 8) : (colRow c k)[j]? = some (Value.int .u64 (if j < k then ((fm 285 c (2 ^ j) : Nat) : Int) else 0)) := by
  simp [colRow, h]
theorem colRow_zero (c : Nat) : colRow c 0 = (List.replicate 8 (Value.int .u64 0)).toArray := by
  apply Array.ext_getElem?
  intro j
  by_cases h : j < 8
  · rw [colRow_get _ _ _ h, List.getElem?_toArray, List.getElem?_replicate, if_pos h]; simp
  · rw [Array.getElem?_eq_none (by rw [colRow_size]; omega), Array.getElem?_eq_none (by simp; omega)]
theorem colRow_set (c k : Nat) (h : k < 8) : (colRow c k).setIfInBounds k (Value.int .u64 ((fm 285 c (2 ^ k) : Nat) : Int)) = colRow c (k + 1) := by
  apply Array.ext_getElem?
  intro j
  by_cases hj : j < 8
  · rw [colRow_get _ _ _ hj, Array.getElem?_setIfInBounds]
    by_cases e : k = j
    · subst e
      rw [if_pos rfl, if_pos (by rw [colRow_size]; exact h), if_pos (by omega)]
    · rw [if_neg e, colRow_get _ _ _ hj]
      by_cases h1 : j < k
      · rw [if_pos h1, if_pos (by omega)]
      · rw [if_neg h1, if_neg (by omega)]
  · rw [Array.getElem?_eq_none (by simp [colRow_size]; omega), Array.getElem?_eq_none (by rw [colRow_size]; omega)]
theorem colRow_all (c k : Nat) : (colRow c k).all (·.oneCell') = true := by
  rw [Array.all_eq_true_iff_forall_mem]
  intro v hv
  simp [colRow] at hv
  obtain ⟨j, -, rfl⟩ := hv
  rfl
theorem info_col : (Tryz.prog.info? 257).map (·.size) = some 8 := by kernel_rfl
/-- a factor's columns in block b. -/
def Cb (c b : Nat) (w : World) : Prop := w.heap[b]? = some (.cells (colRow c 8) 257 (0, 0))
theorem Cb.lt {c b : Nat} {w : World} (h : Cb c b w) : b < w.heap.size := (Array.getElem?_eq_some_iff.1 h).1
theorem Cb.cell {c b : Nat} {w : World} (h : Cb c b w) {j : Nat} (hj : j < 8) : w.cell? ⟨b, j, none⟩ = some (.int .u64 (fm 285 c (2 ^ j) : Nat)) := by
  rw [cell_of_row w b j _ _ _ h, colRow_get _ _ _ hj, if_pos hj]
theorem Cb.keep {c b g : Nat} {w w' : World} (h : Cb c b w) (hk : Kp g w w') (hg : g ≠ b) : Cb c b w' := (hk.2 b h.lt (fun e => hg e.symm)).trans h
theorem Cb.drew {c b : Nat} {w : World} (h : Cb c b w) : Cb c b w.drew := h

set_option maxHeartbeats 2000000 in
set_option maxRecDepth 100000 in
theorem colsOf_nat (c : Nat) (w : World) (hc : c < 256) :
    Calls Tryz.prog 201 #[.int .u8 (c : Int)] w fun e w' => e = .returned (.agg (colRow c 8)) ∧ Below w.heap.size w w' := by
  have HC : Hid (c < 256) := hc
  clear hc
  go_enter Tryz.func201, Tryz.ntmps201
  go_wp2
  go_loopw [5] (fun i wr => ∃ b : Nat, b ≤ 8 ∧ i = .int .i64 b ∧ wr.heap.size = w.heap.size + 2 ∧
      wr.heap[w.heap.size]? = some (.cells (colRow c 0) 257 (0, 0)) ∧ wr.heap[w.heap.size + 1]? = some (.cells (colRow c b) 257 (0, 0)) ∧ Below w.heap.size w wr) (fun i _ => 8 - (intOf i).toNat)
  case atStart =>
    refine ⟨0, by decide, rfl, by simp, ?_, ?_, ((Below.refl _ _).alloc (Nat.le_refl _) _).alloc (by simp) _⟩
    · rw [heap_alloc2_old, colRow_zero]; rfl
    · rw [heap_alloc2_new, colRow_zero]; rfl
  case round =>
    obtain ⟨b, hb, rfl, hsz, h0, h1, hB⟩ := hrel
    by_cases hlt : b < 8
    · have i1 : ((b : Nat) : Int) < 8 := by omega
      have hp : 2 ^ b ≤ 128 := by have := Nat.pow_le_pow_right (n := 2) (by decide) (show b ≤ 7 by omega); simpa using this
      have e1 := one8 b hlt
      have cM := fun W => gmul_nat c (2 ^ b) W HC.out (by omega)
      have q2 := cell_of_row wr (w.heap.size + 1) b _ 257 (0, 0) h1
      rw [colRow_get _ _ _ hlt, if_neg (by omega)] at q2
      have z1 := frozen_of_row wr (w.heap.size + 1) b _ 257 h1
      have lv : fm 285 c (2 ^ b) < 256 := fm8_lt _ _
      have E2 : IntKind.u64.wrap ((fm 285 c (2 ^ b) : Nat) : Int) = ((fm 285 c (2 ^ b) : Nat) : Int) := by rw [IntKind.wrap_u64]; omega
      have new : (wr.setCell ⟨w.heap.size + 1, b, none⟩ (.int .u64 (fm 285 c (2 ^ b) : Nat))).heap[w.heap.size + 1]? = some (.cells (colRow c (b + 1)) 257 (0, 0)) := by
        rw [heap_setCell_same _ _ _ _ _ _ h1, colRow_set c b hlt]
      have old : (wr.setCell ⟨w.heap.size + 1, b, none⟩ (.int .u64 (fm 285 c (2 ^ b) : Nat))).heap[w.heap.size]? = some (.cells (colRow c 0) 257 (0, 0)) := by
        rw [heap_setCell_other _ _ _ _ (by simp)]; exact h0
      have HN : Hid ((wr.setCell ⟨w.heap.size + 1, b, none⟩ (.int .u64 (fm 285 c (2 ^ b) : Nat))).heap.size = w.heap.size + 2 ∧ (wr.setCell ⟨w.heap.size + 1, b, none⟩ (.int .u64 (fm 285 c (2 ^ b) : Nat))).heap[w.heap.size]? = some (.cells (colRow c 0) 257 (0, 0)) ∧ (wr.setCell ⟨w.heap.size + 1, b, none⟩ (.int .u64 (fm 285 c (2 ^ b) : Nat))).heap[w.heap.size + 1]? = some (.cells (colRow c (b + 1)) 257 (0, 0)) ∧ Below w.heap.size w (wr.setCell ⟨w.heap.size + 1, b, none⟩ (.int .u64 (fm 285 c (2 ^ b) : Nat)))) := ⟨by simp [hsz], old, new, hB.setCell (by simp) _⟩
      obtain ⟨v, hv⟩ : ∃ v, v = fm 285 c (2 ^ b) := ⟨_, rfl⟩
      rw [← hv] at cM HN E2 lv
      obtain ⟨P, hP⟩ : ∃ P : Nat, P = 2 ^ b := ⟨_, rfl⟩
      rw [← hP] at e1 cM
      clear new old h0 h1 hB hsz hv hP hp hb
      go_wp2_with (go_at_call 153; ((with_reducible refine (cM _).mono ?_); rintro e w9 ⟨rfl, hw9⟩; have hw9 := hw9.symm; subst hw9))
      go_roundw
      case rel => exact ⟨b + 1, hlt, by go_num, HN.out.1, HN.out.2.1, HN.out.2.2.1, HN.out.2.2.2⟩
      case measure => simp [intOf]; omega
    · have hb8 : b = 8 := by omega
      subst hb8
      have i53 : (Tryz.prog.info? 257).map (·.size) = some (colRow c 8).size := by rw [colRow_size]; exact info_col
      have o53 : (colRow c 0).size = (colRow c 8).size := by rw [colRow_size, colRow_size]
      go_wp2_with (first | (refine wpList_load_row rfl 257 _ rfl (w.heap.size + 1) rfl 257 _ (0, 0) _ h1 Tryz.underlying257 rfl i53 ?_) | (refine wpList_store_row rfl 257 _ _ rfl w.heap.size (colRow c 8) rfl rfl 257 _ h0 i53 o53 (colRow_all c 8) ?_))
      refine bodyPost_ret (v := .agg (colRow c 8)) ?_ rfl ⟨rfl, ?_⟩
      · exact results_cell_row (P := Tryz.prog) (fn := Tryz.f201) rfl _ _ w.heap.size 257 (colRow c 8) (0, 0) _ rfl (setRow_heap _ _ _ _ _ _ h0) Tryz.underlying257 rfl i53
      · exact below_setRow hB (Nat.le_refl _) _
end Go.Proofs.YtaoapplbcgflmaaGreat
