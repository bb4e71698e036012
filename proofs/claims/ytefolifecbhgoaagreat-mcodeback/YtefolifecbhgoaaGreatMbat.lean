import Derived.Test.YtefolifecbhgoaaGreatMbaj
import Derived.Test.YtefolifecbhgoaaGreatMbad
import Derived.Laws.Tables
import Derived.StillTail
import Derived.StillTailTactics
import Derived.Test.YtefolifecbhgoaaGreatMbaa
namespace Go.Proofs.YtefolifecbhgoaaGreat
open Go.RowKit Gf2
set_option linter.unusedVariables false

def halfRow (c m k : Nat) : Array Value := ((List.range 16).map fun j => Value.int .u8 (if j < k then ((fm 285 c (j * m) : Nat) : Int) else 0)).toArray
theorem halfRow_size (c m k : Nat) : (halfRow c m k).size = 16 := by simp [halfRow]
theorem halfRow_get (c m k j : Nat) (h : j < 16) : (halfRow c m k)[j]? = some (Value.int .u8 (if j < k then ((fm 285 c (j * m) : Nat) : Int) else 0)) := by
  simp [halfRow, h]
theorem halfRow_zero (c m : Nat) : halfRow c m 0 = (List.replicate 16 (Value.int .u8 0)).toArray := by
  apply Array.ext_getElem?
  intro j
  by_cases h : j < 16
  · rw [halfRow_get _ _ _ _ h, List.getElem?_toArray, List.getElem?_replicate, if_pos h]; simp
  · rw [Array.getElem?_eq_none (by rw [halfRow_size]; omega), Array.getElem?_eq_none (by simp; omega)]
theorem halfRow_set (c m k : Nat) (h : k < 16) : (halfRow c m k).setIfInBounds k (Value.int .u8 ((fm 285 c (k * m) : Nat) : Int)) = halfRow c m (k + 1) := by
  apply Array.ext_getElem?
  intro j
  by_cases hj : j < 16
  · rw [halfRow_get _ _ _ _ hj, Array.getElem?_setIfInBounds]
    by_cases e : k = j
    · subst e
      rw [if_pos rfl, if_pos (by rw [halfRow_size]; exact h), if_pos (by omega)]
    · rw [if_neg e, halfRow_get _ _ _ _ hj]
      by_cases h1 : j < k
      · rw [if_pos h1, if_pos (by omega)]
      · rw [if_neg h1, if_neg (by omega)]
  · rw [Array.getElem?_eq_none (by simp [halfRow_size]; omega), Array.getElem?_eq_none (by rw [halfRow_size]; omega)]
theorem halfRow_all (c m k : Nat) : (halfRow c m k).all (·.oneCell') = true := by
  rw [Array.all_eq_true_iff_forall_mem]
  intro v hv
  simp [halfRow] at hv
  obtain ⟨j, -, rfl⟩ := hv
  rfl
theorem halfRow_one (c m : Nat) : halfRow c m 0 = halfRow c m 1 := by
  apply Array.ext_getElem?
  intro j
  by_cases h : j < 16
  · rw [halfRow_get _ _ _ _ h, halfRow_get _ _ _ _ h]
    by_cases e : j < 1
    · obtain rfl : j = 0 := by omega
      rw [if_neg (by omega), if_pos e, Nat.zero_mul, fld8.fm_zero]
      rfl
    · rw [if_neg (by omega), if_neg e]
  · rw [Array.getElem?_eq_none (by rw [halfRow_size]; omega), Array.getElem?_eq_none (by rw [halfRow_size]; omega)]
def pow2 (b : Nat) : Prop := b = 1 ∨ b = 2 ∨ b = 4 ∨ b = 8
theorem half_sum {b r m : Nat} (hb : pow2 b) (hm : m = 1 ∨ m = 16) (hr : r < b) : (b + r) * m = (b * m) ^^^ (r * m) := by
  have key : ∀ b ∈ [1, 2, 4, 8], ∀ m ∈ [1, 16], ∀ r, r < 8 → r < b → (b + r) * m = (b * m) ^^^ (r * m) := by decide
  refine key b ?_ m ?_ r ?_ hr
  · unfold pow2 at hb; simp; omega
  · simp; omega
  · unfold pow2 at hb; omega
theorem half_step {c b r m : Nat} (hb : pow2 b) (hm : m = 1 ∨ m = 16) (hr : r < b) : fm 285 c (b * m) ^^^ fm 285 c (r * m) = fm 285 c ((b + r) * m) := by
  rw [half_sum hb hm hr, fld8.fm_xor]
end Go.Proofs.YtefolifecbhgoaaGreat
namespace Go.Proofs.YtefolifecbhgoaaGreat
open Go.RowKit Gf2
set_option linter.unusedVariables false

theorem info_half : (Tryz.prog.info? 247).map (·.size) = some 16 := by kernel_rfl

set_option maxHeartbeats 2000000 in
set_option maxRecDepth 100000 in
theorem multiples_nat (c m : Nat) (w : World) (hc : c < 256) (hm : m = 1 ∨ m = 16) :
    Calls Tryz.prog 192 #[.int .u8 (c : Int), .int .u8 (m : Int)] w fun e w' => e = .returned (.agg (halfRow c m 16)) ∧ Below w.heap.size w w' := by
  go_enter Tryz.func192, Tryz.ntmps192
  go_wp2
  go_loopw [6] (fun i wr => ∃ b : Nat, (pow2 b ∨ b = 16) ∧ i = .int .i64 b ∧ wr.heap.size = w.heap.size + 2 ∧
      wr.heap[w.heap.size]? = some (.cells (halfRow c m 0) 247 (0, 0)) ∧ wr.heap[w.heap.size + 1]? = some (.cells (halfRow c m b) 247 (0, 0)) ∧ Below w.heap.size w wr) (fun i _ => 16 - (intOf i).toNat)
  case atStart =>
    refine ⟨1, Or.inl (Or.inl rfl), rfl, by simp, ?_, ?_, ((Below.refl _ _).alloc (Nat.le_refl _) _).alloc (by simp) _⟩
    · rw [heap_alloc2_old, halfRow_zero]; rfl
    · rw [heap_alloc2_new, ← halfRow_one, halfRow_zero]; rfl
  case round =>
    obtain ⟨b, hb, rfl, hsz, h0, h1, hB⟩ := hrel
    by_cases hlt : b < 16
    · have hp : pow2 b := by rcases hb with h | h; exact h; omega
      have hbm : b * m < 256 := by unfold pow2 at hp; rcases hm with rfl | rfl <;> omega
      have m1 : IntKind.u8.wrap ((b : Nat) : Int) = (b : Int) := by rw [IntKind.wrap_u8]; omega
      have m2 : IntKind.u8.wrap ((b : Int) * (m : Int)) = (b : Int) * (m : Int) := by
        rw [IntKind.wrap_u8, show (b : Int) * (m : Int) = ((b * m : Nat) : Int) from (Int.natCast_mul _ _).symm]; omega
      have c1 : ∀ W, Calls Tryz.prog 126 #[.int .u8 (c : Int), .int .u8 ((b : Int) * (m : Int))] W fun e w' => e = .returned (.int .u8 (fm 285 c (b * m) : Nat)) ∧ w' = W := fun W => by
        have h := gmul_nat c (b * m) W hc hbm
        rw [Int.natCast_mul] at h
        exact h
      have ib : ((b : Nat) : Int) < 16 := by omega
      obtain ⟨P, hP⟩ : ∃ P, P = fm 285 c (b * m) := ⟨_, rfl⟩
      have HP : Hid (P = fm 285 c (b * m)) := hP
      have lP : P < 256 := by rw [hP]; exact fm8_lt _ _
      rw [← hP] at c1
      have HV : Hid (wr.heap.size = w.heap.size + 2 ∧ wr.heap[w.heap.size]? = some (.cells (halfRow c m 0) 247 (0, 0)) ∧ wr.heap[w.heap.size + 1]? = some (.cells (halfRow c m b) 247 (0, 0)) ∧ Below w.heap.size w wr ∧ pow2 b) := ⟨hsz, h0, h1, hB, hp⟩
      clear hsz h0 h1 hB hb hP hp
      go_wp2_with (go_at_call 126; ((with_reducible refine (c1 _).mono ?_); (rintro e w9 ⟨rfl, hw9⟩; have hw9 := hw9.symm; subst hw9)))
      go_loopw [20] (fun i wq => ∃ r : Nat, r ≤ b ∧ i = .int .i64 r ∧ wq.heap.size = w.heap.size + 2 ∧
        wq.heap[w.heap.size]? = some (.cells (halfRow c m 0) 247 (0, 0)) ∧ wq.heap[w.heap.size + 1]? = some (.cells (halfRow c m (b + r)) 247 (0, 0)) ∧ Below w.heap.size w wq) (fun i _ => 16 - (intOf i).toNat)
      case atStart => exact ⟨0, Nat.zero_le _, rfl, HV.out.1, HV.out.2.1, HV.out.2.2.1, HV.out.2.2.2.1⟩
      case round =>
        obtain ⟨r, hr, rfl, hsz, h0, h1, hB⟩ := hrel
        by_cases hrb : r < b
        · have hp := HV.out.2.2.2.2
          have hbr : b + r < 16 := by unfold pow2 at hp; omega
          have q1 := cell_of_row wr (w.heap.size + 1) r _ 247 (0, 0) h1
          have q2 := cell_of_row wr (w.heap.size + 1) (b + r) _ 247 (0, 0) h1
          rw [halfRow_get _ _ _ _ (by omega), if_pos (by omega)] at q1
          rw [halfRow_get _ _ _ _ hbr, if_neg (by omega)] at q2
          have z1 := frozen_of_row wr (w.heap.size + 1) (b + r) _ 247 h1
          have X := u8_xor_nat P (fm 285 c (r * m)) lP (fm8_lt _ _)
          rw [HP.out, half_step hp hm hrb, ← HP.out] at X
          obtain ⟨R, hR⟩ : ∃ R, R = fm 285 c (r * m) := ⟨_, rfl⟩
          rw [← hR] at q1 X
          obtain ⟨T, hT⟩ : ∃ T, T = fm 285 c ((b + r) * m) := ⟨_, rfl⟩
          rw [← hT] at X
          have new : (wr.setCell ⟨w.heap.size + 1, b + r, none⟩ (.int .u8 (T : Nat))).heap[w.heap.size + 1]? = some (.cells (halfRow c m (b + (r + 1))) 247 (0, 0)) := by
            rw [heap_setCell_same _ _ _ _ _ _ h1, hT, halfRow_set c m (b + r) hbr, Nat.add_assoc]
          have old : (wr.setCell ⟨w.heap.size + 1, b + r, none⟩ (.int .u8 (T : Nat))).heap[w.heap.size]? = some (.cells (halfRow c m 0) 247 (0, 0)) := by
            rw [heap_setCell_other _ _ _ _ (by simp)]; exact h0
          have HN : Hid ((wr.setCell ⟨w.heap.size + 1, b + r, none⟩ (.int .u8 (T : Nat))).heap.size = w.heap.size + 2 ∧ (wr.setCell ⟨w.heap.size + 1, b + r, none⟩ (.int .u8 (T : Nat))).heap[w.heap.size]? = some (.cells (halfRow c m 0) 247 (0, 0)) ∧ (wr.setCell ⟨w.heap.size + 1, b + r, none⟩ (.int .u8 (T : Nat))).heap[w.heap.size + 1]? = some (.cells (halfRow c m (b + (r + 1))) 247 (0, 0)) ∧ Below w.heap.size w (wr.setCell ⟨w.heap.size + 1, b + r, none⟩ (.int .u8 (T : Nat)))) := ⟨by simp [hsz], old, new, hB.setCell (by simp) _⟩
          have i1 : ((r : Nat) : Int) < 16 := by omega
          have i2 : ((r : Nat) : Int) < (b : Int) := by omega
          have i3 : (b : Int) + (r : Int) < 16 := by omega
          clear new old h0 h1 hB hsz hR hT hp
          go_wp2
          go_roundw
          case rel => exact ⟨r + 1, hrb, by go_num, HN.out.1, HN.out.2.1, HN.out.2.2.1, HN.out.2.2.2⟩
          case measure => simp [intOf]; omega
        · obtain rfl : r = b := by omega
          have hp := HV.out.2.2.2.2
          have h1' : wr.heap[w.heap.size + 1]? = some (.cells (halfRow c m (2 * r)) 247 (0, 0)) := by rw [Nat.two_mul]; exact h1
          have HN : Hid (wr.heap.size = w.heap.size + 2 ∧ wr.heap[w.heap.size]? = some (.cells (halfRow c m 0) 247 (0, 0)) ∧ wr.heap[w.heap.size + 1]? = some (.cells (halfRow c m (2 * r)) 247 (0, 0)) ∧ Below w.heap.size w wr ∧ (pow2 (2 * r) ∨ 2 * r = 16)) := ⟨hsz, h0, h1', hB, by unfold pow2 at *; omega⟩
          clear h0 h1 h1' hB hsz hp
          go_wp2
          go_roundw
          case rel => exact ⟨2 * r, HN.out.2.2.2.2, by go_num, HN.out.1, HN.out.2.1, HN.out.2.2.1, HN.out.2.2.2.1⟩
          case measure =>
            have := HV.out.2.2.2.2
            unfold pow2 at this
            simp [intOf]; omega
    · have hb6 : b = 16 := by unfold pow2 at hb; omega
      subst hb6
      have i53 : (Tryz.prog.info? 247).map (·.size) = some (halfRow c m 16).size := by rw [halfRow_size]; exact info_half
      have o53 : (halfRow c m 0).size = (halfRow c m 16).size := by rw [halfRow_size, halfRow_size]
      go_wp2_with (first | (refine wpList_load_row rfl 247 _ rfl (w.heap.size + 1) rfl 247 _ (0, 0) _ h1 Tryz.underlying247 rfl i53 ?_) | (refine wpList_store_row rfl 247 _ _ rfl w.heap.size (halfRow c m 16) rfl rfl 247 _ h0 i53 o53 (halfRow_all c m 16) ?_))
      refine bodyPost_ret (v := .agg (halfRow c m 16)) ?_ rfl ⟨rfl, ?_⟩
      · exact results_cell_row (P := Tryz.prog) (fn := Tryz.f192) rfl _ _ w.heap.size 247 (halfRow c m 16) (0, 0) _ rfl (setRow_heap _ _ _ _ _ _ h0) Tryz.underlying247 rfl i53
      · exact below_setRow hB (Nat.le_refl _) _
end Go.Proofs.YtefolifecbhgoaaGreat
namespace Go.Proofs.YtefolifecbhgoaaGreat
open Go.RowKit Gf2
set_option linter.unusedVariables false

theorem results_two_rows {P : Program} {fn : Func} {p q : Tmp} {ty : TypeId} (h : fn.results = #[.cell p ty, .cell q ty]) (tmps : Array Value) (w : World) (g g' : Nat) (t t' : TypeId) (cs ds : Array Value) (fr fr' : Nat × Nat) (d : TypeDesc)
    (hp : tmps.getD p undef = .pointer (some ⟨g, 0, none⟩)) (hq : tmps.getD q undef = .pointer (some ⟨g', 0, none⟩)) (hg : w.heap[g]? = some (.cells cs t fr)) (hg' : w.heap[g']? = some (.cells ds t' fr'))
    (hu : P.underlying ty = some d) (hd : (match d with | .struct _ | .array _ _ => true | _ => false) = true) (hi : (P.info? ty).map (·.size) = some cs.size) (hi' : (P.info? ty).map (·.size) = some ds.size) :
    (results fn tmps).run P w = .ok (.tuple #[.agg cs, .agg ds]) w := by
  have hp' : tmps[p]?.getD undef = .pointer (some ⟨g, 0, none⟩) := by simpa using hp
  have hq' : tmps[q]?.getD undef = .pointer (some ⟨g', 0, none⟩) := by simpa using hq
  simp [results, h, hp', hq', asAddr, run_loadVar_row w g t ty cs fr d hg hu hd hi, run_loadVar_row w g' t' ty ds fr' d hg' hu hd hi']

theorem two_blocks {w w1 w2 : World} {A B : Obj} (hb1 : Below ((w.alloc A).alloc B).heap.size ((w.alloc A).alloc B) w1) (hb2 : Below w1.heap.size w1 w2) :
    w2.heap[w.heap.size]? = some A ∧ w2.heap[w.heap.size + 1]? = some B ∧ Below w.heap.size w w2 := by
  have hs : ((w.alloc A).alloc B).heap.size = w.heap.size + 2 := by simp
  have h1 := hb1.size
  refine ⟨?_, ?_, ?_⟩
  · rw [hb2.block _ (by omega), hb1.block _ (by omega), heap_alloc2_old]
  · rw [hb2.block _ (by omega), hb1.block _ (by omega), heap_alloc2_new]
  · exact ((((Below.refl _ _).alloc (Nat.le_refl _) _).alloc (by simp) _).trans (hb1.mono (by omega))).trans (hb2.mono (by omega))

set_option maxHeartbeats 2000000 in
set_option maxRecDepth 100000 in
theorem nhalf_nat (c : Nat) (w : World) (hc : c < 256) :
    Calls Tryz.prog 191 #[.int .u8 (c : Int)] w fun e w' => e = .returned (.tuple #[.agg (halfRow c 1 16), .agg (halfRow c 16 16)]) ∧ Below w.heap.size w w' := by
  have c1 : ∀ W, Calls Tryz.prog 192 #[.int .u8 (c : Int), .int .u8 1] W fun e w' => e = .returned (.agg (halfRow c 1 16)) ∧ Below W.heap.size W w' := fun W => multiples_nat c 1 W hc (Or.inl rfl)
  have c2 : ∀ W, Calls Tryz.prog 192 #[.int .u8 (c : Int), .int .u8 16] W fun e w' => e = .returned (.agg (halfRow c 16 16)) ∧ Below W.heap.size W w' := fun W => multiples_nat c 16 W hc (Or.inr rfl)
  obtain ⟨Z, hZ⟩ : ∃ Z, Z = halfRow 0 1 0 := ⟨_, rfl⟩
  obtain ⟨L, hL⟩ : ∃ L, L = halfRow c 1 16 := ⟨_, rfl⟩
  obtain ⟨H, hH⟩ : ∃ H, H = halfRow c 16 16 := ⟨_, rfl⟩
  have sZ : Z.size = 16 := by rw [hZ, halfRow_size]
  have sL : L.size = 16 := by rw [hL, halfRow_size]
  have sH : H.size = 16 := by rw [hH, halfRow_size]
  have aL : L.all (·.oneCell') = true := by rw [hL]; exact halfRow_all _ _ _
  have aH : H.all (·.oneCell') = true := by rw [hH]; exact halfRow_all _ _ _
  have iL : (Tryz.prog.info? 247).map (·.size) = some L.size := by rw [sL]; exact info_half
  have iH : (Tryz.prog.info? 247).map (·.size) = some H.size := by rw [sH]; exact info_half
  have oL : Z.size = L.size := by rw [sZ, sL]
  have oH : Z.size = H.size := by rw [sZ, sH]
  have eZ : (List.replicate 16 (Value.int .u8 0)).toArray = Z := by rw [hZ, halfRow_zero]
  rw [← hL, ← hH]
  rw [← hL] at c1
  rw [← hH] at c2
  clear hL hH hZ sZ sL sH
  go_enter Tryz.func191, Tryz.ntmps191
  go_wp2_with (first | (go_at_call 192; first | ((with_reducible refine (c1 _).mono ?_); rintro e w1 ⟨rfl, hb1⟩) | ((with_reducible refine (c2 _).mono ?_); rintro e w2 ⟨rfl, hb2⟩; obtain ⟨g1, g2, g3⟩ := two_blocks hb1 hb2; have k1 : w2.heap[w.heap.size]? = some (.cells Z 247 (0, 0)) := (by rw [← eZ]; exact g1); have k2 : w2.heap[w.heap.size + 1]? = some (.cells Z 247 (0, 0)) := (by rw [← eZ]; exact g2); clear hb1 hb2 g1 g2)) | (refine wpList_store_row rfl 247 _ _ rfl w.heap.size L rfl rfl 247 Z k1 iL oL aL ?_) | (refine wpList_store_row rfl 247 _ _ rfl (w.heap.size + 1) H rfl rfl 247 Z ((setRow_other _ _ _ _ (Nat.succ_ne_self _)).trans k2) iH oH aH ?_))
  have k2' := (setRow_other w2 w.heap.size (w.heap.size + 1) L (Nat.succ_ne_self _)).trans k2
  refine bodyPost_ret (v := .tuple #[.agg L, .agg H]) ?_ rfl ⟨rfl, ?_⟩
  · exact results_two_rows (P := Tryz.prog) (fn := Tryz.f191) rfl _ _ w.heap.size (w.heap.size + 1) 247 247 L H (0, 0) (0, 0) _ rfl rfl ((setRow_other _ _ _ _ (Nat.succ_ne_self _).symm).trans (setRow_heap _ _ _ _ _ _ k1)) (setRow_heap _ _ _ _ _ _ k2') Tryz.underlying247 rfl iL iH
  · exact below_setRow (below_setRow g3 (Nat.le_refl _) _) (by simp) _
end Go.Proofs.YtefolifecbhgoaaGreat
namespace Go.Proofs.YtefolifecbhgoaaGreat
open Go.RowKit Gf2
set_option linter.unusedVariables false

def Nk (w : World) (p : Addr) (lo hi : Nat) : Prop := lo ≤ hi ∧ hi ≤ w.heap.size
theorem Nk.hi {w : World} {p : Addr} {lo hi : Nat} (h : Nk w p lo hi) : hi ≤ w.heap.size := h.2
theorem Nk.keep {w w' : World} {p : Addr} {lo hi : Nat} (h : Nk w p lo hi) (hs : hi ≤ w'.heap.size) (hb : ∀ b, lo ≤ b → b < hi → w'.heap[b]? = w.heap[b]?) : Nk w' p lo hi := ⟨h.1, hs⟩

set_option maxHeartbeats 2000000 in
theorem unfit_ok (p : Addr) (n : Nat) (a x : Option Addr) (ca cx : Nat) (w : World) :
    Calls Tryz.prog 190 #[.pointer (some p), .slice a n ca, .slice x n cx] w fun e w' => e = .returned (.int .i64 0) ∧ w' = w := by
  go_enter Tryz.func190, Tryz.ntmps190
  go_wp2
  go_ret
  exact ⟨rfl, rfl⟩
set_option maxHeartbeats 2000000 in
theorem nnew_any (w : World) :
    Calls Tryz.prog 48 #[] w fun e w' => ∃ p, e = .returned (.pointer (some p)) ∧ Nk w' p w.heap.size w'.heap.size ∧ Below w.heap.size w w' := by
  go_enter Tryz.func48, Tryz.ntmps48
  go_wp2
  go_ret
  refine ⟨_, rfl, ⟨?_, Nat.le_refl _⟩, ?_⟩
  · simp
  · exact (Below.refl _ _).alloc (Nat.le_refl _) _
end Go.Proofs.YtefolifecbhgoaaGreat
namespace Go.Proofs.YtefolifecbhgoaaGreat
open Go.RowKit Gf2
set_option linter.unusedVariables false

theorem half_split (c s : Nat) (hs : s < 256) : fm 285 c (s % 16 * 1) ^^^ fm 285 c (s / 16 * 16) = fm 285 c s := by
  have key : ∀ s, s < 256 → (s % 16 * 1) ^^^ (s / 16 * 16) = s := by decide +kernel
  rw [← fld8.fm_xor, key s hs]
theorem half_and (s : Nat) (hs : s < 256) : bits .and .u8 (s : Int) 15 = ((s % 16 : Nat) : Int) := by
  have h := u8_and_nat s 15 hs (by decide)
  have e : s &&& 15 = s % 16 := Nat.and_two_pow_sub_one_eq_mod s 4
  rw [e] at h
  exact h
def Two (c b : Nat) (w : World) : Prop := w.heap[b]? = some (.cells (halfRow c 1 16) 247 (0, 0)) ∧ w.heap[b + 1]? = some (.cells (halfRow c 16 16) 247 (0, 0))
theorem Two.lo {c b : Nat} {w : World} (h : Two c b w) {j : Nat} (hj : j < 16) : w.cell? ⟨b, j, none⟩ = some (.int .u8 (fm 285 c (j * 1) : Nat)) := by
  rw [cell_of_row w b j _ _ _ h.1, halfRow_get _ _ _ _ hj, if_pos hj]
theorem Two.up {c b : Nat} {w : World} (h : Two c b w) {j : Nat} (hj : j < 16) : w.cell? ⟨b + 1, j, none⟩ = some (.int .u8 (fm 285 c (j * 16) : Nat)) := by
  rw [cell_of_row w (b + 1) j _ _ _ h.2, halfRow_get _ _ _ _ hj, if_pos hj]
theorem Two.keep {c b g : Nat} {w w' : World} (h : Two c b w) (hk : Kp g w w') (hg : g < b) : Two c b w' := by
  have l1 := (Array.getElem?_eq_some_iff.1 h.1).1
  have l2 := (Array.getElem?_eq_some_iff.1 h.2).1
  exact ⟨(hk.2 b l1 (by omega)).trans h.1, (hk.2 (b + 1) l2 (by omega)).trans h.2⟩
theorem Two.drew {c b : Nat} {w : World} (h : Two c b w) : Two c b w.drew := h
theorem two_laid {c g N : Nat} {F : Nat → Nat} {w w1 : World} {A B : Array Value} (hb : Below w.heap.size w w1) (hR : Rw w g N F) :
    Two c w1.heap.size (((((w1.alloc (.cells A 247)).alloc (.cells B 247)).setRow w1.heap.size (halfRow c 1 16))).setRow (w1.heap.size + 1) (halfRow c 16 16)) ∧
    Kp g w (((((w1.alloc (.cells A 247)).alloc (.cells B 247)).setRow w1.heap.size (halfRow c 1 16))).setRow (w1.heap.size + 1) (halfRow c 16 16)) ∧
    Rw (((((w1.alloc (.cells A 247)).alloc (.cells B 247)).setRow w1.heap.size (halfRow c 1 16))).setRow (w1.heap.size + 1) (halfRow c 16 16)) g N F := by
  have h1 := heap_alloc2_old w1 (.cells A 247) (.cells B 247)
  have h2 := heap_alloc2_new w1 (.cells A 247) (.cells B 247)
  have b : Below w.heap.size w (((((w1.alloc (.cells A 247)).alloc (.cells B 247)).setRow w1.heap.size (halfRow c 1 16))).setRow (w1.heap.size + 1) (halfRow c 16 16)) :=
    below_setRow (below_setRow ((hb.alloc hb.size _).alloc (by have := hb.size; simp; omega) _) hb.size _) (by have := hb.size; omega) _
  refine ⟨⟨?_, ?_⟩, kp_below b g, rw_below hR b⟩
  · rw [setRow_other _ _ _ _ (Nat.succ_ne_self _).symm]
    exact setRow_heap _ _ _ _ _ _ h1
  · exact setRow_heap _ _ _ _ _ _ ((setRow_other _ _ _ _ (Nat.succ_ne_self _)).trans h2)

end Go.Proofs.YtefolifecbhgoaaGreat
namespace Go.Proofs.YtefolifecbhgoaaGreat
open Go.RowKit Gf2
set_option linter.unusedVariables false

set_option maxHeartbeats 4000000 in
set_option maxRecDepth 100000 in
theorem nadd_gen (p : Addr) (lo hi c n g o N : Nat) (F : Nat → Nat) (rd : (Nat → Nat) → Nat → Nat) (a x : Option Addr) (ca cx : Nat) (w : World) (hk : Nk w p lo hi) (hc : c < 256) (hn : n ≤ big) (hg : g < lo ∨ hi ≤ g)
    (hR : Rw w g N F) (hd : 0 < n → a = some ⟨g, o, none⟩ ∧ o + n ≤ N) (hx : 0 < n → Rdk w g N n x rd) :
    Calls Tryz.prog 189 #[.pointer (some p), .int .u8 (c : Int), .slice a n ca, .slice x n cx] w fun e w' => e = .returned (.int .i64 0) ∧ Kp g w w' ∧ Rw w' g N (goes (fun d s => d ^^^ fm 285 c s) o rd F n) := by
  have hgl := hR.lt
  have u1 := fun W => unfit_ok p n a x ca cx W
  have u2 := nhalf_nat c w hc
  have iL : (Tryz.prog.info? 247).map (·.size) = some (halfRow c 1 16).size := by rw [halfRow_size]; exact info_half
  have iH : (Tryz.prog.info? 247).map (·.size) = some (halfRow c 16 16).size := by rw [halfRow_size]; exact info_half
  have aL := halfRow_all c 1 16
  have aH := halfRow_all c 16 16
  have sL : Hid (16 = (halfRow c 1 16).size) := (halfRow_size _ _ _).symm
  have sH : Hid (16 = (halfRow c 16 16).size) := (halfRow_size _ _ _).symm
  have TL : Hid (∀ w1 A B, Below w.heap.size w w1 → Two c w1.heap.size (((((w1.alloc (.cells A 247)).alloc (.cells B 247)).setRow w1.heap.size (halfRow c 1 16))).setRow (w1.heap.size + 1) (halfRow c 16 16)) ∧
    Kp g w (((((w1.alloc (.cells A 247)).alloc (.cells B 247)).setRow w1.heap.size (halfRow c 1 16))).setRow (w1.heap.size + 1) (halfRow c 16 16)) ∧
    Rw (((((w1.alloc (.cells A 247)).alloc (.cells B 247)).setRow w1.heap.size (halfRow c 1 16))).setRow (w1.heap.size + 1) (halfRow c 16 16)) g N F) := fun w1 A B hb => two_laid hb hR
  by_cases h0 : 0 < n
  · obtain ⟨rfl, hoN⟩ := hd h0
    obtain ⟨h, q, rfl, hrd⟩ := hx h0
    have c1 : Hid (∀ w' G, Kp g w w' → Rw w' g N G → ∀ i, i < n → rd G i < 256 ∧ w'.cell? ⟨h, q + i, none⟩ = some (.int .u8 (rd G i : Nat))) := hrd
    obtain ⟨L, hL⟩ : ∃ L, L = halfRow c 1 16 := ⟨_, rfl⟩
    obtain ⟨H, hH⟩ : ∃ H, H = halfRow c 16 16 := ⟨_, rfl⟩
    rw [← hL, ← hH] at u2 TL
    rw [← hL] at iL aL sL
    rw [← hH] at iH aH sH
    have HN : Hid (n ≤ big) := hn
    clear hrd hn hc hL hH hk hg
    go_enter Tryz.func189, Tryz.ntmps189
    go_wp2_with (first | (go_at_call 190; (with_reducible refine (u1 _).mono ?_); rintro e w9 ⟨rfl, hw9⟩; have hw9 := hw9.symm; subst hw9) | (go_at_call 191; (with_reducible refine u2.mono ?_); rintro e w1 ⟨rfl, hb1⟩) | (refine wpList_store_row rfl 247 _ _ rfl w1.heap.size L rfl rfl 247 _ (heap_alloc2_old _ _ _) iL sL.out aL ?_) | (refine wpList_store_row rfl 247 _ _ rfl (w1.heap.size + 1) H rfl rfl 247 _ ((setRow_other _ _ _ _ (Nat.succ_ne_self _)).trans (heap_alloc2_new _ _ _)) iH sH.out aH ?_))
    go_loopw [28] (fun i wr => ∃ k : Nat, k ≤ n ∧ i = .int .i64 k ∧ Kp g w wr ∧ Two c w1.heap.size wr ∧ Rw wr g N (goes (fun d s => d ^^^ fm 285 c s) o rd F k)) (fun i _ => n - (intOf i).toNat)
    case atStart =>
      obtain ⟨t1, t2, t3⟩ := TL.out w1 _ _ hb1
      exact ⟨0, Nat.zero_le _, rfl, t2, t1, t3⟩
    case round =>
      obtain ⟨k, hk, rfl, ho, ht, hr⟩ := hrel
      by_cases hlt : k < n
      · obtain ⟨G, hG⟩ : ∃ G, G = goes (fun d s => d ^^^ fm 285 c s) o rd F k := ⟨_, rfl⟩
        rw [← hG] at hr
        obtain ⟨ls, qs⟩ := c1.out wr G ho hr k hlt
        obtain ⟨s, hs⟩ : ∃ s, s = rd G k := ⟨_, rfl⟩
        rw [← hs] at ls qs
        have ql := ht.lo (j := s % 16) (by omega)
        have qh := ht.up (j := s / 16) (by omega)
        have X := u8_xor_nat (fm 285 c (s % 16 * 1)) (fm 285 c (s / 16 * 16)) (fm8_lt _ _) (fm8_lt _ _)
        rw [half_split c s ls] at X
        obtain ⟨U, hU⟩ : ∃ U, U = fm 285 c (s % 16 * 1) := ⟨_, rfl⟩
        obtain ⟨V, hV⟩ : ∃ V, V = fm 285 c (s / 16 * 16) := ⟨_, rfl⟩
        rw [← hU] at ql X
        rw [← hV] at qh X
        have A1 := half_and s ls
        have A2 : (s : Int) / 16 = ((s / 16 : Nat) : Int) := by omega
        have q1 := hr.2.2.cell (i := o + k) (by omega)
        have q2 := hr.2.2.frozen (o + k)
        have lf : G (o + k) ^^^ fm 285 c s < 256 := Nat.xor_lt_two_pow (n := 8) (hr.2.1 _ (by omega)) (fm8_lt _ _)
        have X2 := u8_xor_nat (G (o + k)) (fm 285 c s) (hr.2.1 _ (by omega)) (fm8_lt _ _)
        have new : Rw (wr.setCell ⟨g, o + k, none⟩ (.int .u8 (G (o + k) ^^^ fm 285 c s : Nat))) g N (goes (fun d s => d ^^^ fm 285 c s) o rd F (k + 1)) := by
          refine ⟨hr.1, fun i hi => ?_, (hr.2.2.set (o + k) _).congr (fun i hi => ?_)⟩
          · unfold goes
            rw [← hG, ← hs]
            split
            · exact lf
            · exact hr.2.1 i hi
          · unfold goes
            rw [← hG, ← hs]
            by_cases e : i = o + k
            · rw [if_pos e, if_pos e]
            · rw [if_neg e, if_neg e]
        have k1 : Kp g wr (wr.setCell ⟨g, o + k, none⟩ (.int .u8 (G (o + k) ^^^ fm 285 c s : Nat))) := (Kp.refl g wr).setCell _ _
        have HP : Hid (Kp g w (wr.setCell ⟨g, o + k, none⟩ (.int .u8 (G (o + k) ^^^ fm 285 c s : Nat))) ∧ Two c w1.heap.size (wr.setCell ⟨g, o + k, none⟩ (.int .u8 (G (o + k) ^^^ fm 285 c s : Nat))) ∧ Rw (wr.setCell ⟨g, o + k, none⟩ (.int .u8 (G (o + k) ^^^ fm 285 c s : Nat))) g N (goes (fun d s => d ^^^ fm 285 c s) o rd F (k + 1))) := ⟨ho.setCell _ _, ht.keep k1 (Nat.lt_of_lt_of_le hgl hb1.size), new⟩
        have ib : ((k : Nat) : Int) < (n : Int) := by omega
        have i1 : ((s % 16 : Nat) : Int) < 16 := by omega
        have i2 : ((s / 16 : Nat) : Int) < 16 := by omega
        have W1 := wrap_succ8 (j := k) (Nat.lt_of_lt_of_le hlt HN.out)
        obtain ⟨T, hT⟩ : ∃ T, T = fm 285 c s := ⟨_, rfl⟩
        rw [← hT] at X X2 HP
        obtain ⟨E, hE⟩ : ∃ E, E = G (o + k) ^^^ T := ⟨_, rfl⟩
        rw [← hE] at X2 HP
        obtain ⟨sl, hsl⟩ : ∃ sl, sl = s % 16 := ⟨_, rfl⟩
        obtain ⟨sh, hsh⟩ : ∃ sh, sh = s / 16 := ⟨_, rfl⟩
        rw [← hsl] at A1 i1 ql
        rw [← hsh] at A2 i2 qh
        clear new hr ho ht hG hs hR hd hx lf k1 hU hV hT hE TL hsl hsh
        go_wp2
        refine region_tail8 14 (by kernel_rfl) (by kernel_rfl) ?_
        simp only [List.take_succ_cons, List.take_zero, List.drop_succ_cons, List.drop_zero]
        repeat still_step
        refine wpStill_nil ?_
        go_wp2
        go_roundw
        case rel => exact ⟨k + 1, hlt, by first | rfl | (rw [W1]; rfl), HP.out.1.drew, HP.out.2.1.drew, HP.out.2.2.1, HP.out.2.2.2.1, HP.out.2.2.2.2.drew⟩
        case measure => first | exact meas_lt8 hlt | (rw [W1]; exact meas_lt8 hlt)
      · have hkn : k = n := by omega
        subst hkn
        clear hx hd TL
        go_wp2
        go_ret
        exact ⟨rfl, ho, hr⟩
  · have hn0 : n = 0 := by omega
    subst hn0
    obtain ⟨L, hL⟩ : ∃ L, L = halfRow c 1 16 := ⟨_, rfl⟩
    obtain ⟨H, hH⟩ : ∃ H, H = halfRow c 16 16 := ⟨_, rfl⟩
    rw [← hL, ← hH] at u2 TL
    rw [← hL] at iL aL sL
    rw [← hH] at iH aH sH
    clear hn hc hL hH hk hg hd hx
    go_enter Tryz.func189, Tryz.ntmps189
    go_wp2_with (first | (go_at_call 190; (with_reducible refine (u1 _).mono ?_); rintro e w9 ⟨rfl, hw9⟩; have hw9 := hw9.symm; subst hw9) | (go_at_call 191; (with_reducible refine u2.mono ?_); rintro e w1 ⟨rfl, hb1⟩) | (refine wpList_store_row rfl 247 _ _ rfl w1.heap.size L rfl rfl 247 _ (heap_alloc2_old _ _ _) iL sL.out aL ?_) | (refine wpList_store_row rfl 247 _ _ rfl (w1.heap.size + 1) H rfl rfl 247 _ ((setRow_other _ _ _ _ (Nat.succ_ne_self _)).trans (heap_alloc2_new _ _ _)) iH sH.out aH ?_))
    refine wp_loop_rounds 1 ?_
    rw [rounds_succ]
    go_wp2
    go_ret
    obtain ⟨t1, t2, t3⟩ := TL.out w1 _ _ hb1
    exact ⟨rfl, t2, t3⟩
end Go.Proofs.YtefolifecbhgoaaGreat
namespace Go.Proofs.YtefolifecbhgoaaGreat.Gf2
set_option linter.unusedVariables false

def wdk (c w : Nat) : Nat → Nat
  | 0 => 0
  | k + 1 => wdk c w k + fm 285 c (w / 256 ^ k % 256) * 256 ^ k
def wbs (S : Nat → Nat) : Nat → Nat
  | 0 => 0
  | k + 1 => wbs S k + S k * 256 ^ k

theorem bit_lt (x b : Nat) : x / 2 ^ b % 2 < 2 := Nat.mod_lt _ (by decide)
theorem bit_top (a x k j : Nat) (ha : a < 2 ^ k) (hx : x < 2) : (a + x * 2 ^ k) / 2 ^ j % 2 = if j < k then a / 2 ^ j % 2 else if j = k then x else 0 := by
  by_cases h : j < k
  · rw [if_pos h]
    obtain ⟨d, rfl⟩ : ∃ d, k = j + 1 + d := ⟨k - (j + 1), by omega⟩
    have e : x * 2 ^ (j + 1 + d) = 2 ^ j * (2 * (x * 2 ^ d)) := by
      rw [Nat.pow_add, Nat.pow_succ]
      simp only [Nat.mul_assoc, Nat.mul_left_comm, Nat.mul_comm]
    rw [e, Nat.add_mul_div_left _ _ (Nat.two_pow_pos j), Nat.add_mul_mod_self_left]
  · rw [if_neg h]
    by_cases e : j = k
    · subst e
      rw [if_pos rfl, Nat.add_mul_div_right _ _ (Nat.two_pow_pos j), Nat.div_eq_of_lt ha, Nat.zero_add, Nat.mod_eq_of_lt hx]
    · rw [if_neg e]
      have h2 : a + x * 2 ^ k < 2 ^ j := by
        have hp : 2 ^ (k + 1) ≤ 2 ^ j := Nat.pow_le_pow_right (by decide) (by omega)
        rw [Nat.pow_succ] at hp
        rcases Nat.lt_or_ge x 1 with h1 | h1
        · have : x = 0 := by omega
          rw [this]; omega
        · have : x = 1 := by omega
          rw [this]; omega
      rw [Nat.div_eq_of_lt h2]
theorem bits_ext {x y : Nat} (h : ∀ j, x / 2 ^ j % 2 = y / 2 ^ j % 2) : x = y := by
  apply Nat.eq_of_testBit_eq
  intro j
  simp only [Nat.testBit_eq_decide_div_mod_eq, h j]
theorem xor_bit (x y j : Nat) : (x ^^^ y) / 2 ^ j % 2 = (x / 2 ^ j % 2 + y / 2 ^ j % 2) % 2 := by
  have h := Nat.testBit_xor x y j
  simp only [Nat.testBit_eq_decide_div_mod_eq] at h
  have h1 := bit_lt x j
  have h2 := bit_lt y j
  have h3 := bit_lt (x ^^^ y) j
  rcases (show x / 2 ^ j % 2 = 0 ∨ x / 2 ^ j % 2 = 1 by omega) with a | a <;> rcases (show y / 2 ^ j % 2 = 0 ∨ y / 2 ^ j % 2 = 1 by omega) with b | b <;> simp [a, b] at h ⊢ <;> omega
theorem fm_low (c x : Nat) : ∀ t, fm 285 c (x % 2 ^ (t + 1)) = fm 285 c (x % 2 ^ t) ^^^ (if x / 2 ^ t % 2 = 1 then fm 285 c (2 ^ t) else 0) := by
  intro t
  have e : x % 2 ^ (t + 1) = (x % 2 ^ t) ^^^ (x / 2 ^ t % 2 * 2 ^ t) := by
    apply bits_ext
    intro j
    have hl : x % 2 ^ t < 2 ^ t := Nat.mod_lt _ (Nat.two_pow_pos t)
    have s : x % 2 ^ (t + 1) = x % 2 ^ t + x / 2 ^ t % 2 * 2 ^ t := by
      rw [Nat.pow_succ, Nat.mod_mul, Nat.mul_comm]
    rw [s, bit_top _ _ _ _ hl (bit_lt _ _), xor_bit]
    have z := bit_top 0 (x / 2 ^ t % 2) t j (Nat.two_pow_pos t) (bit_lt _ _)
    rw [Nat.zero_add] at z
    rw [z]
    by_cases h : j < t
    · rw [if_pos h, if_pos h]; simp
    · have z2 : x % 2 ^ t / 2 ^ j % 2 = 0 := by
        rw [Nat.div_eq_of_lt (Nat.lt_of_lt_of_le hl (Nat.pow_le_pow_right (by decide) (by omega)))]
      rw [if_neg h, if_neg h, z2, Nat.zero_add]
      split
      · omega
      · rfl
  rw [e, fld8.fm_xor]
  congr 1
  have := bit_lt x t
  split
  · next h => rw [h, Nat.one_mul]
  · next h => rw [show x / 2 ^ t % 2 = 0 by omega, Nat.zero_mul, fld8.fm_zero]
theorem wbs_lt {S : Nat → Nat} : ∀ {k : Nat}, (∀ j, j < k → S j < 256) → wbs S k < 256 ^ k
  | 0, _ => by simp [wbs]
  | k + 1, h => by
    have h1 := wbs_lt (fun j hj => h j (by omega) : ∀ j, j < k → S j < 256)
    have h2 := h k (by omega)
    have h3 : S k * 256 ^ k ≤ 255 * 256 ^ k := Nat.mul_le_mul_right _ (by omega)
    unfold wbs
    rw [Nat.pow_succ]
    omega
theorem byte_top (a x k j : Nat) (ha : a < 256 ^ k) (hx : x < 256) : (a + x * 256 ^ k) / 256 ^ j % 256 = if j < k then a / 256 ^ j % 256 else if j = k then x else 0 := by
  have pos : ∀ m, 0 < 256 ^ m := fun m => Nat.pow_pos (by decide)
  by_cases h : j < k
  · rw [if_pos h]
    obtain ⟨d, rfl⟩ : ∃ d, k = j + 1 + d := ⟨k - (j + 1), by omega⟩
    have e : x * 256 ^ (j + 1 + d) = 256 ^ j * (256 * (x * 256 ^ d)) := by
      rw [Nat.pow_add, Nat.pow_succ]
      simp only [Nat.mul_assoc, Nat.mul_left_comm, Nat.mul_comm]
    rw [e, Nat.add_mul_div_left _ _ (pos j), Nat.add_mul_mod_self_left]
  · rw [if_neg h]
    by_cases e : j = k
    · subst e
      rw [if_pos rfl, Nat.add_mul_div_right _ _ (pos j), Nat.div_eq_of_lt ha, Nat.zero_add, Nat.mod_eq_of_lt hx]
    · rw [if_neg e]
      have h2 : a + x * 256 ^ k < 256 ^ j := by
        have hp : 256 ^ (k + 1) ≤ 256 ^ j := Nat.pow_le_pow_right (by decide) (by omega)
        rw [Nat.pow_succ] at hp
        have h3 : x * 256 ^ k ≤ 255 * 256 ^ k := Nat.mul_le_mul_right _ (by omega)
        omega
      rw [Nat.div_eq_of_lt h2]
theorem wbs_byte {S : Nat → Nat} : ∀ {k : Nat}, (∀ j, j < k → S j < 256) → ∀ j, j < k → wbs S k / 256 ^ j % 256 = S j
  | 0, _, j, hj => absurd hj (Nat.not_lt_zero _)
  | k + 1, h, j, hj => by
    have h1 : ∀ j, j < k → S j < 256 := fun j hj => h j (by omega)
    unfold wbs
    rw [byte_top _ _ _ _ (wbs_lt h1) (h k (by omega))]
    by_cases e : j < k
    · rw [if_pos e, wbs_byte h1 j e]
    · rw [if_neg e, if_pos (by omega), show j = k by omega]
theorem wdk_wbs {c : Nat} {S : Nat → Nat} (h : ∀ j, j < 8 → S j < 256) : ∀ k, k ≤ 8 → wdk c (wbs S 8) k = wbs (fun j => fm 285 c (S j)) k
  | 0, _ => rfl
  | k + 1, hk => by
    show wdk c (wbs S 8) k + fm 285 c (wbs S 8 / 256 ^ k % 256) * 256 ^ k = wbs (fun j => fm 285 c (S j)) k + fm 285 c (S k) * 256 ^ k
    rw [wdk_wbs h k (by omega), wbs_byte h k (by omega)]
theorem wdk_lt (c w : Nat) : ∀ k, wdk c w k < 256 ^ k
  | 0 => by simp [wdk]
  | k + 1 => by
    have h1 := wdk_lt c w k
    have h2 : fm 285 c (w / 256 ^ k % 256) < 256 := fld8.fm_lt _ _
    have h3 : fm 285 c (w / 256 ^ k % 256) * 256 ^ k ≤ 255 * 256 ^ k := Nat.mul_le_mul_right _ (by omega)
    unfold wdk
    rw [Nat.pow_succ]
    omega
theorem or_top {a x k : Nat} (ha : a < 256 ^ k) : a ||| x * 256 ^ k = a + x * 256 ^ k := by
  have e : 256 ^ k = 2 ^ (8 * k) := by rw [Nat.pow_mul]
  rw [e] at ha ⊢
  rw [Nat.or_comm, Nat.mul_comm, Nat.add_comm, Nat.two_pow_add_eq_or_of_lt ha]
end Go.Proofs.YtefolifecbhgoaaGreat.Gf2

namespace Go.Proofs.YtefolifecbhgoaaGreat.Gf2
set_option linter.unusedVariables false

theorem xor_top2 {a b x y k : Nat} (ha : a < 2 ^ k) (hb : b < 2 ^ k) : (a + x * 2 ^ k) ^^^ (b + y * 2 ^ k) = (a ^^^ b) + (x ^^^ y) * 2 ^ k := by
  have hc : a ^^^ b < 2 ^ k := Nat.xor_lt_two_pow ha hb
  rw [Nat.add_comm a, Nat.add_comm b, Nat.add_comm (a ^^^ b), Nat.mul_comm x, Nat.mul_comm y, Nat.mul_comm (x ^^^ y)]
  apply Nat.eq_of_testBit_eq
  intro j
  rw [Nat.testBit_xor, Nat.testBit_two_pow_mul_add _ ha, Nat.testBit_two_pow_mul_add _ hb, Nat.testBit_two_pow_mul_add _ hc]
  split <;> simp
theorem and_top2 {a b x y k : Nat} (ha : a < 2 ^ k) (hb : b < 2 ^ k) : (a + x * 2 ^ k) &&& (b + y * 2 ^ k) = (a &&& b) + (x &&& y) * 2 ^ k := by
  have hc : a &&& b < 2 ^ k := Nat.and_lt_two_pow _ hb
  rw [Nat.add_comm a, Nat.add_comm b, Nat.add_comm (a &&& b), Nat.mul_comm x, Nat.mul_comm y, Nat.mul_comm (x &&& y)]
  apply Nat.eq_of_testBit_eq
  intro j
  rw [Nat.testBit_and, Nat.testBit_two_pow_mul_add _ ha, Nat.testBit_two_pow_mul_add _ hb, Nat.testBit_two_pow_mul_add _ hc]
  split <;> simp
theorem p256 (k : Nat) : 256 ^ k = 2 ^ (8 * k) := by rw [Nat.pow_mul]
theorem xor_wbs {S T : Nat → Nat} : ∀ {k : Nat}, (∀ j, j < k → S j < 256) → (∀ j, j < k → T j < 256) → wbs S k ^^^ wbs T k = wbs (fun j => S j ^^^ T j) k
  | 0, _, _ => by simp [wbs]
  | k + 1, h, g => by
    have a := wbs_lt (fun j hj => h j (by omega) : ∀ j, j < k → S j < 256)
    have b := wbs_lt (fun j hj => g j (by omega) : ∀ j, j < k → T j < 256)
    show (wbs S k + S k * 256 ^ k) ^^^ (wbs T k + T k * 256 ^ k) = wbs (fun j => S j ^^^ T j) k + (S k ^^^ T k) * 256 ^ k
    rw [p256] at a b ⊢
    rw [xor_top2 a b, xor_wbs (fun j hj => h j (by omega)) (fun j hj => g j (by omega))]
theorem and_wbs {S T : Nat → Nat} : ∀ {k : Nat}, (∀ j, j < k → S j < 256) → (∀ j, j < k → T j < 256) → wbs S k &&& wbs T k = wbs (fun j => S j &&& T j) k
  | 0, _, _ => by simp [wbs]
  | k + 1, h, g => by
    have a := wbs_lt (fun j hj => h j (by omega) : ∀ j, j < k → S j < 256)
    have b := wbs_lt (fun j hj => g j (by omega) : ∀ j, j < k → T j < 256)
    show (wbs S k + S k * 256 ^ k) &&& (wbs T k + T k * 256 ^ k) = wbs (fun j => S j &&& T j) k + (S k &&& T k) * 256 ^ k
    rw [p256] at a b ⊢
    rw [and_top2 a b, and_wbs (fun j hj => h j (by omega)) (fun j hj => g j (by omega))]
theorem wbs_mul (S : Nat → Nat) (f : Nat) : ∀ k, wbs S k * f = wbs (fun j => S j * f) k
  | 0 => by simp [wbs]
  | k + 1 => by
    show (wbs S k + S k * 256 ^ k) * f = wbs (fun j => S j * f) k + S k * f * 256 ^ k
    rw [Nat.add_mul, wbs_mul S f k, Nat.mul_right_comm]
theorem wbs_congr {S T : Nat → Nat} : ∀ {k : Nat}, (∀ j, j < k → S j = T j) → wbs S k = wbs T k
  | 0, _ => rfl
  | k + 1, h => by
    unfold wbs
    rw [wbs_congr (fun j hj => h j (by omega) : ∀ j, j < k → S j = T j), h k (by omega)]
theorem wbs_digits (x : Nat) : ∀ k, wbs (fun j => x / 256 ^ j % 256) k = x % 256 ^ k
  | 0 => by simp [wbs, Nat.mod_one]
  | k + 1 => by
    show wbs (fun j => x / 256 ^ j % 256) k + x / 256 ^ k % 256 * 256 ^ k = x % 256 ^ (k + 1)
    rw [wbs_digits x k, Nat.pow_succ, Nat.mod_mul, Nat.mul_comm (256 ^ k)]
theorem wdk_is (c w : Nat) : ∀ k, wdk c w k = wbs (fun j => fm 285 c (w / 256 ^ j % 256)) k
  | 0 => rfl
  | k + 1 => by
    unfold wdk wbs
    rw [wdk_is c w k]
theorem low_mask : (72340172838076673 : Nat) = wbs (fun _ => 1) 8 := by decide
theorem mask_is {x : Nat} (hx : x < 18446744073709551616) : x &&& 72340172838076673 = wbs (fun j => x / 256 ^ j % 2) 8 := by
  have e : x = wbs (fun j => x / 256 ^ j % 256) 8 := by rw [wbs_digits, Nat.mod_eq_of_lt]; exact hx
  have h : ∀ j, j < 8 → x / 256 ^ j % 256 < 256 := fun j _ => Nat.mod_lt _ (by decide)
  rw [low_mask]
  conv => lhs; lhs; rw [e]
  rw [and_wbs h (fun _ _ => by decide)]
  exact wbs_congr (fun j _ => by rw [Nat.and_one_is_mod, Nat.mod_mod_of_dvd _ (by decide)])
def msk (w b : Nat) : Nat := (w / 2 ^ b) &&& 72340172838076673
theorem msk_is {w b : Nat} (hw : w < 18446744073709551616) (hb : b < 8) : msk w b = wbs (fun j => w / 256 ^ j % 256 / 2 ^ b % 2) 8 := by
  unfold msk
  rw [mask_is (Nat.lt_of_le_of_lt (Nat.div_le_self _ _) hw)]
  refine wbs_congr (fun j _ => ?_)
  rw [Nat.div_div_eq_div_mul, Nat.mul_comm, ← Nat.div_div_eq_div_mul]
  generalize w / 256 ^ j = v
  rcases (show b = 0 ∨ b = 1 ∨ b = 2 ∨ b = 3 ∨ b = 4 ∨ b = 5 ∨ b = 6 ∨ b = 7 by omega) with rfl | rfl | rfl | rfl | rfl | rfl | rfl | rfl <;> simp only [Nat.reducePow] <;> omega
theorem bitmul_lt {f : Nat} (hf : f < 256) (x : Nat) : x % 2 * f < 256 := by
  rcases (show x % 2 = 0 ∨ x % 2 = 1 by omega) with h | h <;> rw [h] <;> omega
theorem msk_mul {w b f : Nat} (hw : w < 18446744073709551616) (hb : b < 8) : msk w b * f = wbs (fun j => w / 256 ^ j % 256 / 2 ^ b % 2 * f) 8 := by
  rw [msk_is hw hb, wbs_mul]
theorem msk_mul_lt {w b f : Nat} (hw : w < 18446744073709551616) (hb : b < 8) (hf : f < 256) : msk w b * f < 18446744073709551616 := by
  rw [msk_mul hw hb]
  exact wbs_lt (k := 8) (fun j _ => bitmul_lt hf _)
theorem fm_bits (c : Nat) {y : Nat} (hy : y < 256) : fm 285 c y = y / 2 ^ 0 % 2 * fm 285 c (2 ^ 0) ^^^ y / 2 ^ 1 % 2 * fm 285 c (2 ^ 1) ^^^ y / 2 ^ 2 % 2 * fm 285 c (2 ^ 2) ^^^ y / 2 ^ 3 % 2 * fm 285 c (2 ^ 3) ^^^ y / 2 ^ 4 % 2 * fm 285 c (2 ^ 4) ^^^ y / 2 ^ 5 % 2 * fm 285 c (2 ^ 5) ^^^ y / 2 ^ 6 % 2 * fm 285 c (2 ^ 6) ^^^ y / 2 ^ 7 % 2 * fm 285 c (2 ^ 7) := by
  have s : ∀ t, fm 285 c (y % 2 ^ (t + 1)) = fm 285 c (y % 2 ^ t) ^^^ y / 2 ^ t % 2 * fm 285 c (2 ^ t) := fun t => by
    rw [fm_low]
    congr 1
    have := bit_lt y t
    split
    · next h => rw [h, Nat.one_mul]
    · next h => rw [show y / 2 ^ t % 2 = 0 by omega, Nat.zero_mul]
  have e : y % 2 ^ 8 = y := Nat.mod_eq_of_lt hy
  conv => lhs; rw [← e]
  rw [s 7, s 6, s 5, s 4, s 3, s 2, s 1, s 0]
  rw [show y % 2 ^ 0 = 0 by simp [Nat.mod_one], fld8.fm_zero, Nat.zero_xor]
theorem word_is {c w : Nat} (hw : w < 18446744073709551616) :
    msk w 0 * fm 285 c (2 ^ 0) ^^^ msk w 1 * fm 285 c (2 ^ 1) ^^^ msk w 2 * fm 285 c (2 ^ 2) ^^^ msk w 3 * fm 285 c (2 ^ 3) ^^^ msk w 4 * fm 285 c (2 ^ 4) ^^^ msk w 5 * fm 285 c (2 ^ 5) ^^^ msk w 6 * fm 285 c (2 ^ 6) ^^^ msk w 7 * fm 285 c (2 ^ 7) = wdk c w 8 := by
  have l : ∀ b j, w / 256 ^ j % 256 / 2 ^ b % 2 * fm 285 c (2 ^ b) < 256 := fun b j => bitmul_lt (fld8.fm_lt _ _) _
  have x8 : ∀ {a b : Nat}, a < 256 → b < 256 → a ^^^ b < 256 := fun h g => Nat.xor_lt_two_pow (n := 8) h g
  rw [msk_mul hw (by decide), msk_mul hw (by decide), msk_mul hw (by decide), msk_mul hw (by decide), msk_mul hw (by decide), msk_mul hw (by decide), msk_mul hw (by decide), msk_mul hw (by decide)]
  have k1 : ∀ j, w / 256 ^ j % 256 / 2 ^ 0 % 2 * fm 285 c (2 ^ 0) ^^^ w / 256 ^ j % 256 / 2 ^ 1 % 2 * fm 285 c (2 ^ 1) < 256 := fun j => x8 (l 0 j) (l 1 j)
  have k2 := fun j => x8 (k1 j) (l 2 j)
  have k3 := fun j => x8 (k2 j) (l 3 j)
  have k4 := fun j => x8 (k3 j) (l 4 j)
  have k5 := fun j => x8 (k4 j) (l 5 j)
  have k6 := fun j => x8 (k5 j) (l 6 j)
  rw [xor_wbs (fun j _ => l 0 j) (fun j _ => l 1 j), xor_wbs (fun j _ => k1 j) (fun j _ => l 2 j), xor_wbs (fun j _ => k2 j) (fun j _ => l 3 j), xor_wbs (fun j _ => k3 j) (fun j _ => l 4 j), xor_wbs (fun j _ => k4 j) (fun j _ => l 5 j), xor_wbs (fun j _ => k5 j) (fun j _ => l 6 j), xor_wbs (fun j _ => k6 j) (fun j _ => l 7 j)]
  rw [wdk_is]
  exact wbs_congr (fun j _ => (fm_bits c (Nat.mod_lt _ (by decide))).symm)
theorem wdk_low (c w : Nat) : wdk c w 8 % 256 = fm 285 c (w % 256) := by
  rw [wdk_is]
  have h := wbs_byte (S := fun j => fm 285 c (w / 256 ^ j % 256)) (k := 8) (fun j _ => fld8.fm_lt _ _) 0 (by decide)
  simpa using h
end Go.Proofs.YtefolifecbhgoaaGreat.Gf2

namespace Go.Proofs.YtefolifecbhgoaaGreat
open Go.RowKit Gf2
set_option linter.unusedVariables false

theorem one8 (k : Nat) (hk : k < 8) : IntKind.u8.wrap (2 ^ k) = ((2 ^ k : Nat) : Int) := by
  have hp : 2 ^ k ≤ 2 ^ 7 := Nat.pow_le_pow_right (by decide) (by omega)
  have z : ((2 : Int) ^ k) = ((2 ^ k : Nat) : Int) := by rw [Int.natCast_pow]; rfl
  rw [z, IntKind.wrap_u8]
  generalize 2 ^ k = P at hp ⊢
  have : (2 : Nat) ^ 7 = 128 := by decide
  omega
theorem pow256 (j : Nat) (hj : j < 8) : 255 * 256 ^ j + 256 ^ j ≤ 18446744073709551616 := by
  have h : 256 ^ (j + 1) ≤ 256 ^ 8 := Nat.pow_le_pow_right (by decide) (by omega)
  rw [Nat.pow_succ] at h
  have : (256 : Nat) ^ 8 = 18446744073709551616 := by decide
  omega
theorem region_still7 {P : Program} {id : Nat} {Q : Exit → Act → World → Prop} {a : Act} {w : World} {l : List Oper} (hm : P.follows .mixedOrders = true) (hB : Region.lexB .any l.toArray = true)
    (h : wpStill P l.toArray w.drew (fun a' => Q .normal a' w.drew) l a) : (Code.region id l.toArray true).wp P Q a w := wp_region_still_lit hm hB h
end Go.Proofs.YtefolifecbhgoaaGreat
namespace Go.Proofs.YtefolifecbhgoaaGreat
open Go.RowKit Gf2
set_option linter.unusedVariables false

def colRow (c k : Nat) : Array Value := ((List.range 8).map fun j => Value.int .u64 (if j < k then ((fm 285 c (2 ^ j) : Nat) : Int) else 0)).toArray
theorem colRow_size (c k : Nat) : (colRow c k).size = 8 := by simp [colRow]
theorem colRow_get (c k j : Nat) (h : j < 8) : (colRow c k)[j]? = some (Value.int .u64 (if j < k then ((fm 285 c (2 ^ j) : Nat) : Int) else 0)) := by
  simp [colRow, h]
theorem colRow_zero (c : Nat) : colRow c 0 = (List.replicate 8 (Value.int .u64 0)).toArray := by
  apply Array.ext_getElem?
  intro j
  by_cases h : j < 8
  · rw [colRow_get _ _ _ h, List.getElem?_toArray, List.getElem?_replicate, if_pos h]; simp
  · rw [Array.getElem?_eq_none (by rw [colRow_size]; omega), Array.getElem?_eq_none (by simp; omega)]
theorem colRow_set (c k : Nat) (h : k < 8) : (colRow c k).setIfInBounds k (Value.int .u64 ((fm 285 c (2 ^ k) : Nat) : Int)) = colRow c (k + 1) := by
  apply Array.ext_getElem?
  intro j
  by_cases hj : j < 8
  · rw [colRow_get _ _ _ hj, Array.getElem?_setIfInBounds]
    by_cases e : k = j
    · subst e
      rw [if_pos rfl, if_pos (by rw [colRow_size]; exact h), if_pos (by omega)]
    · rw [if_neg e, colRow_get _ _ _ hj]
      by_cases h1 : j < k
      · rw [if_pos h1, if_pos (by omega)]
      · rw [if_neg h1, if_neg (by omega)]
  · rw [Array.getElem?_eq_none (by simp [colRow_size]; omega), Array.getElem?_eq_none (by rw [colRow_size]; omega)]
theorem colRow_all (c k : Nat) : (colRow c k).all (·.oneCell') = true := by
  rw [Array.all_eq_true_iff_forall_mem]
  intro v hv
  simp [colRow] at hv
  obtain ⟨j, -, rfl⟩ := hv
  rfl
theorem info_col : (Tryz.prog.info? 253).map (·.size) = some 8 := by kernel_rfl
def Cb (c b : Nat) (w : World) : Prop := w.heap[b]? = some (.cells (colRow c 8) 253 (0, 0))
theorem Cb.lt {c b : Nat} {w : World} (h : Cb c b w) : b < w.heap.size := (Array.getElem?_eq_some_iff.1 h).1
theorem Cb.cell {c b : Nat} {w : World} (h : Cb c b w) {j : Nat} (hj : j < 8) : w.cell? ⟨b, j, none⟩ = some (.int .u64 (fm 285 c (2 ^ j) : Nat)) := by
  rw [cell_of_row w b j _ _ _ h, colRow_get _ _ _ hj, if_pos hj]
theorem Cb.keep {c b g : Nat} {w w' : World} (h : Cb c b w) (hk : Kp g w w') (hg : g ≠ b) : Cb c b w' := (hk.2 b h.lt (fun e => hg e.symm)).trans h
theorem Cb.drew {c b : Nat} {w : World} (h : Cb c b w) : Cb c b w.drew := h

set_option maxHeartbeats 2000000 in
set_option maxRecDepth 100000 in
theorem colsOf_nat (c : Nat) (w : World) (hc : c < 256) :
    Calls Tryz.prog 197 #[.int .u8 (c : Int)] w fun e w' => e = .returned (.agg (colRow c 8)) ∧ Below w.heap.size w w' := by
  have HC : Hid (c < 256) := hc
  clear hc
  go_enter Tryz.func197, Tryz.ntmps197
  go_wp2
  go_loopw [5] (fun i wr => ∃ b : Nat, b ≤ 8 ∧ i = .int .i64 b ∧ wr.heap.size = w.heap.size + 2 ∧
      wr.heap[w.heap.size]? = some (.cells (colRow c 0) 253 (0, 0)) ∧ wr.heap[w.heap.size + 1]? = some (.cells (colRow c b) 253 (0, 0)) ∧ Below w.heap.size w wr) (fun i _ => 8 - (intOf i).toNat)
  case atStart =>
    refine ⟨0, by decide, rfl, by simp, ?_, ?_, ((Below.refl _ _).alloc (Nat.le_refl _) _).alloc (by simp) _⟩
    · rw [heap_alloc2_old, colRow_zero]; rfl
    · rw [heap_alloc2_new, colRow_zero]; rfl
  case round =>
    obtain ⟨b, hb, rfl, hsz, h0, h1, hB⟩ := hrel
    by_cases hlt : b < 8
    · have i1 : ((b : Nat) : Int) < 8 := by omega
      have hp : 2 ^ b ≤ 128 := by have := Nat.pow_le_pow_right (n := 2) (by decide) (show b ≤ 7 by omega); simpa using this
      have e1 := one8 b hlt
      have cM := fun W => gmul_nat c (2 ^ b) W HC.out (by omega)
      have q2 := cell_of_row wr (w.heap.size + 1) b _ 253 (0, 0) h1
      rw [colRow_get _ _ _ hlt, if_neg (by omega)] at q2
      have z1 := frozen_of_row wr (w.heap.size + 1) b _ 253 h1
      have lv : fm 285 c (2 ^ b) < 256 := fm8_lt _ _
      have E2 : IntKind.u64.wrap ((fm 285 c (2 ^ b) : Nat) : Int) = ((fm 285 c (2 ^ b) : Nat) : Int) := by rw [IntKind.wrap_u64]; omega
      have new : (wr.setCell ⟨w.heap.size + 1, b, none⟩ (.int .u64 (fm 285 c (2 ^ b) : Nat))).heap[w.heap.size + 1]? = some (.cells (colRow c (b + 1)) 253 (0, 0)) := by
        rw [heap_setCell_same _ _ _ _ _ _ h1, colRow_set c b hlt]
      have old : (wr.setCell ⟨w.heap.size + 1, b, none⟩ (.int .u64 (fm 285 c (2 ^ b) : Nat))).heap[w.heap.size]? = some (.cells (colRow c 0) 253 (0, 0)) := by
        rw [heap_setCell_other _ _ _ _ (by simp)]; exact h0
      have HN : Hid ((wr.setCell ⟨w.heap.size + 1, b, none⟩ (.int .u64 (fm 285 c (2 ^ b) : Nat))).heap.size = w.heap.size + 2 ∧ (wr.setCell ⟨w.heap.size + 1, b, none⟩ (.int .u64 (fm 285 c (2 ^ b) : Nat))).heap[w.heap.size]? = some (.cells (colRow c 0) 253 (0, 0)) ∧ (wr.setCell ⟨w.heap.size + 1, b, none⟩ (.int .u64 (fm 285 c (2 ^ b) : Nat))).heap[w.heap.size + 1]? = some (.cells (colRow c (b + 1)) 253 (0, 0)) ∧ Below w.heap.size w (wr.setCell ⟨w.heap.size + 1, b, none⟩ (.int .u64 (fm 285 c (2 ^ b) : Nat)))) := ⟨by simp [hsz], old, new, hB.setCell (by simp) _⟩
      obtain ⟨v, hv⟩ : ∃ v, v = fm 285 c (2 ^ b) := ⟨_, rfl⟩
      rw [← hv] at cM HN E2 lv
      obtain ⟨P, hP⟩ : ∃ P : Nat, P = 2 ^ b := ⟨_, rfl⟩
      rw [← hP] at e1 cM
      clear new old h0 h1 hB hsz hv hP hp hb
      go_wp2_with (go_at_call 126; ((with_reducible refine (cM _).mono ?_); rintro e w9 ⟨rfl, hw9⟩; have hw9 := hw9.symm; subst hw9))
      go_roundw
      case rel => exact ⟨b + 1, hlt, by go_num, HN.out.1, HN.out.2.1, HN.out.2.2.1, HN.out.2.2.2⟩
      case measure => simp [intOf]; omega
    · have hb8 : b = 8 := by omega
      subst hb8
      have i53 : (Tryz.prog.info? 253).map (·.size) = some (colRow c 8).size := by rw [colRow_size]; exact info_col
      have o53 : (colRow c 0).size = (colRow c 8).size := by rw [colRow_size, colRow_size]
      go_wp2_with (first | (refine wpList_load_row rfl 253 _ rfl (w.heap.size + 1) rfl 253 _ (0, 0) _ h1 Tryz.underlying253 rfl i53 ?_) | (refine wpList_store_row rfl 253 _ _ rfl w.heap.size (colRow c 8) rfl rfl 253 _ h0 i53 o53 (colRow_all c 8) ?_))
      refine bodyPost_ret (v := .agg (colRow c 8)) ?_ rfl ⟨rfl, ?_⟩
      · exact results_cell_row (P := Tryz.prog) (fn := Tryz.f197) rfl _ _ w.heap.size 253 (colRow c 8) (0, 0) _ rfl (setRow_heap _ _ _ _ _ _ h0) Tryz.underlying253 rfl i53
      · exact below_setRow hB (Nat.le_refl _) _
end Go.Proofs.YtefolifecbhgoaaGreat
namespace Go.Proofs.YtefolifecbhgoaaGreat
open Go.RowKit Gf2
set_option linter.unusedVariables false

theorem msk_int (x b : Nat) (hx : x < 18446744073709551616) : bits .and .u64 ((x / 2 ^ b : Nat) : Int) 72340172838076673 = ((msk x b : Nat) : Int) :=
  u64_and_nat (x / 2 ^ b) 72340172838076673 (Nat.lt_of_le_of_lt (Nat.div_le_self _ _) hx) (by decide)
theorem mul_int (m f : Nat) (h : m * f < 18446744073709551616) : IntKind.u64.wrap ((m : Int) * (f : Int)) = ((m * f : Nat) : Int) := by
  rw [show (m : Int) * (f : Int) = ((m * f : Nat) : Int) from (Int.natCast_mul _ _).symm, IntKind.wrap_u64]; omega
theorem xor64_lt {a b : Nat} (ha : a < 18446744073709551616) (hb : b < 18446744073709551616) : a ^^^ b < 18446744073709551616 := Nat.xor_lt_two_pow (n := 64) ha hb

set_option maxHeartbeats 4000000 in
set_option maxRecDepth 100000 in
theorem word_nat (c x b : Nat) (w : World) (hb : Cb c b w) (hx : x < 18446744073709551616) :
    Calls Tryz.prog 200 #[.pointer (some ⟨b, 0, none⟩), .int .u64 (x : Int)] w fun e w' => e = .returned (.int .u64 (wdk c x 8 : Nat)) ∧ w' = w.drew := by
  have HW := word_is (c := c) (w := x) hx
  have q0 := hb.cell (j := 0) (by decide)
  have lf0 : fm 285 c (2 ^ 0) < 256 := fm8_lt _ _
  have lp0 := msk_mul_lt (w := x) (b := 0) hx (by decide) lf0
  have W0 := mul_int _ _ lp0
  have A0 := msk_int x 0 hx
  rw [Nat.pow_zero, Nat.div_one] at A0
  have q1 := hb.cell (j := 1) (by decide)
  have lf1 : fm 285 c (2 ^ 1) < 256 := fm8_lt _ _
  have lp1 := msk_mul_lt (w := x) (b := 1) hx (by decide) lf1
  have W1 := mul_int _ _ lp1
  have A1 := msk_int x 1 hx
  have D1 : (x : Int) / 2 = ((x / 2 ^ 1 : Nat) : Int) := by rw [Int.natCast_ediv]; rfl
  have q2 := hb.cell (j := 2) (by decide)
  have lf2 : fm 285 c (2 ^ 2) < 256 := fm8_lt _ _
  have lp2 := msk_mul_lt (w := x) (b := 2) hx (by decide) lf2
  have W2 := mul_int _ _ lp2
  have A2 := msk_int x 2 hx
  have D2 : (x : Int) / 4 = ((x / 2 ^ 2 : Nat) : Int) := by rw [Int.natCast_ediv]; rfl
  have q3 := hb.cell (j := 3) (by decide)
  have lf3 : fm 285 c (2 ^ 3) < 256 := fm8_lt _ _
  have lp3 := msk_mul_lt (w := x) (b := 3) hx (by decide) lf3
  have W3 := mul_int _ _ lp3
  have A3 := msk_int x 3 hx
  have D3 : (x : Int) / 8 = ((x / 2 ^ 3 : Nat) : Int) := by rw [Int.natCast_ediv]; rfl
  have q4 := hb.cell (j := 4) (by decide)
  have lf4 : fm 285 c (2 ^ 4) < 256 := fm8_lt _ _
  have lp4 := msk_mul_lt (w := x) (b := 4) hx (by decide) lf4
  have W4 := mul_int _ _ lp4
  have A4 := msk_int x 4 hx
  have D4 : (x : Int) / 16 = ((x / 2 ^ 4 : Nat) : Int) := by rw [Int.natCast_ediv]; rfl
  have q5 := hb.cell (j := 5) (by decide)
  have lf5 : fm 285 c (2 ^ 5) < 256 := fm8_lt _ _
  have lp5 := msk_mul_lt (w := x) (b := 5) hx (by decide) lf5
  have W5 := mul_int _ _ lp5
  have A5 := msk_int x 5 hx
  have D5 : (x : Int) / 32 = ((x / 2 ^ 5 : Nat) : Int) := by rw [Int.natCast_ediv]; rfl
  have q6 := hb.cell (j := 6) (by decide)
  have lf6 : fm 285 c (2 ^ 6) < 256 := fm8_lt _ _
  have lp6 := msk_mul_lt (w := x) (b := 6) hx (by decide) lf6
  have W6 := mul_int _ _ lp6
  have A6 := msk_int x 6 hx
  have D6 : (x : Int) / 64 = ((x / 2 ^ 6 : Nat) : Int) := by rw [Int.natCast_ediv]; rfl
  have q7 := hb.cell (j := 7) (by decide)
  have lf7 : fm 285 c (2 ^ 7) < 256 := fm8_lt _ _
  have lp7 := msk_mul_lt (w := x) (b := 7) hx (by decide) lf7
  have W7 := mul_int _ _ lp7
  have A7 := msk_int x 7 hx
  have D7 : (x : Int) / 128 = ((x / 2 ^ 7 : Nat) : Int) := by rw [Int.natCast_ediv]; rfl
  obtain ⟨f0, hf0⟩ : ∃ f, f = fm 285 c (2 ^ 0) := ⟨_, rfl⟩
  rw [← hf0] at HW q0 lp0 W0
  obtain ⟨m0, hm0⟩ : ∃ m, m = msk x 0 := ⟨_, rfl⟩
  rw [← hm0] at HW lp0 W0 A0
  obtain ⟨p0, hp0⟩ : ∃ p, p = m0 * f0 := ⟨_, rfl⟩
  rw [← hp0] at HW lp0 W0
  obtain ⟨f1, hf1⟩ : ∃ f, f = fm 285 c (2 ^ 1) := ⟨_, rfl⟩
  rw [← hf1] at HW q1 lp1 W1
  obtain ⟨m1, hm1⟩ : ∃ m, m = msk x 1 := ⟨_, rfl⟩
  rw [← hm1] at HW lp1 W1 A1
  obtain ⟨p1, hp1⟩ : ∃ p, p = m1 * f1 := ⟨_, rfl⟩
  rw [← hp1] at HW lp1 W1
  obtain ⟨y1, hy1⟩ : ∃ y, y = x / 2 ^ 1 := ⟨_, rfl⟩
  rw [← hy1] at A1 D1
  obtain ⟨f2, hf2⟩ : ∃ f, f = fm 285 c (2 ^ 2) := ⟨_, rfl⟩
  rw [← hf2] at HW q2 lp2 W2
  obtain ⟨m2, hm2⟩ : ∃ m, m = msk x 2 := ⟨_, rfl⟩
  rw [← hm2] at HW lp2 W2 A2
  obtain ⟨p2, hp2⟩ : ∃ p, p = m2 * f2 := ⟨_, rfl⟩
  rw [← hp2] at HW lp2 W2
  obtain ⟨y2, hy2⟩ : ∃ y, y = x / 2 ^ 2 := ⟨_, rfl⟩
  rw [← hy2] at A2 D2
  obtain ⟨f3, hf3⟩ : ∃ f, f = fm 285 c (2 ^ 3) := ⟨_, rfl⟩
  rw [← hf3] at HW q3 lp3 W3
  obtain ⟨m3, hm3⟩ : ∃ m, m = msk x 3 := ⟨_, rfl⟩
  rw [← hm3] at HW lp3 W3 A3
  obtain ⟨p3, hp3⟩ : ∃ p, p = m3 * f3 := ⟨_, rfl⟩
  rw [← hp3] at HW lp3 W3
  obtain ⟨y3, hy3⟩ : ∃ y, y = x / 2 ^ 3 := ⟨_, rfl⟩
  rw [← hy3] at A3 D3
  obtain ⟨f4, hf4⟩ : ∃ f, f = fm 285 c (2 ^ 4) := ⟨_, rfl⟩
  rw [← hf4] at HW q4 lp4 W4
  obtain ⟨m4, hm4⟩ : ∃ m, m = msk x 4 := ⟨_, rfl⟩
  rw [← hm4] at HW lp4 W4 A4
  obtain ⟨p4, hp4⟩ : ∃ p, p = m4 * f4 := ⟨_, rfl⟩
  rw [← hp4] at HW lp4 W4
  obtain ⟨y4, hy4⟩ : ∃ y, y = x / 2 ^ 4 := ⟨_, rfl⟩
  rw [← hy4] at A4 D4
  obtain ⟨f5, hf5⟩ : ∃ f, f = fm 285 c (2 ^ 5) := ⟨_, rfl⟩
  rw [← hf5] at HW q5 lp5 W5
  obtain ⟨m5, hm5⟩ : ∃ m, m = msk x 5 := ⟨_, rfl⟩
  rw [← hm5] at HW lp5 W5 A5
  obtain ⟨p5, hp5⟩ : ∃ p, p = m5 * f5 := ⟨_, rfl⟩
  rw [← hp5] at HW lp5 W5
  obtain ⟨y5, hy5⟩ : ∃ y, y = x / 2 ^ 5 := ⟨_, rfl⟩
  rw [← hy5] at A5 D5
  obtain ⟨f6, hf6⟩ : ∃ f, f = fm 285 c (2 ^ 6) := ⟨_, rfl⟩
  rw [← hf6] at HW q6 lp6 W6
  obtain ⟨m6, hm6⟩ : ∃ m, m = msk x 6 := ⟨_, rfl⟩
  rw [← hm6] at HW lp6 W6 A6
  obtain ⟨p6, hp6⟩ : ∃ p, p = m6 * f6 := ⟨_, rfl⟩
  rw [← hp6] at HW lp6 W6
  obtain ⟨y6, hy6⟩ : ∃ y, y = x / 2 ^ 6 := ⟨_, rfl⟩
  rw [← hy6] at A6 D6
  obtain ⟨f7, hf7⟩ : ∃ f, f = fm 285 c (2 ^ 7) := ⟨_, rfl⟩
  rw [← hf7] at HW q7 lp7 W7
  obtain ⟨m7, hm7⟩ : ∃ m, m = msk x 7 := ⟨_, rfl⟩
  rw [← hm7] at HW lp7 W7 A7
  obtain ⟨p7, hp7⟩ : ∃ p, p = m7 * f7 := ⟨_, rfl⟩
  rw [← hp7] at HW lp7 W7
  obtain ⟨y7, hy7⟩ : ∃ y, y = x / 2 ^ 7 := ⟨_, rfl⟩
  rw [← hy7] at A7 D7
  have X1 := u64_xor_nat p0 p1 lp0 lp1
  have ls1 := xor64_lt lp0 lp1
  obtain ⟨s1, hs1⟩ : ∃ s, s = p0 ^^^ p1 := ⟨_, rfl⟩
  rw [← hs1] at X1 ls1 HW
  have X2 := u64_xor_nat s1 p2 ls1 lp2
  have ls2 := xor64_lt ls1 lp2
  obtain ⟨s2, hs2⟩ : ∃ s, s = s1 ^^^ p2 := ⟨_, rfl⟩
  rw [← hs2] at X2 ls2 HW
  have X3 := u64_xor_nat s2 p3 ls2 lp3
  have ls3 := xor64_lt ls2 lp3
  obtain ⟨s3, hs3⟩ : ∃ s, s = s2 ^^^ p3 := ⟨_, rfl⟩
  rw [← hs3] at X3 ls3 HW
  have X4 := u64_xor_nat s3 p4 ls3 lp4
  have ls4 := xor64_lt ls3 lp4
  obtain ⟨s4, hs4⟩ : ∃ s, s = s3 ^^^ p4 := ⟨_, rfl⟩
  rw [← hs4] at X4 ls4 HW
  have X5 := u64_xor_nat s4 p5 ls4 lp5
  have ls5 := xor64_lt ls4 lp5
  obtain ⟨s5, hs5⟩ : ∃ s, s = s4 ^^^ p5 := ⟨_, rfl⟩
  rw [← hs5] at X5 ls5 HW
  have X6 := u64_xor_nat s5 p6 ls5 lp6
  have ls6 := xor64_lt ls5 lp6
  obtain ⟨s6, hs6⟩ : ∃ s, s = s5 ^^^ p6 := ⟨_, rfl⟩
  rw [← hs6] at X6 ls6 HW
  have X7 := u64_xor_nat s6 p7 ls6 lp7
  have ls7 := xor64_lt ls6 lp7
  obtain ⟨s7, hs7⟩ : ∃ s, s = s6 ^^^ p7 := ⟨_, rfl⟩
  rw [← hs7] at X7 ls7 HW
  rw [← HW]
  clear HW lf0 lp0 hf0 hm0 hp0 lf1 lp1 hf1 hm1 hp1 lf2 lp2 hf2 hm2 hp2 lf3 lp3 hf3 hm3 hp3 lf4 lp4 hf4 hm4 hp4 lf5 lp5 hf5 hm5 hp5 lf6 lp6 hf6 hm6 hp6 lf7 lp7 hf7 hm7 hp7 ls1 hs1 hy1 ls2 hs2 hy2 ls3 hs3 hy3 ls4 hs4 hy4 ls5 hs5 hy5 ls6 hs6 hy6 ls7 hs7 hy7 hb hx
  go_enter Tryz.func200, Tryz.ntmps200
  go_wp2
  refine region_still7 (by kernel_rfl) (by kernel_rfl) ?_
  repeat still_step
  refine wpStill_nil ?_
  go_wp2
  go_ret
  exact ⟨rfl, rfl⟩

set_option maxHeartbeats 2000000 in
set_option maxRecDepth 100000 in
theorem one_nat (c x b : Nat) (w : World) (hb : Cb c b w) (hx : x < 256) :
    Calls Tryz.prog 202 #[.pointer (some ⟨b, 0, none⟩), .int .u8 (x : Int)] w fun e w' => e = .returned (.int .u8 (fm 285 c x : Nat)) ∧ w' = w.drew := by
  have c1 := word_nat c x b w hb (by omega)
  have E1 : IntKind.u64.wrap ((x : Nat) : Int) = (x : Int) := by rw [IntKind.wrap_u64]; omega
  have l := wdk_lt c x 8
  have e := wdk_low c x
  rw [Nat.mod_eq_of_lt hx] at e
  rw [← e]
  have E2 : IntKind.u8.wrap ((wdk c x 8 : Nat) : Int) = ((wdk c x 8 % 256 : Nat) : Int) := by rw [IntKind.wrap_u8]; omega
  obtain ⟨d, hd⟩ : ∃ d, d = wdk c x 8 := ⟨_, rfl⟩
  rw [← hd] at c1 E2 ⊢
  clear l e hd hb
  go_enter Tryz.func202, Tryz.ntmps202
  go_wp2_with (go_at_call 200; (with_reducible refine c1.mono ?_); rintro e w9 ⟨rfl, hw9⟩; have hw9 := hw9.symm; subst hw9)
  go_ret
  exact ⟨rfl, rfl⟩

theorem cb_laid {c : Nat} {w1 : World} {A : Array Value} : Cb c w1.heap.size ((w1.alloc (.cells A 253)).setRow w1.heap.size (colRow c 8)) :=
  setRow_heap _ _ _ _ _ _ (heap_alloc_new _ _)
end Go.Proofs.YtefolifecbhgoaaGreat
