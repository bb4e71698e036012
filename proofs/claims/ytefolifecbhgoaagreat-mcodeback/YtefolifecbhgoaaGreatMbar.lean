import Derived.Test.YtefolifecbhgoaaGreatMbaq
import Derived.Deep.OwnRows
import Derived.Deep.RegionWith
namespace Go.Proofs.YtefolifecbhgoaaGreat
open Go.RowKit Gf2

theorem info_u8 : (Tryz.prog.info? 5).map (fun i => (i.zero, i.size, i.bytes)) = some (some (Value.int .u8 0), 1, 1) := by kernel_rfl
theorem below_drewN' {N : Nat} {a w : World} (h : Below N a w) (n : Nat) : Below N a (w.drewN n) := ⟨h.os, h.tape, h.output, h.size, h.block⟩

set_option maxHeartbeats 2000000 in
set_option maxRecDepth 100000 in
theorem trow_nat (t a : Nat) (w : World) (ht : Tab8 w t) (ha : a < 256) :
    Calls Tryz.prog 90 #[.pointer (some ⟨t, 0, none⟩), .int .u8 (a : Int)] w fun e w' => e = .returned (.slice (some ⟨w.heap.size, 0, none⟩) 256 256) ∧
      w'.rowIs w.heap.size 5 256 (fun x => .int .u8 (fm 285 a x : Nat)) ∧ Below w.heap.size w w' ∧ w'.heap.size = w.heap.size + 1 := by
  have hmk := run_make_row' (P := Tryz.prog) 27 5 (.int .u8 0) 1 Tryz.underlying27 info_u8 rfl .i64 .i64 256 (by decide) (by decide)
  have hmk : ∀ w, (Instr.makeSlice 27 (.int .i64 256) (.int .i64 256)).run Tryz.prog w = .ok (.slice (some ⟨w.heap.size, 0, none⟩) 256 256) (w.alloc (.cells (madeCells #[.int .u8 0] 256) 5)) := hmk
  go_enter Tryz.func90, Tryz.ntmps90
  go_wp2
  go_loopw [12] (fun i wr => ∃ k : Nat, k ≤ 256 ∧ i = .int .i64 k ∧ wr.heap.size = w.heap.size + 1 ∧
      wr.rowIs w.heap.size 5 256 (fun x => .int .u8 (if x < k then (fm 285 a x : Nat) else 0)) ∧ Below w.heap.size w wr) (fun i _ => 256 - (intOf i).toNat)
  case atStart =>
    refine ⟨0, by decide, rfl, by simp, ?_, (Below.refl _ _).alloc (Nat.le_refl _) _⟩
    exact (World.rowIs_made w (.int .u8 0) 256 5).congr (fun i _ => by simp)
  case round =>
    obtain ⟨k, hk, rfl, hsz, hr, hb⟩ := hrel
    by_cases hlt : k < 256
    · have htr : Tab8 wr t := ht.of_heap (hb.block t ht.lt)
      have c1 := tmul_nat t a k wr htr ha hlt
      have q := hr.cell hlt
      have f := hr.frozen k
      simp only [Nat.lt_irrefl, if_false] at q
      have HR : Hid (wr.heap.size = w.heap.size + 1 ∧ wr.rowIs w.heap.size 5 256 (fun x => .int .u8 (if x < k then (fm 285 a x : Nat) else 0))) := ⟨hsz, hr⟩
      clear hsz hr htr ht
      go_wp2_with (go_at_call 96; ((with_reducible refine (c1).mono ?_); rintro e w' ⟨rfl, m, rfl⟩))
      go_roundw
      case rel =>
        obtain ⟨g0, g1⟩ := HR.out
        refine ⟨k + 1, by omega, by go_num, by simp [g0], ?_, (below_drewN' hb _).setCell (by simp) _⟩
        refine (World.rowIs.set (w := wr.drewN m) (b := w.heap.size) g1 k _).congr (fun i hi => ?_)
        by_cases e : i = k
        · subst e; simp
        · by_cases e2 : i < k
          · simp [e, e2, show i < k + 1 by omega]
          · simp [e, e2, show ¬ i < k + 1 by omega]
      case measure => simp [intOf]; omega
    · have hk5 : k = 256 := by omega
      subst hk5
      go_wp2
      go_ret
      exact ⟨rfl, hr.congr (fun i hi => by simp [hi]), hb, hsz⟩
end Go.Proofs.YtefolifecbhgoaaGreat
namespace Go.Proofs.YtefolifecbhgoaaGreat
open Go.RowKit Gf2

def ti (a : Nat) : Nat := if a = 0 then 0 else fi 285 a
def te (a : Nat) : Nat := if a = 0 then 20 else 0
def td (a b : Nat) : Nat := if b = 0 then 0 else fm 285 a (fi 285 b)
def tl (a : Nat) : Nat := if a = 0 then 0 else l8 a
theorem ti_lt {a : Nat} (ha : a < 256) : ti a < 256 := by
  unfold ti; split
  · omega
  · next h => exact fi8_lt ha h
theorem td_lt (a b : Nat) : td a b < 256 := by
  unfold td; split
  · omega
  · exact fm8_lt _ _
theorem tinv_all (t a : Nat) (w : World) (ht : Tab8 w t) (ha : a < 256) :
    Calls Tryz.prog 93 #[.pointer (some ⟨t, 0, none⟩), .int .u8 (a : Int)] w fun e w' => e = .returned (.tuple #[.int .u8 (ti a : Nat), .int .i64 (te a : Nat)]) ∧ ∃ m, w' = w.drewN m := by
  by_cases h : a = 0
  · subst h; exact tinv_zero t w
  · unfold ti te; rw [if_neg h, if_neg h]; exact tinv_nat t a w ht ha h
theorem tdiv_all (t a b : Nat) (w : World) (ht : Tab8 w t) (ha : a < 256) (hb : b < 256) :
    Calls Tryz.prog 95 #[.pointer (some ⟨t, 0, none⟩), .int .u8 (a : Int), .int .u8 (b : Int)] w fun e w' => e = .returned (.tuple #[.int .u8 (td a b : Nat), .int .i64 (te b : Nat)]) ∧ ∃ m, w' = w.drewN m := by
  by_cases h : b = 0
  · subst h; exact tdiv_zero t a w
  · unfold td te; rw [if_neg h, if_neg h]; exact tdiv_nat t a b w ht ha hb h
theorem new_tab (w : World) :
    Calls Tryz.prog 89 #[] w fun e w' => e = .returned (.pointer (some ⟨w.heap.size, 0, none⟩)) ∧ ∃ w0 : World, w' = w0.drewN 0 ∧ w0.heap.size = w.heap.size + 1 ∧ Tab8 w0 w.heap.size ∧ Below w.heap.size w w0 :=
  (new_any w).mono fun _ w' ⟨h1, h2, h3, h4⟩ => ⟨h1, w', rfl, h2, h3, h4⟩
end Go.Proofs.YtefolifecbhgoaaGreat
