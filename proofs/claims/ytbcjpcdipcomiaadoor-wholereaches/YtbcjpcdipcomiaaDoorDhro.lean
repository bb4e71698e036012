import Derived.Test.YtbcjpcdipcomiaaDoorDhfr
import Derived.Test.YtbcjpcdipcomiaaDoorGfp
import Derived.Below
import Derived.Laws.Tables
import Derived.Laws.CopyOwn
import Derived.Deep.OwnRows
namespace Go.Proofs.YtbcjpcdipcomiaaDoor
open Go.RowKit Gf2

theorem zero_16 (w : World) : (zeroValue 56).run Tryd.prog w = .ok (.agg (Array.replicate 16 (Value.int .u16 0))) w := by
  kernel_rfl

theorem pow_lt16 {k : Nat} (h : k ≤ 15) : 2 ^ k < 65536 := by
  have : 2 ^ k ≤ 2 ^ 15 := Nat.pow_le_pow_right (by decide) h
  omega
theorem row_zero16 (w : World) (f : Nat → Nat) (hf : ∀ h, h < 16 → f h = 0) : (w.alloc (.cells (Array.replicate 16 (Value.int .u16 0)) 56)).rowIs w.heap.size 56 16 (fun h => .int .u16 (f h : Nat)) := by
  have h := World.rowIs_alloc w (Array.replicate 16 (Value.int .u16 0)) 56 (fun h => .int .u16 (f h : Nat)) (fun i hi => by
    rw [Array.size_replicate] at hi
    rw [Array.getElem?_replicate, if_pos hi, hf i hi]; rfl)
  rwa [Array.size_replicate] at h
theorem row_first (w : World) : ((w.alloc (.cells (Array.replicate 16 (Value.int .u16 0)) 56)).alloc (.cells (Array.replicate 16 (Value.int .u16 0)) 56)).rowIs w.heap.size 56 16 (fun h => .int .u16 (IM 0 h : Nat)) :=
  (row_zero16 w (IM 0) (fun h hh => (im_zero h hh).1)).alloc _
theorem row_second (w : World) : ((w.alloc (.cells (Array.replicate 16 (Value.int .u16 0)) 56)).alloc (.cells (Array.replicate 16 (Value.int .u16 0)) 56)).rowIs (w.heap.size + 1) 56 16 (fun h => .int .u16 (FR 0 h : Nat)) := by
  have h := row_zero16 (w.alloc (.cells (Array.replicate 16 (Value.int .u16 0)) 56)) (FR 0) (fun h hh => (im_zero h hh).2)
  simpa using h

end Go.Proofs.YtbcjpcdipcomiaaDoor
