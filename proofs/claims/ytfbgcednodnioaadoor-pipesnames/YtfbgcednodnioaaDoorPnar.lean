import Derived.Test.YtfbgcednodnioaaDoorPnaq
import Derived.Laws.BytesArg
import Derived.Laws.Concat
import Derived.Lib.ItoaLen
namespace Go.Proofs.YtfbgcednodnioaaDoor
open Go.RowKit Gf2 Go.Shelf
set_option linter.unusedVariables false

-- layer 22: the text of a failure
theorem grow_bel22 (w : World) (k : Nat) (os : Array Obj) : Below w.heap.size w (Sort.grow (w.drewN k) os) := by
  refine ⟨rfl, rfl, rfl, ?_, fun x hx => ?_⟩
  · show w.heap.size ≤ (w.heap ++ os).size
    rw [Array.size_append]; omega
  · show (w.heap ++ os)[x]? = w.heap[x]?
    rw [Array.getElem?_append_left hx]
theorem add22 (x y : Array UInt8) (hx : x.size ≤ 100) (hy : y.size ≤ 100) (W : World) : (Op.stringOp .add ⟨x⟩ ⟨y⟩).run Tryd.prog W = .ok (.string (⟨x⟩ ++ ⟨y⟩)) W := run_string_add_sum W ⟨x⟩ ⟨y⟩ (by show x.size + y.size ≤ _; omega)
/-- "broken " and the code. -/
def bt22 (code : Int) : Value := .string (⟨#[98, 114, 111, 107, 101, 110, 32]⟩ ++ ⟨(Lib.itoa code).toArray⟩)
set_option maxHeartbeats 2000000 in
set_option maxRecDepth 100000 in
theorem error22 (f : Nat) (code : Int) (h0 : -9223372036854775808 ≤ code) (h1 : code ≤ 9223372036854775807) (w : World) (h : w.heap[f]? = some (.cells #[.int .i64 code] 24 (0, 0))) (htab : Lib.TabIs Tryd.prog w "internal/strconv.uint64pow10" .u64 Lib.pow10Tab) :
    Calls Tryd.prog 14 #[.pointer (some ⟨f, 0, none⟩)] w fun e w' => e = .returned (bt22 code) ∧ Below w.heap.size w w' := by
  have z0 : w.cell? ⟨f, 0, none⟩ = some (.int .i64 code) := by simp [World.cell?, h]
  have hnil : ∀ W : World, Sem.run Tryd.prog (binOp BinOp.eql 22 (Value.pointer (some ⟨f, 0, none⟩)) (Value.pointer none)) W = .ok (.bool false) W := fun W => by kernel_rfl
  have c1 := itoa22 code h0 h1 w htab
  have S1 := add22 #[98, 114, 111, 107, 101, 110, 32] (Lib.itoa code).toArray (by decide) (by have := Lib.itoa_length_le code h0 h1; simp; omega)
  clear h0 h1 h htab
  go_enter Tryd.func14, Tryd.ntmps14
  go_wp2_with (go_at_call 32; (with_reducible refine c1.mono ?_); rintro e w1 ⟨rfl, k, os, hw1⟩; have HW : Hid _ := hw1; clear c1 hw1)
  go_ret
  exact ⟨rfl, by rw [HW.out]; exact grow_bel22 _ _ _⟩
set_option maxHeartbeats 2000000 in
set_option maxRecDepth 100000 in
theorem chr22 (X : World) (c : Nat) (hc : c < 256) (x : Int) (hx : x = (c : Int)) : (convert 41 9 (.slice (some ⟨X.heap.size, 0, none⟩) 1 1)).run Tryd.prog (X.alloc (.cells #[.int .u8 x] 5)) = .ok (.string ⟨#[UInt8.ofNat c]⟩) (X.alloc (.cells #[.int .u8 x] 5)) := by
  have h := run_convert_bytes_arg (P := Tryd.prog) (X.alloc (.cells #[.int .u8 x] 5)) 41 5 Tryd.underlying41 Tryd.underlying5 X.heap.size 0 1 1 [(c : Int)] rfl (fun i hi => by
    have h2 := heap_alloc_new X (.cells #[.int .u8 x] 5)
    obtain rfl : i = 0 := by omega
    rw [cell_of_row _ _ 0 _ _ _ h2, hx]
    rfl) 9 Tryd.underlying9
  rw [h]
  congr 2
theorem cat22 (c : UInt8) (l : List UInt8) : ((⟨#[c]⟩ : ByteArray) ++ (⟨l.toArray⟩ : ByteArray)) = ⟨(c :: l).toArray⟩ := by
  apply ByteArray.ext
  simp
set_option maxHeartbeats 2000000 in
set_option maxRecDepth 100000 in
theorem digits22 (n : Nat) (hn : n < 18446744073709551616) (w : World) :
    Calls Tryd.prog 41 #[.int .u64 (n : Int)] w fun e w' => e = .returned (.string ⟨(Lib.decDigits n).toArray⟩) ∧ Below w.heap.size w w' := by
  have HN : Hid (n < 18446744073709551616) := hn
  clear hn
  go_enter Tryd.func41, Tryd.ntmps41
  go_upto_region 2 with (fail)
  go_loopw [0, 3] (fun s0 s3 wr => ∃ (q : Nat) (l : List UInt8), s0 = .int .u64 (q : Int) ∧ s3 = .string ⟨l.toArray⟩ ∧ q ≤ n ∧ Lib.decDigits n = Lib.decDigits q ++ l ∧ Below w.heap.size w wr) (fun s0 _ _ => (intOf s0).toNat)
  case atStart => exact ⟨n, [], rfl, rfl, Nat.le_refl _, by simp, Below.refl _ _⟩
  case round =>
    obtain ⟨q, l, rfl, rfl, hq, hl, hb⟩ := hrel
    by_cases h9 : 9 < q
    · have D1 : decide ((9 : Int) < (q : Int)) = true := decide_eq_true (by omega)
      have D1p : (9 : Int) < (q : Int) := by omega
      have HL : Hid _ := hl
      have HB : Hid _ := hb
      have K1 := chr22 wr (48 + q % 10) (by omega) (48 + (q : Int) % 10) (by omega)
      have HQ : Hid (q ≤ n ∧ 9 < q) := ⟨hq, h9⟩
      have WQ : IntKind.u64.wrap ((q : Int) / 10) = ((q / 10 : Nat) : Int) := by have := HN.out; rw [IntKind.wrap_u64]; omega
      have hlen : l.length ≤ 20 := by
        have h1 := congrArg List.length hl
        rw [List.length_append, Lib.decDigits_length] at h1
        have := Lib.nDigits_le20 n HN.out
        omega
      clear hl hb hq
      obtain ⟨c, hc⟩ : ∃ c, Hid (c = UInt8.ofNat (48 + q % 10)) := ⟨_, rfl⟩
      rw [← hc.out] at K1
      have S1 := add22 #[c] l.toArray (by show 1 ≤ 100; decide) (by simp; omega)
      clear hlen
      go_wp2
      go_roundw
      case rel =>
        refine ⟨q / 10, c :: l, by first | rfl | (rw [WQ]), by rw [cat22], by have := HQ.out; omega, ?_, HB.out.alloc HB.out.size _⟩
        rw [HL.out, Lib.decDigits, dif_neg (by have := HQ.out; omega), hc.out, List.append_assoc]
        rfl
      case measure => have := HQ.out; first | (rw [WQ]; show ((q / 10 : Nat) : Int).toNat < (q : Int).toNat; omega) | (show ((q / 10 : Nat) : Int).toNat < (q : Int).toNat; omega)
    · have D1 : decide ((9 : Int) < (q : Int)) = false := decide_eq_false (by omega)
      have D1p : ¬ (9 : Int) < (q : Int) := by omega
      have HL : Hid _ := hl
      have HB : Hid _ := hb
      have K1 := chr22 wr (48 + q) (by omega) (48 + (q : Int)) (by omega)
      have HQ : Hid (q ≤ n ∧ ¬ 9 < q) := ⟨hq, h9⟩
      have hlen : l.length ≤ 20 := by
        have h1 := congrArg List.length hl
        rw [List.length_append, Lib.decDigits_length] at h1
        have := Lib.nDigits_le20 n HN.out
        omega
      clear hl hb hq
      obtain ⟨c, hc⟩ : ∃ c, Hid (c = UInt8.ofNat (48 + q)) := ⟨_, rfl⟩
      rw [← hc.out] at K1
      have S1 := add22 #[c] l.toArray (by show 1 ≤ 100; decide) (by simp; omega)
      clear hlen
      go_wp2
      go_ret
      refine ⟨?_, HB.out.alloc HB.out.size _⟩
      rw [cat22, HL.out, Lib.decDigits, dif_pos (by have := HQ.out; omega), hc.out]
      rfl
end Go.Proofs.YtfbgcednodnioaaDoor
namespace Go.Proofs.YtfbgcednodnioaaDoor
open Go.RowKit Gf2 Go.Shelf
set_option linter.unusedVariables false

-- layer 22: the laws' text and broken
set_option maxHeartbeats 2000000 in
set_option maxRecDepth 100000 in
theorem text22 (n : Int) (h0 : -9223372036854775808 ≤ n) (h1 : n ≤ 9223372036854775807) (w : World) :
    Calls Tryd.prog 31 #[.int .i64 n] w fun e w' => e = .returned (.string ⟨(Lib.itoa n).toArray⟩) ∧ Below w.heap.size w w' := by
  by_cases hn : n < 0
  · have D1 : decide (n < 0) = true := decide_eq_true hn
    have c1 := digits22 n.natAbs (by omega) w
    have e1 : Lib.itoa n = 45 :: Lib.decDigits n.natAbs := if_pos hn
    have hlen : (Lib.decDigits n.natAbs).length ≤ 20 := by rw [Lib.decDigits_length]; exact Lib.nDigits_le20 _ (by omega)
    have S1 := add22 #[45] (Lib.decDigits n.natAbs).toArray (by decide) (by simp; omega)
    rw [e1, ← cat22]
    have W1 : wrap64 (n + 1) = n + 1 := by unfold wrap64; omega
    have W2 : wrap64 (-(n + 1)) = -(n + 1) := by unfold wrap64; omega
    have W3 : IntKind.u64.wrap (-(n + 1)) = -(n + 1) := by rw [IntKind.wrap_u64]; omega
    have W4 : IntKind.u64.wrap (-(n + 1) + 1) = ((n.natAbs : Nat) : Int) := by rw [IntKind.wrap_u64]; omega
    clear h0 h1 hlen e1
    go_enter Tryd.func31, Tryd.ntmps31
    go_wp2_with (go_at_call 41; (with_reducible refine c1.mono ?_); rintro e w1 ⟨rfl, hb⟩; have HB : Hid _ := hb; clear c1 hb)
    go_ret
    exact ⟨rfl, HB.out⟩
  · have D1 : decide (n < 0) = false := decide_eq_false hn
    obtain ⟨u, rfl⟩ : ∃ u : Nat, n = (u : Int) := ⟨n.toNat, by omega⟩
    have c1 := digits22 u (by omega) w
    have e1 : Lib.itoa (u : Int) = Lib.decDigits u := by unfold Lib.itoa; rw [if_neg hn]; rfl
    rw [e1]
    have W3 : IntKind.u64.wrap (u : Int) = (u : Int) := by rw [IntKind.wrap_u64]; omega
    clear h0 h1 e1
    go_enter Tryd.func31, Tryd.ntmps31
    go_wp2_with (go_at_call 41; (with_reducible refine c1.mono ?_); rintro e w1 ⟨rfl, hb⟩; have HB : Hid _ := hb; clear c1 hb)
    go_ret
    exact ⟨rfl, HB.out⟩
set_option maxHeartbeats 2000000 in
set_option maxRecDepth 100000 in
theorem broken22 (f : Nat) (code : Int) (h0 : -9223372036854775808 ≤ code) (h1 : code ≤ 9223372036854775807) (w : World) (h : w.heap[f]? = some (.cells #[.int .i64 code] 24 (0, 0))) (htab : Lib.TabIs Tryd.prog w "internal/strconv.uint64pow10" .u64 Lib.pow10Tab) :
    Calls Tryd.prog 13 #[.iface 22 (.pointer (some ⟨f, 0, none⟩)), .int .i64 code] w fun e w' => e = .returned (.bool true) ∧ Below w.heap.size w w' := by
  have z0 : w.cell? ⟨f, 0, none⟩ = some (.int .i64 code) := by simp [World.cell?, h]
  have hnil : ∀ W : World, Sem.run Tryd.prog (binOp BinOp.neq 22 (Value.pointer (some ⟨f, 0, none⟩)) (Value.pointer none)) W = .ok (.bool true) W := fun W => by kernel_rfl
  have T1 : ∀ W : World, Sem.run Tryd.prog (Instr.typeAssert (.iface 22 (.pointer (some ⟨f, 0, none⟩))) 35 22 true) W = .ok (.tuple #[.pointer (some ⟨f, 0, none⟩), .bool true]) W := fun W => by kernel_rfl
  have c1 := error22 f code h0 h1 w h htab
  have HT : Hid (∀ W, Below w.heap.size w W → Calls Tryd.prog 31 #[.int .i64 code] W fun e w' => e = .returned (.string ⟨(Lib.itoa code).toArray⟩) ∧ Below W.heap.size W w') := fun W _ => text22 code h0 h1 W
  have S1 := add22 #[98, 114, 111, 107, 101, 110, 32] (Lib.itoa code).toArray (by decide) (by have := Lib.itoa_length_le code h0 h1; simp; omega)
  clear h0 h1 h htab
  unfold bt22 at c1
  go_enter Tryd.func13, Tryd.ntmps13
  go_wp2_with (first
    | (go_at_call 14; (with_reducible refine c1.mono ?_); rintro e w1 ⟨rfl, hb⟩; have HB : Hid _ := hb; have c2 := HT.out w1 hb; clear c1 hb HT z0)
    | (go_at_call 31; (with_reducible refine c2.mono ?_); rintro e w2 ⟨rfl, hb⟩; have HC : Hid _ := hb; clear c2 hb))
  go_ret
  exact ⟨rfl, HB.out.trans (HC.out.mono HB.out.size)⟩
end Go.Proofs.YtfbgcednodnioaaDoor
