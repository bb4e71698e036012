import Derived.Test.YtidcdbjhkgpjcaaDoorDhro
import Derived.Deep.AppendLies
import Derived.ArgAppend
import Derived.OwnWalk
import Derived.Deep.Onto
namespace Go.Proofs.YtidcdbjhkgpjcaaDoor
open Go.RowKit Gf2

theorem i64_andH (b k : Nat) (hb : b < 9223372036854775808) : bits BinOp.and IntKind.i64 ((b : Int) / 2 ^ k) 1 = ((b / 2 ^ k % 2 : Nat) : Int) := by
  have e : ((b : Int) / 2 ^ k) = ((b / 2 ^ k : Nat) : Int) := by simp
  rw [e]
  generalize hx : b / 2 ^ k = x
  have hxl : x < 9223372036854775808 := by rw [← hx]; exact Nat.lt_of_le_of_lt (Nat.div_le_self _ _) hb
  have hand : x &&& 1 = x % 2 := Nat.and_one_is_mod x
  show IntKind.i64.wrap ((BitVec.ofInt 64 (x : Int) &&& BitVec.ofInt 64 ((1 : Nat) : Int)).toNat : Int) = _
  rw [BitVec.toNat_and, ofInt_u64 x (by omega), ofInt_u64 1 (by decide), IntKind.wrap_i64, hand]
  omega
theorem info_u16 : ∃ i, Tryd.prog.info? 26 = some i ∧ i.zero = some (Value.int .u16 0) ∧ i.size = 1 ∧ i.bytes = 2 := by
  have h : (Tryd.prog.info? 26).map (fun i => (i.zero, i.size, i.bytes)) = some (some (Value.int .u16 0), 1, 2) := by kernel_rfl
  obtain ⟨i, hi, hz⟩ := Option.map_eq_some_iff.1 h
  simp only [Prod.mk.injEq] at hz
  exact ⟨i, hi, hz.1, hz.2.1, hz.2.2⟩
theorem owns_below {w w' : World} {B n k : Nat} {e : TypeId} {v : Value} {xs : List Value} (h : w.ownsRow B e n v k xs) (hb : Below w.heap.size w w') : w'.ownsRow B e n v k xs := by
  refine h.kept (row := none) ⟨hb.os, hb.tape, hb.output, hb.size, fun k hk _ => hb.block k hk⟩ ?_
  cases e : v.ownBlock with
  | none => exact .inl rfl
  | some k => exact .inr (by simp)
/-- numbers as values. -/
def vU (n : Nat) : Value := .int .u16 (n : Int)
theorem vU_get {l : List Nat} {i n : Nat} (h : l[i]? = some n) : (l.map vU)[i]? = some (.int .u16 (n : Int)) := by rw [List.getElem?_map, h]; rfl

set_option maxHeartbeats 4000000 in
set_option maxRecDepth 100000 in
theorem refBasis_any (w : World) :
    Calls Tryd.prog 32 #[] w fun e w' => ∃ g cap, e = .returned (.slice (some ⟨g, 0, none⟩) 16 cap) ∧ w'.ownsRow w.heap.size 26 1 (.slice (some ⟨g, 0, none⟩) 16 cap) 16 ((cbt 16).map vU) ∧ g < w'.heap.size ∧ Below w.heap.size w w' := by
  obtain ⟨i16, j1, j2, j3, j4⟩ := info_u16
  go_enter Tryd.func32, Tryd.ntmps32
  go_wp2
  go_loopw [1, 2] (fun bv iv wr => ∃ i : Nat, 1 ≤ i ∧ i ≤ 16 ∧ iv = .int .i64 i ∧ wr.ownsRow w.heap.size 26 1 bv i ((cbt i).map vU) ∧ Below w.heap.size w wr) (fun _ iv _ => 16 - (intOf iv).toNat)
  case atStart =>
    refine ⟨1, by decide, by decide, rfl, ⟨rfl, .inr ⟨w.heap.size, 1, #[.int .u16 1], rfl, Nat.le_refl _, ?_, by decide, by unfold maxLen; omega, rfl, rfl⟩⟩, (Below.refl _ _).alloc (Nat.le_refl _) _⟩
    exact heap_alloc_new _ _
  case round =>
    obtain ⟨i, h1, hi, rfl, hown, hb⟩ := hrel
    by_cases hlt : i < 16
    · obtain ⟨g, cap, rfl, hgl, hgh⟩ := hown.form (by omega)
      obtain ⟨k, rfl⟩ : ∃ k, i = k + 1 := ⟨i - 1, by omega⟩
      have q1 := hown.cellAt k (by omega)
      rw [vU_get (cbt_get (by omega))] at q1
      have c1 := fun w => refRoot_nat (cbn k) w (cbn_lt k (by omega))
      rw [cbn_next k (by omega)] at c1
      have kb : ((k : Nat) : Int) < ((k + 1 : Nat) : Int) := by omega
      have hk1 : (((k + 1 : Nat) : Int) - 1) = (k : Int) := by omega
      have HO : Hid (wr.ownsRow w.heap.size 26 1 (.slice (some ⟨g, 0, none⟩) (k + 1) cap) (k + 1) ((cbt (k + 1)).map vU) ∧ Below w.heap.size w wr) := ⟨hown, hb⟩
      have hbs := hb.size
      clear hown hb
      go_wp2_with (first
        | (go_at_call 44; (with_reducible refine (c1 _).mono ?_); rintro e w1 ⟨rfl, hb1⟩; have hown1 := owns_below HO.out.1 hb1; have hs1 := hb1.size)
        | (at_builtin; go_must (refine wpList_append_lies _ rfl _ _ 27 rfl w.heap.size 26 i16 (.int .u16 0) 1 2 Tryd.underlying27 j1 j2 j3 j4 rfl (by decide) _ _ _ rfl (hown1.alloc _) _ 1 1 [.int .u16 (cbn (k + 1) : Nat)] rfl rfl ?c1 ?c2 (by decide) ?c3 ?c4 ?c5 _ rfl ?_)))
      case c1 =>
        intro k u hk
        match k, hk with
        | 0, hk => simp at hk; subst hk; simp [Addr.add]
      case c2 => intro u hu; simp at hu; subst hu; rfl
      case c3 => unfold maxLen; omega
      case c4 => omega
      case c5 => simp; omega
      · intro g' cap' wA hownA hgrow hat hltA
        go_wp2
        go_roundw
        case rel =>
          have hs2 := hgrow.size
          simp at hs2
          refine ⟨k + 2, by omega, by omega, by go_num, ?_, ?_⟩
          · rw [cbt_succ (k + 1), List.map_append]
            exact hownA
          · exact (((HO.out.2.trans (hb1.mono (by omega))).alloc (by omega) _).grown hgrow (by simp; omega) (fun j hj => (hown1.lt j hj).1))
        case measure => simp [intOf]; omega
    · have hi6 : i = 16 := by omega
      subst hi6
      obtain ⟨g, cap, rfl, hgl, hgh⟩ := hown.form (by omega)
      go_wp2
      go_ret
      exact ⟨g, cap, rfl, hown, hgh, hb⟩
end Go.Proofs.YtidcdbjhkgpjcaaDoor
