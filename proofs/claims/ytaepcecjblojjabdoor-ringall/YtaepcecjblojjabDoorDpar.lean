import Derived.Test.YtaepcecjblojjabDoorDtex
import Derived.Test.YtaepcecjblojjabDoorGfl
namespace Go.Proofs.YtaepcecjblojjabDoor
open Go.RowKit Gf2

/-- a string's bytes as numbers. -/
def byt (s : ByteArray) : List Nat := s.data.toList.map (·.toNat)
theorem byt_length (s : ByteArray) : (byt s).length = s.size := by simp [byt]
theorem byt_append (a b : ByteArray) : byt (a ++ b) = byt a ++ byt b := by
  unfold byt
  rw [← List.map_append]
  congr 1
theorem byt_inj {a b : ByteArray} (h : byt a = byt b) : a.toList = b.toList := by
  rw [Lib.toList_data, Lib.toList_data]
  unfold byt at h
  exact (List.map_inj_right (fun x y e => UInt8.toNat_inj.1 e)).1 h
theorem trm_byt (e : Nat) (he : e < 64) : byt (termB e) = trm e := by
  have key : ∀ e : Fin 64, byt (termB e.val) = trm e.val := by decide +kernel
  exact key ⟨e, he⟩
theorem byt_extract (s : ByteArray) (a b : Nat) : byt (s.extract a b) = ((byt s).drop a).take (b - a) := by
  unfold byt
  rw [Lib.extract_data, List.map_take, List.map_drop]
theorem byt_get (s : ByteArray) (k : Nat) (h : k < s.size) : (byt s)[k]? = some (s[k].toNat) := by
  unfold byt
  have e : s.data.toList[k]? = some s[k] := by
    rw [Array.getElem?_toList]; exact Array.getElem?_eq_getElem h
  rw [List.getElem?_map, e]; rfl

/-- the term stands at 'at'. -/
theorem pref_iff (s : ByteArray) (at' e : Nat) (he : e < 64) (_ha : at' + (termB e).size ≤ s.size) :
    (trm e).isPrefixOf ((byt s).drop at') = true ↔ ((s.extract at' (at' + (termB e).size)).toList == (termB e).toList) = true := by
  rw [List.isPrefixOf_iff_prefix, List.prefix_iff_eq_take, ← trm_byt e he, byt_length]
  constructor
  · intro h
    rw [beq_iff_eq]
    apply byt_inj
    rw [byt_extract, show at' + (termB e).size - at' = (termB e).size by omega]
    exact h.symm
  · intro h
    rw [beq_iff_eq] at h
    have : byt (s.extract at' (at' + (termB e).size)) = byt (termB e) := by
      unfold byt; rw [← Lib.toList_data, ← Lib.toList_data, h]
    rw [← this, byt_extract, show at' + (termB e).size - at' = (termB e).size by omega]
theorem pref_no (s : ByteArray) (at' e : Nat) (he : e < 64) (ha : s.size < at' + (termB e).size) : (trm e).isPrefixOf ((byt s).drop at') = false := by
  cases h : (trm e).isPrefixOf ((byt s).drop at') with
  | false => rfl
  | true =>
    exfalso
    have h2 := (List.isPrefixOf_iff_prefix.1 h).length_le
    have ht := (termB_size e).1
    rw [← trm_byt e he, byt_length, List.length_drop, byt_length] at h2
    omega
theorem drop_term (s : ByteArray) (at' e : Nat) (he : e < 64) : ((byt s).drop at').drop (trm e).length = (byt s).drop (at' + (termB e).size) := by
  rw [List.drop_drop, ← trm_byt e he, byt_length]
theorem head_at (s : ByteArray) (k : Nat) (h : k < s.size) : ((byt s).drop k).head? = some (s[k].toNat) := by
  rw [List.head?_drop, byt_get s k h]
theorem drop_nil (s : ByteArray) (k : Nat) : (byt s).drop k = [] ↔ s.size ≤ k := by
  rw [List.drop_eq_nil_iff, byt_length]
theorem tail_at (s : ByteArray) (k : Nat) : ((byt s).drop k).tail = (byt s).drop (k + 1) := by
  rw [List.tail_drop]

theorem refP_step {r : List Nat} {i n : Nat} : refP (i + 1) r n =
    if (trm i).isPrefixOf r = true ∧ (r.drop (trm i).length = [] ∨ (r.drop (trm i).length).head? = some 43) then
      (if r.drop (trm i).length = [] then refP i [] (2 * n + 1)
       else if (r.drop (trm i).length).tail = [] then none else refP i (r.drop (trm i).length).tail (2 * n + 1))
    else refP i r (2 * n) := rfl

theorem two_n {n i : Nat} (hn : n < 2 ^ (64 - (i + 1))) (hi : i < 64) : 2 * n + 1 < 2 ^ (64 - i) ∧ 2 * n + 1 < 18446744073709551616 := by
  have e : 2 ^ (64 - i) = 2 ^ (64 - (i + 1)) * 2 := by rw [← Nat.pow_succ]; congr 1; omega
  have h2 : 2 ^ (64 - i) ≤ 2 ^ 64 := Nat.pow_le_pow_right (by decide) (by omega)
  have e64 : (2 : Nat) ^ 64 = 18446744073709551616 := rfl
  omega
end Go.Proofs.YtaepcecjblojjabDoor
