import Derived.Test.YtbcjpcdipcomiaaDoorTj5
namespace Go.Proofs.YtbcjpcdipcomiaaDoor
open Go.RowKit Gf2
set_option linter.unusedVariables false

theorem elem_w6 : Tryd.prog.elem 22 = 26 := by kernel_rfl
theorem size_w6 (W : World) : (sizeOf 26).run Tryd.prog W = .ok 1 W := by
  obtain ⟨i, hi, -, hs, -⟩ := info_w6a
  simp [sizeOf, typeInfo, hi, hs]
/-- a piece of a list of words. -/
theorem run_cut6 (x : Option Addr) (n cx f t : Nat) (hft : f ≤ t) (ht : t ≤ cx) (W : World) :
    (Instr.slice 22 (.slice x n cx) (some (.int .i64 (f : Int))) (some (.int .i64 (t : Int))) none).run Tryd.prog W = .ok (.slice (if cx = f then x else x.map (·.add f)) (t - f) (cx - f)) W := by
  have hu : Tryd.prog.underlying 22 = some (.slice (Tryd.prog.elem 22)) := by rw [elem_w6]; exact Tryd.underlying22
  have h := run_slice_lh (P := Tryd.prog) (w := W) 22 x n cx hu .i64 .i64 (f : Int) (t : Int) (by omega) (by omega) (by omega)
  rw [h, elem_w6, size_w6]
  simp only [Result.andThen, sliced, Int.toNat_natCast, Nat.mul_one]
theorem cut6 (b o n cx f t : Nat) (hft : f < t) (ht : t ≤ n) (hn : n ≤ cx) (W : World) :
    (Instr.slice 22 (.slice (some ⟨b, o, none⟩) n cx) (some (.int .i64 (f : Int))) (some (.int .i64 (t : Int))) none).run Tryd.prog W = .ok (.slice (some ⟨b, o + f, none⟩) (t - f) (cx - f)) W := by
  rw [run_cut6 _ _ _ _ _ (by omega) (by omega), if_neg (by omega)]
  show Result.ok (Value.slice (some ((⟨b, o, none⟩ : Addr).add f)) (t - f) (cx - f)) W = _
  rw [Addr.add_lit]
/-- x[lo:]. -/
theorem from6 (b o L C lo : Nat) (hb : lo < L) (hL : L ≤ C) (W : World) : (Instr.slice 22 (.slice (some ⟨b, o, none⟩) L C) (some (.int .i64 (lo : Int))) none none).run Tryd.prog W = .ok (.slice (some ⟨b, o + lo, none⟩) (L - lo) (C - lo)) W := by
  have h := run_slice_l (P := Tryd.prog) (w := W) 22 (some ⟨b, o, none⟩) L C (by rw [elem_w6]; exact Tryd.underlying22) .i64 (lo : Int) (by omega) (by omega)
  rw [h, elem_w6, size_w6]
  have e2 : (lo : Int).toNat = lo := by omega
  simp only [Result.andThen, sliced, e2, Nat.mul_one]
  rw [if_neg (by omega)]
  show Result.ok (Value.slice (some ((⟨b, o, none⟩ : Addr).add lo)) _ _) W = _
  rw [Addr.add_lit]
/-- x[:m]. -/
theorem head6 (b o n cx m : Nat) (hm : m ≤ cx) (W : World) : (Instr.slice 22 (.slice (some ⟨b, o, none⟩) n cx) none (some (.int .i64 (m : Int))) none).run Tryd.prog W = .ok (.slice (some ⟨b, o, none⟩) m cx) W := by
  have hu : Tryd.prog.underlying 22 = some (.slice (Tryd.prog.elem 22)) := by rw [elem_w6]; exact Tryd.underlying22
  have h := run_slice_h (P := Tryd.prog) (w := W) 22 (some ⟨b, o, none⟩) n cx hu .i64 (m : Int) (by omega) (by omega)
  have e : (if cx = 0 then some (⟨b, o, none⟩ : Addr) else (some (⟨b, o, none⟩ : Addr)).map (·.add 0)) = some ⟨b, o, none⟩ := by
    split
    · rfl
    · show some ((⟨b, o, none⟩ : Addr).add 0) = _
      rw [Addr.add_lit]; rfl
  rw [h, elem_w6, size_w6]
  simp only [Result.andThen, sliced, Int.toNat_natCast, Nat.zero_mul, Nat.sub_zero, e]

/-- the first T rounds of spread. -/
def spr (o i j : Nat) : Nat → (Nat → Nat) → Nat → Nat
  | 0, F => F
  | t + 1, F => if oc t i = 1 then (fun x => if x = o + (j + 2 ^ t) then spr o i j t F (o + (j + 2 ^ t)) ^^^ spr o i j t F (o + (j + 2 ^ i)) else spr o i j t F x) else spr o i j t F
theorem pow_cast {t : Nat} {A : Nat} (h : A = 2 ^ t) (hA : A ≤ 65536) : wrap64 (2 ^ t) = (A : Int) := by
  have e : ((2 : Int) ^ t) = ((2 ^ t : Nat) : Int) := by simp
  rw [e, ← h]; unfold wrap64; omega
theorem wrap_add_eq {a b c : Nat} (h : c = a + b) (hc : c ≤ 131072) : wrap64 ((a : Int) + (b : Int)) = (c : Int) := by unfold wrap64; omega
theorem spr_nums {j A B L o N JA JB : Nat} (hB : B ≤ 32768) (hAB : A < B) (hj : j < B) (hL : L = 2 * B) (hoL : o + L ≤ N) (hA : JA = j + A) (hJB : JB = j + B) :
    A ≤ 65536 ∧ JA ≤ 131072 ∧ JB ≤ 131072 ∧ ((JA : Nat) : Int) < (L : Int) ∧ ((JB : Nat) : Int) < (L : Int) ∧ o + JA < N ∧ o + JB < N := by omega
/-- J rounds of multiply. -/
def mlp (o i : Nat) : Nat → (Nat → Nat) → Nat → Nat
  | 0, F => F
  | J + 1, F => spr o i J i (mlp o i J F)
/-- c rounds of divide. -/
def dvp (o i B : Nat) : Nat → (Nat → Nat) → Nat → Nat
  | 0, F => F
  | c + 1, F => spr o i (B - 1 - c) i (dvp o i B c F)
end Go.Proofs.YtbcjpcdipcomiaaDoor
