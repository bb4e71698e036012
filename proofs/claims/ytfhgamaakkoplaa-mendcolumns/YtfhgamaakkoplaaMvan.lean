import Derived.Test.YtfhgamaakkoplaaMvae
import Derived.Test.YtfhgamaakkoplaaMvaf
import Derived.Below
import Derived.Deep.OwnRows
import Derived.Laws.CopyOwn
namespace Go.Proofs.Ytfhgamaakkoplaa
open Go.RowKit Gf2

/-- the modulus and the degree of the field. -/
def fq (wide : Bool) : Nat := if wide then 65581 else 285
def dq (wide : Bool) : Nat := if wide then 16 else 8
theorem fldq : ∀ wide, Fld (fq wide) (dq wide)
  | true => fld16
  | false => fld8
theorem dq_le (wide : Bool) : 2 ^ dq wide ≤ 65536 := by cases wide <;> decide

/-- a list of words behind a slice value. -/
def Sl (w : World) (v : Value) (l : List Nat) : Prop := (∀ x ∈ l, x < 65536) ∧ l.length ≤ 70368744177664 ∧
  ∃ a cap, v = .slice a l.length cap ∧ (0 < l.length → ∃ b o, a = some ⟨b, o, none⟩ ∧ b < w.heap.size ∧ ∀ i, i < l.length → w.cell? ⟨b, o + i, none⟩ = some (.int .u16 (co l i : Nat)))
/-- the same, in a row of its own. -/
def Fr (w : World) (B : Nat) (v : Value) (l : List Nat) : Prop := (∀ x ∈ l, x < 65536) ∧ l.length ≤ 70368744177664 ∧
  ∃ g, B ≤ g ∧ v = .slice (some ⟨g, 0, none⟩) l.length l.length ∧ w.rowIs g 57 l.length (fun i => .int .u16 (co l i : Nat))
theorem Fr.sl {w : World} {B : Nat} {v : Value} {l : List Nat} (h : Fr w B v l) : Sl w v l := by
  obtain ⟨h1, h2, g, hg, rfl, hr⟩ := h
  exact ⟨h1, h2, _, _, rfl, fun _ => ⟨g, 0, rfl, hr.lt, fun i hi => by rw [Nat.zero_add]; exact hr.cell hi⟩⟩
theorem Sl.below {w w' : World} {v : Value} {l : List Nat} (h : Sl w v l) (hb : Below w.heap.size w w') : Sl w' v l := by
  obtain ⟨h1, h2, a, cap, h3, h4⟩ := h
  refine ⟨h1, h2, a, cap, h3, fun h0 => ?_⟩
  obtain ⟨b, o, e, hl, hc⟩ := h4 h0
  exact ⟨b, o, e, Nat.lt_of_lt_of_le hl hb.size, fun i hi => (hb.cell (p := ⟨b, o + i, none⟩) hl).trans (hc i hi)⟩
theorem Fr.below {w w' : World} {B : Nat} {v : Value} {l : List Nat} (h : Fr w B v l) (hb : Below w.heap.size w w') : Fr w' B v l := by
  obtain ⟨h1, h2, g, hg, rfl, hr⟩ := h
  exact ⟨h1, h2, g, hg, rfl, hr.of_block (hb.block _ hr.lt)⟩
theorem Fr.mono {w : World} {B B' : Nat} {v : Value} {l : List Nat} (h : Fr w B v l) (hb : B' ≤ B) : Fr w B' v l := by
  obtain ⟨h1, h2, g, hg, rfl, hr⟩ := h
  exact ⟨h1, h2, g, by omega, rfl, hr⟩
theorem co_lt {l : List Nat} (h : ∀ x ∈ l, x < 65536) (i : Nat) : co l i < 65536 := co_el (d := 16) h i
/-- the list of F 0, .., F (n - 1). -/
def lf (n : Nat) (F : Nat → Nat) : List Nat := (List.range n).map F
theorem lf_len (n : Nat) (F : Nat → Nat) : (lf n F).length = n := by simp [lf]
theorem lf_co {n : Nat} {F : Nat → Nat} {i : Nat} (h : i < n) : co (lf n F) i = F i := by unfold co lf; simp [List.getD_eq_getElem?_getD, h]
theorem lf_out {n : Nat} {F : Nat → Nat} {i : Nat} (h : n ≤ i) : co (lf n F) i = 0 := co_dg _ i (by rw [lf_len]; exact h)
theorem lf_mem {n : Nat} {F : Nat → Nat} {P : Nat → Prop} (h : ∀ i, i < n → P (F i)) : ∀ x ∈ lf n F, P x := by
  intro x hx
  obtain ⟨i, hi, rfl⟩ := List.mem_map.1 hx
  exact h i (List.mem_range.1 hi)
theorem fr_of_row {w : World} {B g n : Nat} {F : Nat → Nat} (hg : B ≤ g) (hn : n ≤ 70368744177664) (hF : ∀ i, i < n → F i < 65536) (h : w.rowIs g 57 n (fun i => .int .u16 (F i : Nat))) : Fr w B (.slice (some ⟨g, 0, none⟩) n n) (lf n F) := by
  refine ⟨lf_mem hF, by rw [lf_len]; exact hn, g, hg, by rw [lf_len], ?_⟩
  rw [lf_len]
  exact h.congr (fun i hi => by rw [lf_co hi])
theorem info_u16m : (Try.prog.info? 57).map (fun i => (i.zero, i.size, i.bytes)) = some (some (Value.int .u16 0), 1, 2) := by kernel_rfl
theorem info_u16s : (Try.prog.info? 57).map (·.size) = some 1 := by kernel_rfl
theorem make_u16 (n : Nat) (hn : n ≤ 140737488355328) (w : World) : (Instr.makeSlice 52 (.int .i64 (n : Int)) (.int .i64 (n : Int))).run Try.prog w = .ok (.slice (some ⟨w.heap.size, 0, none⟩) n n) (w.alloc (.cells (madeCells #[.int .u16 0] n) 57)) :=
  run_make_row' (P := Try.prog) 52 57 (.int .u16 0) 2 Try.underlying52 info_u16m rfl .i64 .i64 n (by omega) (by omega) w
theorem made_rep (z : Value) (n : Nat) : madeCells #[z] n = (List.replicate n z).toArray := by
  apply Array.ext_getElem?
  intro i
  by_cases h : i < n
  · have hr := (World.rowIs_made default z n 0)
    obtain ⟨c, hb, hs, hc⟩ := hr
    have hb2 := heap_alloc_new (default : World) (.cells (madeCells #[z] n) 0)
    have e : c = madeCells #[z] n := by
      have := hb.symm.trans hb2
      simp only [Option.some.injEq, Obj.cells.injEq] at this
      exact this.1
    rw [← e, hc i h]
    simp [h]
  · rw [Array.getElem?_eq_none (by rw [size_madeCells]; omega), Array.getElem?_eq_none (by simp; omega)]

set_option maxHeartbeats 1000000 in
set_option maxRecDepth 10000 in
theorem ptimes_nat (wide : Bool) (a b : Nat) (w : World) (ha : a < 2 ^ dq wide) (hb : b < 2 ^ dq wide) :
    Calls Try.prog 35 #[.bool wide, .int .u16 (a : Int), .int .u16 (b : Int)] w fun e w' => e = .returned (.int .u16 (fm (fq wide) a b : Nat)) ∧ w' = w := by
  by_cases h0 : a = 0
  · subst h0
    rw [(fldq wide).zero_fm]
    go_enter Try.func35, Try.ntmps35
    go_wp2
    go_ret
    exact ⟨rfl, rfl⟩
  · by_cases h1 : b = 0
    · subst h1
      rw [(fldq wide).fm_zero]
      have T0 : ((a : Int) == 0) = false := by simp; omega
      clear h0
      go_enter Try.func35, Try.ntmps35
      go_wp2
      go_ret
      exact ⟨rfl, rfl⟩
    · have T0 : ((a : Int) == 0) = false := by simp; omega
      have T1 : ((b : Int) == 0) = false := by simp; omega
      clear h0 h1
      cases wide
      · have c1 := refMul_nat a b w ha hb
        have l1 : fm 285 a b < 256 := fld8.fm_lt a b
        have ha : a < 256 := ha
        have hb : b < 256 := hb
        have e : fq false = 285 := rfl
        rw [e]
        go_enter Try.func35, Try.ntmps35
        go_wp2_with (go_at_call 39; ((with_reducible refine (c1).mono ?_); rintro e w' ⟨rfl, rfl⟩))
        go_ret
        exact ⟨rfl, rfl⟩
      · have c1 := refMulH_nat a b w ha hb
        have e : fq true = 65581 := rfl
        rw [e]
        go_enter Try.func35, Try.ntmps35
        go_wp2_with (go_at_call 56; ((with_reducible refine (c1).mono ?_); rintro e w' ⟨rfl, rfl⟩))
        go_ret
        exact ⟨rfl, rfl⟩
end Go.Proofs.Ytfhgamaakkoplaa
