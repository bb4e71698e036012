import Derived.Test.YtgkpoidjiiinnaaGe5
import Derived.Test.YtgkpoidjiiinnaaMya
import Derived.BigQuiet
import Derived.Laws.BytesArg
namespace Go.Proofs.Ytgkpoidjiiinnaa
open Go.RowKit Gf2
set_option linter.unusedVariables false

set_option maxHeartbeats 2000000 in
set_option maxRecDepth 100000 in
theorem valid11_yes (f : Int) (k m : Nat) (w : World) (hf : f = 0 ∨ f = 1) (h1 : 1 ≤ k) (h2 : 1 ≤ m) (h3 : k + m ≤ 256) :
    Calls Try.prog 10 #[.int .i64 f, .int .i64 (k : Int), .int .i64 (m : Int)] w fun e w' => e = .returned (.bool true) ∧ w' = w := by
  have k1 : decide ((k : Int) < 1) = false := by simp; omega
  have k2 : decide ((m : Int) < 1) = false := by simp; omega
  have W0 : wrap64 ((k : Int) + (m : Int)) = ((k + m : Nat) : Int) := add_small (by omega) (by omega)
  have k3 : decide ((k : Int) ≤ 256) = true := by simp; omega
  have k4 : decide ((m : Int) ≤ 256) = true := by simp; omega
  have k5 : decide (((k + m : Nat) : Int) ≤ 256) = true := by simp; omega
  generalize k + m = km at W0 k5
  clear h1 h2 h3
  rcases hf with rfl | rfl
  · go_enter Try.func10, Try.ntmps10
    go_wp2
    go_ret
    exact ⟨by first | rfl | simp_all, rfl⟩
  · go_enter Try.func10, Try.ntmps10
    go_wp2
    go_ret
    exact ⟨by first | rfl | simp_all, rfl⟩


set_option maxHeartbeats 2000000 in
set_option maxRecDepth 100000 in
theorem valid11_no (f k m : Int) (w : World) (hf : f = 0 ∨ f = 1) (h : ¬ (1 ≤ k ∧ 1 ≤ m ∧ k + m ≤ 256)) :
    Calls Try.prog 10 #[.int .i64 f, .int .i64 k, .int .i64 m] w fun e w' => e = .returned (.bool false) ∧ w' = w := by
  by_cases h1 : k < 1
  · have k1 : decide (k < 1) = true := by simp; omega
    clear h
    go_enter Try.func10, Try.ntmps10
    go_wp2
    go_ret
    exact ⟨by first | rfl | simp_all, rfl⟩
  · have k1 : decide (k < 1) = false := by simp; omega
    by_cases h2 : m < 1
    · have k2 : decide (m < 1) = true := by simp; omega
      clear h
      go_enter Try.func10, Try.ntmps10
      go_wp2
      go_ret
      exact ⟨by first | rfl | simp_all, rfl⟩
    · have k2 : decide (m < 1) = false := by simp; omega
      by_cases h3 : k ≤ 256
      · have k3 : decide (k ≤ 256) = true := by simp; omega
        by_cases h4 : m ≤ 256
        · have k4 : decide (m ≤ 256) = true := by simp; omega
          have W0 : wrap64 (k + m) = k + m := by unfold wrap64; omega
          have k5 : decide (k + m ≤ 256) = false := by simp; omega
          clear h
          rcases hf with rfl | rfl
          · go_enter Try.func10, Try.ntmps10
            go_wp2
            go_ret
            exact ⟨rfl, rfl⟩
          · go_enter Try.func10, Try.ntmps10
            go_wp2
            go_ret
            exact ⟨rfl, rfl⟩
        · have k4 : decide (m ≤ 256) = false := by simp; omega
          clear h
          rcases hf with rfl | rfl
          · go_enter Try.func10, Try.ntmps10
            go_wp2
            go_ret
            exact ⟨by first | rfl | simp_all, rfl⟩
          · go_enter Try.func10, Try.ntmps10
            go_wp2
            go_ret
            exact ⟨by first | rfl | simp_all, rfl⟩
      · have k3 : decide (k ≤ 256) = false := by simp; omega
        clear h
        rcases hf with rfl | rfl
        · go_enter Try.func10, Try.ntmps10
          go_wp2
          go_ret
          exact ⟨by first | rfl | simp_all, rfl⟩
        · go_enter Try.func10, Try.ntmps10
          go_wp2
          go_ret
          exact ⟨by first | rfl | simp_all, rfl⟩
end Go.Proofs.Ytgkpoidjiiinnaa
namespace Go.Proofs.Ytgkpoidjiiinnaa
open Go.RowKit Gf2
set_option linter.unusedVariables false

theorem rows11q {w : World} {u : Value} {m n : Nat} {S : Nat → Nat → Nat} (h : Lb w u m (fun _ => n) S) (h0 : 1 ≤ m) (h1 : 1 ≤ n) : ∃ b o cap, ∃ BX OX CX : Nat → Nat, u = .slice (some ⟨b, o, none⟩) m cap ∧ ∀ y, Below w.heap.size w y → ∀ i, i < m → y.cell? ⟨b, o + i, none⟩ = some (.slice (some ⟨BX i, OX i, none⟩) n (CX i)) ∧ Rb y (.slice (some ⟨BX i, OX i, none⟩) n (CX i)) n (S i) := by
  obtain ⟨V, ⟨hnb, a, cap, rfl, -, -, h4⟩, hV⟩ := h
  obtain ⟨b, o, rfl, hbl, hc⟩ := h4 h0
  have each : ∀ i, ∃ bx ox cx, i < m → V i = .slice (some ⟨bx, ox, none⟩) n cx := fun i => by
    by_cases hi : i < m
    · obtain ⟨_, _, x, cx, e, h5, _, h6⟩ := hV i hi
      obtain ⟨bx, ox, e1, _⟩ := h6 h1
      exact ⟨bx, ox, cx, fun _ => by rw [e, e1]⟩
    · exact ⟨0, 0, 0, fun h => absurd h hi⟩
  obtain ⟨BX, h1⟩ := Classical.skolem.1 each
  obtain ⟨OX, h2⟩ := Classical.skolem.1 h1
  obtain ⟨CX, h3⟩ := Classical.skolem.1 h2
  refine ⟨b, o, cap, BX, OX, CX, rfl, fun y hy i hi => ?_⟩
  have e := h3 i hi
  have hr := (hV i hi).rb.below hy
  rw [e] at hr
  exact ⟨by rw [← e, ← hc i hi]; exact hy.cell (p := ⟨b, o + i, none⟩) hbl.1, hr⟩
/-- a list of bytes as a text. -/
def sb11 (n : Nat) (S : Nat → Nat) : ByteArray := strOfNums ((List.range n).map (fun i => (S i : Int)))
theorem sb11_congr {n : Nat} {S T : Nat → Nat} (e : ∀ i, i < n → S i = T i) : sb11 n S = sb11 n T := by
  unfold sb11
  congr 1
  apply List.map_congr_left
  intro i hi
  rw [e i (List.mem_range.1 hi)]
theorem str11 {w : World} {b o n cap : Nat} {S : Nat → Nat} (h : Rb w (.slice (some ⟨b, o, none⟩) n cap) n S) (h1 : 1 ≤ n) (q : Nat) :
    (convert 31 9 (.slice (some ⟨b, o, none⟩) n cap)).run Try.prog (w.drewN q) = .ok (.string (sb11 n S)) (w.drewN q) := by
  obtain ⟨-, -, x, cx, e, -, -, h4⟩ := h
  cases e
  obtain ⟨b', o', e, hc⟩ := h4 h1
  cases e
  refine run_convert_bytes_arg (P := Try.prog) (w.drewN q) 31 5 Try.underlying31 Try.underlying5 b o n cap _ (by simp) (fun i hi => ?_) 9 Try.underlying9
  have hc := hc.2 i hi
  refine Eq.trans hc ?_
  simp [List.getD, hi]
set_option maxHeartbeats 2000000 in
set_option maxRecDepth 100000 in
theorem same11_true (u v : Value) (m c : Nat) (S T : Nat → Nat → Nat) (w : World) (h : Lb w u m (fun _ => c) S) (k : Lb w v m (fun _ => c) T) (hm : 1 ≤ m) (hm2 : m ≤ 1000) (hc : 1 ≤ c) (e : ∀ i, i < m → ∀ j, j < c → S i j = T i j) :
    Calls Try.prog 9 #[u, v] w fun e w' => e = .returned (.bool true) ∧ ∃ q, w' = w.drewN q := by
  obtain ⟨b, o, cap, BX, OX, CX, rfl, hU⟩ := rows11q h hm hc
  obtain ⟨b', o', cap', BY, OY, CY, rfl, hV⟩ := rows11q k hm hc
  have HU : Hid _ := hU
  have HV : Hid _ := hV
  have HN : Hid (1 ≤ m ∧ m ≤ 1000 ∧ 1 ≤ c) := ⟨hm, hm2, hc⟩
  have HE : Hid (∀ i, i < m → sb11 c (T i) = sb11 c (S i)) := fun i hi => sb11_congr (fun j hj => (e i hi j hj).symm)
  clear hU hV hm hm2 hc h k e
  go_enter Try.func9, Try.ntmps9
  go_wp2
  go_loopw [13] (fun i wr => ∃ r q : Nat, r ≤ m ∧ i = .int .i64 r ∧ Hid (wr = w.drewN q)) (fun i _ => m - (intOf i).toNat)
  case atStart => exact ⟨0, 0, Nat.zero_le _, rfl, rfl⟩
  case round =>
    obtain ⟨r, q, hr, rfl, hw⟩ := hrel
    by_cases hlt : r < m
    · have hbr : Below w.heap.size w wr := by rw [hw.out]; exact below_drewN (Below.refl _ _) q
      obtain ⟨q1, r1⟩ := HU.out wr hbr r hlt
      obtain ⟨q2, r2⟩ := HV.out wr hbr r hlt
      have kc1 := str11 r1 HN.out.2.2
      have kc2 := str11 r2 HN.out.2.2
      rw [HE.out r hlt] at kc2
      have ib : ((r : Nat) : Int) < (m : Int) := Int.ofNat_lt.2 hlt
      have W1 := wrap_lt8 hlt HN.out.2.1
      have HX : Hid (r < m) := hlt
      generalize sb11 c (S r) = s at kc1 kc2
      generalize BX r = bx at q1 kc1
      generalize OX r = ox at q1 kc1
      generalize CX r = cx at q1 kc1
      generalize BY r = bx' at q2 kc2
      generalize OY r = ox' at q2 kc2
      generalize CY r = cx' at q2 kc2
      clear r1 r2 hbr HU HV HE hlt hr
      go_wp2
      go_quiet (fail)
      go_wp2
      go_roundw
      case rel => exact ⟨r + 1, q + nq, HX.out, by first | rfl | (rw [W1]; rfl), by show _ = _; rw [hw.out, World.drewN_drewN]⟩
      case measure => first | exact meas_lt8 HX.out | (rw [W1]; exact meas_lt8 HX.out)
    · have hkm : r = m := by omega
      subst hkm
      have HQ : Hid (∃ q, wr = w.drewN q) := ⟨q, hw.out⟩
      clear hw HU HV HE hlt hr
      go_wp2
      go_ret
      exact ⟨rfl, HQ.out⟩
end Go.Proofs.Ytgkpoidjiiinnaa
namespace Go.Proofs.Ytgkpoidjiiinnaa
open Go.RowKit Gf2
set_option linter.unusedVariables false

theorem make_ints11 (n : Nat) (hn : 8 * n ≤ 140737488355328) (w : World) : (Instr.makeSlice 22 (.int .i64 (n : Int)) (.int .i64 (n : Int))).run Try.prog w = .ok (.slice (some ⟨w.heap.size, 0, none⟩) n n) (w.alloc (.cells (madeCells #[.int .i64 0] n) 3)) :=
  run_make_row' (P := Try.prog) 22 3 (.int .i64 0) 8 Try.underlying22 info_int rfl .i64 .i64 n (by omega) (by omega) w
/-- numbers below n, rising. -/
def Up11 (n L : Nat) (R : Nat → Nat) : Prop := (∀ i, i < L → R i < n) ∧ ∀ i j, i < j → j < L → R i < R j
/-- one of them left out. -/
def out11 (R : Nat → Nat) (p : Nat) : Nat → Nat := fun i => if i < p then R i else R (i + 1)
theorem Up11.out {n L p : Nat} {R : Nat → Nat} (h : Up11 n (L + 1) R) : Up11 n L (out11 R p) := by
  refine ⟨fun i hi => ?_, fun i j hij hj => ?_⟩
  · unfold out11
    split
    · exact h.1 i (by omega)
    · exact h.1 (i + 1) (by omega)
  · unfold out11
    by_cases e1 : i < p
    · rw [if_pos e1]
      split
      · exact h.2 i j hij (by omega)
      · exact h.2 i (j + 1) (by omega) (by omega)
    · rw [if_neg e1, if_neg (by omega)]
      exact h.2 (i + 1) (j + 1) (by omega) (by omega)
/-- the list that is left. -/
structure Lf (w W : World) (v : Value) (n L : Nat) (R : Nat → Nat) : Prop where
  bel : Below w.heap.size w W
  up : Up11 n L R
  row : ∃ g C F, v = .slice (some ⟨g, 0, none⟩) L C ∧ L ≤ C ∧ w.heap.size ≤ g ∧ Ri W g C F ∧ ∀ i, i < L → F i = (R i : Int)
theorem Lf.drewN {w W : World} {v : Value} {n L : Nat} {R : Nat → Nat} (h : Lf w W v n L R) (m : Nat) : Lf w (W.drewN m) v n L R := by
  obtain ⟨g, C, F, a1, a2, a3, a4, a5⟩ := h.row
  exact ⟨below_drewN h.bel m, h.up, g, C, F, a1, a2, a3, a4.drewN m, a5⟩
theorem Lf.qi {w W : World} {v : Value} {n L : Nat} {R : Nat → Nat} (h : Lf w W v n L R) : Qi W v L (fun i => (R i : Int)) := by
  obtain ⟨g, C, F, rfl, a2, a3, a4, a5⟩ := h.row
  exact a4.qi a2 a2 a4.1 a5
set_option maxRecDepth 100000 in
/-- x[lo:], of ints. -/
theorem from11 (b o L C lo : Nat) (hb : lo ≤ L) (hL : L ≤ C) : ∃ a, (0 < L - lo → a = some ⟨b, o + lo, none⟩) ∧ ∀ W : World, (Instr.slice 22 (.slice (some ⟨b, o, none⟩) L C) (some (.int .i64 (lo : Int))) none none).run Try.prog W = .ok (.slice a (L - lo) (C - lo)) W := by
  have he : Try.prog.elem 22 = 3 := by kernel_rfl
  have hsz : ∀ W : World, (sizeOf 3).run Try.prog W = .ok 1 W := fun W => by
    obtain ⟨i, hi, -, hs, -⟩ := info_inta
    simp [sizeOf, typeInfo, hi, hs]
  refine ⟨if C = lo then some ⟨b, o, none⟩ else some ⟨b, o + lo, none⟩, fun h0 => by rw [if_neg (by omega)], fun W => ?_⟩
  have h := run_slice_l (P := Try.prog) (w := W) 22 (some ⟨b, o, none⟩) L C (by rw [he]; exact Try.underlying22) .i64 (lo : Int) (by omega) (by omega)
  rw [h, he, hsz]
  have e2 : (lo : Int).toNat = lo := by omega
  simp only [Result.andThen, sliced, e2, Nat.mul_one]
  congr 3
  show some ((⟨b, o, none⟩ : Addr).add lo) = _
  rw [Addr.add_lit]
theorem head11 (x : Option Addr) (n cx m : Nat) (hm : m ≤ cx) (W : World) : (Instr.slice 22 (.slice x n cx) none (some (.int .i64 (m : Int))) none).run Try.prog W = .ok (.slice x m cx) W := by
  have he : Try.prog.elem 22 = 3 := by kernel_rfl
  have hsz : ∀ W : World, (sizeOf 3).run Try.prog W = .ok 1 W := fun W => by
    obtain ⟨i, hi, -, hs, -⟩ := info_inta
    simp [sizeOf, typeInfo, hi, hs]
  have h := run_slice_h (P := Try.prog) (w := W) 22 x n cx (by rw [he]; exact Try.underlying22) .i64 (m : Int) (by omega) (by omega)
  have e : (if cx = 0 then x else x.map (·.add 0)) = x := by
    split
    · rfl
    · cases x with
      | none => rfl
      | some a => show some (a.add 0) = some a; unfold Addr.add; split <;> simp_all
  rw [h, he, hsz]
  have e2 : (m : Int).toNat = m := by omega
  simp only [Result.andThen, sliced, e2, Nat.mul_one, Nat.sub_zero]
  first | (rw [e]) | (congr 2)
/-- one of them goes. -/
theorem Lf.step {w W : World} {n L L1 p p1 g C : Nat} {R : Nat → Nat} {x : Option Addr} (h : Lf w W (.slice (some ⟨g, 0, none⟩) L1 C) n L1 R) (hL1 : L1 = L + 1) (hp1 : p1 = p + 1) (hp : p < L1) (hL : L < 1000) (hx : 0 < L1 - p1 → x = some ⟨g, 0 + p1, none⟩) :
    ∃ a' c' w', (Builtin.append_ #[22, 22] 22 #[.slice (some ⟨g, 0, none⟩) p C, .slice x (L1 - p1) (C - p1)]).run Try.prog W = .ok (.slice (some ⟨a', 0, none⟩) L c') w' ∧ Lf w w' (.slice (some ⟨a', 0, none⟩) L c') n L (out11 R p) := by
  subst hL1 hp1
  obtain ⟨hb, hu, g', C', F, e, a2, a3, a4, a5⟩ := h
  cases e
  obtain ⟨w', g', C', F', hrun, hC, hR, hF1, hF2, hcase⟩ := appi W a4 (L := p) (by omega) (x := x) (n := L + 1 - (p + 1)) (cx := C - (p + 1)) (S := fun i => F (p + 1 + i)) (fun h0 => ⟨_, _, hx h0, fun i hi => by rw [Nat.zero_add]; exact a4.2.2.cell (by omega)⟩) (by omega)
  rw [show p + (L + 1 - (p + 1)) = L by omega] at hrun hC
  refine ⟨_, _, w', hrun, ?_, hu.out, g', C', F', rfl, hC, ?_, hR, fun i hi => ?_⟩
  · rcases hcase with ⟨rfl, ho⟩ | ⟨rfl, -, hb2⟩
    · exact hb.trans (ho.below a3)
    · exact hb.trans (hb2.mono hb.size)
  · rcases hcase with ⟨rfl, ho⟩ | ⟨rfl, -, hb2⟩
    · exact a3
    · exact hb.size
  · unfold out11
    by_cases e : i < p
    · rw [hF1 i e, if_pos e]; exact a5 i (by omega)
    · rw [if_neg e, show i = p + (i - p) by omega, hF2 (i - p) (by omega), show p + 1 + (i - p) = p + (i - p) + 1 by omega]
      exact a5 _ (by omega)
end Go.Proofs.Ytgkpoidjiiinnaa
namespace Go.Proofs.Ytgkpoidjiiinnaa
open Go.RowKit Gf2
set_option linter.unusedVariables false

def sl11 : Value → Nat
  | .slice _ n _ => n
  | _ => 0
theorem Qi.tail {w : World} {b o n n1 cap : Nat} {x : Option Addr} {F : Nat → Int} (h : Qi w (.slice (some ⟨b, o, none⟩) n1 cap) n1 F) (e1 : n1 = n + 1) (hx : 0 < n1 - 1 → x = some ⟨b, o + 1, none⟩) : Qi w (.slice x (n1 - 1) (cap - 1)) (n1 - 1) (fun i => F (i + 1)) := by
  subst e1
  obtain ⟨h1, -, a', cap', e, h5, h6, h4⟩ := h
  cases e
  refine ⟨by omega, trivial, _, _, rfl, by omega, by omega, fun h0 => ?_⟩
  obtain ⟨b, o, e, hl, hc⟩ := h4 (by omega)
  cases e
  exact ⟨_, _, hx h0, hl, fun i hi => by rw [show o + 1 + i = o + (i + 1) by omega]; exact hc _ (by omega)⟩
theorem pick11 (x : Int) (L : Nat) (h1 : 0 < L) (h2 : L ≤ 256) : ∃ p : Nat, p < L ∧ wrap64 ((IntKind.u64.wrap x).tmod (IntKind.u64.wrap (L : Int))) = (p : Int) := by
  have e : IntKind.u64.wrap (L : Int) = (L : Int) := by unfold IntKind.wrap; simp [IntKind.bits, IntKind.signed]; omega
  have h0 : 0 ≤ IntKind.u64.wrap x := by unfold IntKind.wrap; simp [IntKind.bits, IntKind.signed]; omega
  rw [e]
  have a1 : 0 ≤ (IntKind.u64.wrap x).tmod (L : Int) := Int.tmod_nonneg _ h0
  have a2 : (IntKind.u64.wrap x).tmod (L : Int) < (L : Int) := Int.tmod_lt_of_pos _ (by omega)
  generalize (IntKind.u64.wrap x).tmod (L : Int) = y at a1 a2
  refine ⟨y.toNat, by omega, ?_⟩
  unfold wrap64
  omega
set_option maxHeartbeats 2000000 in
set_option maxRecDepth 100000 in
theorem chosen11 (n k np : Nat) (pv : Value) (F : Nat → Int) (w : World) (h : Qi w pv np F) (h1 : 1 ≤ k) (hk : k ≤ n) (hn : n ≤ 256) :
    Calls Try.prog 11 #[.int .i64 (n : Int), .int .i64 (k : Int), pv] w fun e w' => ∃ v R, e = .returned v ∧ Lf w w' v n k R := by
  have hmk := make_ints11 n (by omega)
  have HN : Hid (1 ≤ k ∧ k ≤ n ∧ n ≤ 256) := ⟨h1, hk, hn⟩
  have HP : Hid (Qi w pv np F) := h
  obtain ⟨-, -, pa, pc, rfl, -, -, -⟩ := h
  clear h1 hk hn
  go_enter Try.func11, Try.ntmps11
  go_wp2
  clear hmk
  go_loopw [14] (fun i wr => ∃ c : Nat, c ≤ n ∧ i = .int .i64 c ∧ Ri wr w.heap.size n (fun j => if j < c then (j : Int) else 0) ∧ Below w.heap.size w wr) (fun i _ => n - (intOf i).toNat)
  case atStart =>
    refine ⟨0, Nat.zero_le _, rfl, ⟨by have := HN.out; unfold big; omega, trivial, _, heap_alloc_new _ _, ?_, fun i hi => ?_⟩, (Below.refl _ _).alloc (Nat.le_refl _) _⟩
    · simp [madeCells]
    · have e1 : i % 1 = 0 := Nat.mod_one i
      simp [madeCells, hi, e1]
  case round =>
    obtain ⟨c, hc, rfl, hR, hb⟩ := hrel
    by_cases hlt : c < n
    · have ib : ((c : Nat) : Int) < (n : Int) := Int.ofNat_lt.2 hlt
      have W1 := wrap_lt8 hlt (by have := HN.out; omega)
      have q1 := hR.2.2.cell hlt
      have q2 := hR.2.2.frozen c
      have HE : Hid (c + 1 ≤ n ∧ Ri (wr.setCell ⟨w.heap.size, c, none⟩ (.int .i64 (c : Int))) w.heap.size n (fun j => if j < c + 1 then (j : Int) else 0) ∧ Below w.heap.size w (wr.setCell ⟨w.heap.size, c, none⟩ (.int .i64 (c : Int)))) :=
        ⟨hlt, (hR.set c c).congr (fun i hi => by
          show (if i = c then (c : Int) else if i < c then (i : Int) else 0) = (if i < c + 1 then (i : Int) else 0)
          by_cases e : i = c
          · rw [if_pos e, if_pos (by omega), e]
          · by_cases e2 : i < c
            · rw [if_neg e, if_pos e2, if_pos (by omega)]
            · rw [if_neg e, if_neg e2, if_neg (by omega)]), hb.trans (((Only.refl w.heap.size wr).setCell c _).below (Nat.le_refl _))⟩
      clear hR hb hlt hc HN
      go_wp2
      go_roundw
      case rel => exact ⟨c + 1, HE.out.1, by first | rfl | (rw [W1]; rfl), HE.out.2.1, HE.out.2.2⟩
      case measure => first | exact meas_lt8 HE.out.1 | (rw [W1]; exact meas_lt8 HE.out.1)
    · obtain rfl : c = n := by omega
      have HL : Hid (Lf w wr (.slice (some ⟨w.heap.size, 0, none⟩) c c) c c (fun i => i)) := ⟨hb, ⟨fun i hi => hi, fun i j h _ => h⟩, _, _, _, rfl, Nat.le_refl _, Nat.le_refl _, hR, fun i hi => if_pos hi⟩
      clear hR hb hlt hc
      go_wp2
      go_loopw [2, 7] (fun pk l wr => ∃ (L np' : Nat) (F' : Nat → Int) (R : Nat → Nat) (xa : Option Addr) (xc g C : Nat), k ≤ L ∧ L ≤ c ∧ pk = .slice xa np' xc ∧ l = .slice (some ⟨g, 0, none⟩) L C ∧ Hid (Qi w (.slice xa np' xc) np' F' ∧ Lf w wr (.slice (some ⟨g, 0, none⟩) L C) c L R)) (fun _ l _ => sl11 l)
      case atStart => exact ⟨c, np, F, _, pa, pc, _, _, HN.out.2.1, Nat.le_refl _, rfl, rfl, HP.out, HL.out⟩
      case round =>
        obtain ⟨L, np', F', R, xa, xc, g, C, hkL, hLc, rfl, rfl, hS⟩ := hrel
        by_cases hlt : k < L
        · have ib : ((k : Nat) : Int) < ((L : Nat) : Int) := Int.ofNat_lt.2 hlt
          have hc256 := HN.out.2.2
          have hCL : L ≤ C := by
            obtain ⟨g', C', F', e, a2, -⟩ := hS.out.2.row
            cases e
            exact a2
          have h0L : 0 < L := by omega
          have hL256 : L ≤ 256 := by omega
          obtain ⟨L', hL'⟩ : ∃ L', L = L' + 1 := ⟨L - 1, by omega⟩
          have HX : Hid (k ≤ L' ∧ L' ≤ c ∧ L = L' + 1) := ⟨by omega, by omega, hL'⟩
          by_cases hz : np' = 0
          · subst hz
            obtain ⟨x2, hx2, hfr0⟩ := from11 g 0 L C 1 (by omega) hCL
            have hfr : ∀ W : World, (Instr.slice 22 (.slice (some ⟨g, 0, none⟩) L C) (some (.int .i64 1)) none none).run Try.prog W = .ok (.slice x2 (L - 1) (C - 1)) W := hfr0
            obtain ⟨ga, gc, w5, hrun, hL5⟩ := (hS.out.2.drewN 1).step (p := 0) (p1 := 1) hL' rfl h0L (by omega) hx2
            have H5 : Hid (Lf w w5 (.slice (some ⟨ga, 0, none⟩) L' gc) c L' (out11 R 0)) := hL5
            have v1 : IntKind.i64.wrap 1 = 1 := rfl
            have iL : (1 : Int) ≤ (L : Int) := by omega
            clear hlt hkL hLc hL5 hL' hx2 hfr0 h0L hL256 hc256 hCL
            go_wp2
            refine region_planT (fun w' => True) 7 [7] 49 trivial (by kernel_rfl) (by kernel_rfl) (fun _ a d v _ h => by cases d <;> exact h) ?_
            refine planT_last ?A2x0 rfl (fun w' hS => ?s2x0) rfl ?n2x0
            case s2x0 =>
              simp only [List.take_succ_cons, List.take_zero]
              repeat still_step
              exact rfl
            case n2x0 =>
            simp only [List.drop_succ_cons, List.drop_zero]
            go_wp2_with (at_builtin; refine Lib.wpList_append_run _ rfl _ _ _ _ rfl _ _ rfl rfl _ _ hrun ?_)
            go_roundw
            case rel => exact ⟨L', 0, F', _, xa, xc, ga, gc, HX.out.1, HX.out.2.1, rfl, rfl, hS.out.1, H5.out⟩
            case measure => show L' < L; have := HX.out; omega
          · obtain ⟨np0, hnp1⟩ : ∃ m, np' = m + 1 := ⟨np' - 1, by omega⟩
            obtain ⟨h5, -, xa', xc', e, h6, -, h4⟩ := hS.out.1.below hS.out.2.bel
            cases e
            obtain ⟨b, o, rfl, -, z1⟩ := h4 (by omega)
            have q1 := z1 0 (by omega)
            rw [Nat.add_zero] at q1
            have ip : (0 : Int) < ((np' : Nat) : Int) := by omega
            obtain ⟨p, hpL, WP⟩ := pick11 (F' 0) L h0L hL256
            obtain ⟨y2, hy2, hpk0⟩ := from11 b o np' xc 1 (by omega) h6
            have hpk : ∀ W : World, (Instr.slice 22 (.slice (some ⟨b, o, none⟩) np' xc) (some (.int .i64 1)) none none).run Try.prog W = .ok (.slice y2 (np' - 1) (xc - 1)) W := hpk0
            have HQ : Hid _ := hS.out.1.tail hnp1 hy2
            obtain ⟨p1, hp1⟩ : ∃ m, m = p + 1 := ⟨_, rfl⟩
            have v1 : IntKind.i64.wrap ((p : Int) + 1) = (p1 : Int) := by rw [hp1]; unfold IntKind.wrap; simp [IntKind.bits, IntKind.signed]; omega
            have hhd := head11 (some ⟨g, 0, none⟩) L C p (by omega)
            obtain ⟨x2, hx2, hfr⟩ := from11 g 0 L C p1 (by omega) hCL
            obtain ⟨ga, gc, w5, hrun, hL5⟩ := (hS.out.2.drewN 1).step (p := p) (p1 := p1) hL' hp1 hpL (by omega) hx2
            have H5 : Hid (Lf w w5 (.slice (some ⟨ga, 0, none⟩) L' gc) c L' (out11 R p)) := hL5
            have n0 : ¬ (IntKind.u64.wrap (L : Int) = 0) := by unfold IntKind.wrap; simp [IntKind.bits, IntKind.signed]; omega
            generalize F' 0 = x at q1 WP
            clear hz hnp1 hlt hkL hLc hL5 hL' hx2 hpk0 hy2 h0L hL256 hc256 hCL h5 h6 h4 z1 hp1 hpL
            go_wp2
            clear WP hpk n0 q1 ip
            refine region_planT (fun w' => True) 7 [7] 49 trivial (by kernel_rfl) (by kernel_rfl) (fun _ a d v _ h => by cases d <;> exact h) ?_
            refine planT_last ?A3x0 rfl (fun w' hS => ?s3x0) rfl ?n3x0
            case s3x0 =>
              simp only [List.take_succ_cons, List.take_zero]
              repeat still_step
              exact rfl
            case n3x0 =>
            simp only [List.drop_succ_cons, List.drop_zero]
            go_wp2_with (at_builtin; refine Lib.wpList_append_run _ rfl _ _ _ _ rfl _ _ rfl rfl _ _ hrun ?_)
            go_roundw
            case rel => exact ⟨L', np' - 1, _, _, y2, xc - 1, ga, gc, HX.out.1, HX.out.2.1, rfl, rfl, HQ.out, H5.out⟩
            case measure => show L' < L; have := HX.out; omega
        · obtain rfl : L = k := by omega
          have HF : Hid _ := hS.out.2
          clear hS hlt hkL hLc
          go_wp2
          go_ret
          exact ⟨_, _, rfl, HF.out⟩
end Go.Proofs.Ytgkpoidjiiinnaa
