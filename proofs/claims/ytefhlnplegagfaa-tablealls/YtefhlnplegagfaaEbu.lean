import Derived.Test.YtefhlnplegagfaaEums
import Derived.Test.YtefhlnplegagfaaEume
import Derived.Test.YtefhlnplegagfaaEumn
import Derived.Test.YtefhlnplegagfaaEuas
import Derived.Test.YtefhlnplegagfaaEuae
import Derived.Test.YtefhlnplegagfaaEuan
import Derived.Test.YtefhlnplegagfaaEuns
import Derived.Test.YtefhlnplegagfaaEund
import Derived.Test.YtefhlnplegagfaaEunn
import Derived.Test.YtefhlnplegagfaaEuqs
import Derived.Test.YtefhlnplegagfaaEuqd
import Derived.Test.YtefhlnplegagfaaEuqn
namespace Go.Proofs.Ytefhlnplegagfaa
open Go.RowKit Gf2
set_option linter.unusedVariables false

/-- a step of a script that came in: its two lists. -/
def OpIn (w : World) (c b : Nat) (xd : Option Addr) (nd cd : Nat) (xs : Option Addr) (ns cs : Nat) : Prop := c < 256 ∧ b < 256 ∧ nd ≤ 140737488351232 ∧ ns ≤ 140737488351232 ∧ (∃ D, Rb w (.slice xd nd cd) nd D) ∧ ∃ S, Rb w (.slice xs ns cs) ns S
theorem OpIn.below {w w' : World} {c b : Nat} {xd : Option Addr} {nd cd : Nat} {xs : Option Addr} {ns cs : Nat} (h : OpIn w c b xd nd cd xs ns cs) (hb : Below w.heap.size w w') : OpIn w' c b xd nd cd xs ns cs := by
  obtain ⟨h1, h2, h3, h4, ⟨D, h5⟩, S, h6⟩ := h
  exact ⟨h1, h2, h3, h4, ⟨D, h5.below hb⟩, S, h6.below hb⟩

theorem slices_ker (p : Addr) (lo hi : Nat) (kind : Int) (c b : Nat) (xd : Option Addr) (nd cd : Nat) (xs : Option Addr) (ns cs : Nat) (same nl : Bool) (ahead behind : Int) (w : World) (hk : Ker w p lo hi) (ho : OpIn w c b xd nd cd xs ns cs) :
    Calls Try.prog 27 #[.pointer (some p), .agg (opv kind c b xd nd cd xs ns cs same nl ahead behind)] w fun e w' => e = .returned (.bool true) ∧ Below w.heap.size w w' := by
  obtain ⟨hc, -, hnd, hns, ⟨D, hd⟩, S, hs⟩ := ho
  by_cases h1 : kind = 1
  · subst h1
    cases same
    · by_cases hn : nd = ns
      · subst hn; exact slices_me p lo hi c b xd cd xs nd cs nl ahead behind D S w hk hc hd hs hnd hns
      · exact slices_mn p lo hi c b xd nd cd xs ns cs nl ahead behind D S w hk hc hd hs hnd hns hn
    · exact slices_ms p lo hi c b xd nd cd xs ns cs nl ahead behind D S w hk hc hd hs hnd hns
  · cases same
    · by_cases hn : nd = ns
      · subst hn; exact slices_ae p lo hi kind h1 c b xd cd xs nd cs nl ahead behind D S w hk hc hd hs hnd hns
      · exact slices_an p lo hi kind h1 c b xd nd cd xs ns cs nl ahead behind D S w hk hc hd hs hnd hns hn
    · exact slices_as p lo hi kind h1 c b xd nd cd xs ns cs nl ahead behind D S w hk hc hd hs hnd hns
theorem slices_nil (kind : Int) (c b : Nat) (xd : Option Addr) (nd cd : Nat) (xs : Option Addr) (ns cs : Nat) (same nl : Bool) (ahead behind : Int) (w : World) (ho : OpIn w c b xd nd cd xs ns cs) :
    Calls Try.prog 27 #[.pointer none, .agg (opv kind c b xd nd cd xs ns cs same nl ahead behind)] w fun e w' => e = .returned (.bool true) ∧ Below w.heap.size w w' := by
  obtain ⟨hc, -, hnd, hns, ⟨D, hd⟩, S, hs⟩ := ho
  by_cases h1 : kind = 1
  · subst h1
    cases same
    · by_cases hn : nd = ns
      · subst hn; exact slices_nd c b xd cd xs nd cs nl ahead behind D S w hc hd hs hnd hns
      · exact slices_nn c b xd nd cd xs ns cs nl ahead behind D S w hc hd hs hnd hns hn
    · exact slices_ns c b xd nd cd xs ns cs nl ahead behind D S w hc hd hs hnd hns
  · cases same
    · by_cases hn : nd = ns
      · subst hn; exact slices_qd kind h1 c b xd cd xs nd cs nl ahead behind D S w hc hd hs hnd hns
      · exact slices_qn kind h1 c b xd nd cd xs ns cs nl ahead behind D S w hc hd hs hnd hns hn
    · exact slices_qs kind h1 c b xd nd cd xs ns cs nl ahead behind D S w hc hd hs hnd hns

set_option maxHeartbeats 2000000 in
set_option maxRecDepth 100000 in
theorem refRow5_nat (a : Nat) (w : World) (ha : a < 256) :
    Calls Try.prog 29 #[.int .u8 (a : Int)] w fun e w' => e = .returned (.slice (some ⟨w.heap.size, 0, none⟩) 256 256) ∧
      w'.rowIs w.heap.size 5 256 (fun x => .int .u8 (fm 285 a x : Nat)) ∧ Below w.heap.size w w' ∧ w'.heap.size = w.heap.size + 1 := by
  have hmk := run_make_row' (P := Try.prog) 25 5 (.int .u8 0) 1 Try.underlying25 info_u8m rfl .i64 .i64 256 (by decide) (by decide)
  have hmk : ∀ w, (Instr.makeSlice 25 (.int .i64 256) (.int .i64 256)).run Try.prog w = .ok (.slice (some ⟨w.heap.size, 0, none⟩) 256 256) (w.alloc (.cells (madeCells #[.int .u8 0] 256) 5)) := hmk
  go_enter Try.func29, Try.ntmps29
  go_wp2
  go_loopw [4] (fun i wr => ∃ k : Nat, k ≤ 256 ∧ i = .int .i64 k ∧ wr.heap.size = w.heap.size + 1 ∧
      wr.rowIs w.heap.size 5 256 (fun x => .int .u8 (if x < k then (fm 285 a x : Nat) else 0)) ∧ Below w.heap.size w wr) (fun i _ => 256 - (intOf i).toNat)
  case atStart =>
    refine ⟨0, by decide, rfl, by simp, ?_, (Below.refl _ _).alloc (Nat.le_refl _) _⟩
    exact (World.rowIs_made w (.int .u8 0) 256 5).congr (fun i _ => by simp)
  case round =>
    obtain ⟨k, hk, rfl, hsz, hr, hb⟩ := hrel
    by_cases hlt : k < 256
    · have c1 := fun w => refMul_nat a k w ha hlt
      have q := hr.cell hlt
      have f := hr.frozen k
      simp only [Nat.lt_irrefl, if_false] at q
      have HR : Hid (wr.heap.size = w.heap.size + 1 ∧ wr.rowIs w.heap.size 5 256 (fun x => .int .u8 (if x < k then (fm 285 a x : Nat) else 0))) := ⟨hsz, hr⟩
      clear hsz hr
      go_wp2_with (go_at_call 28; ((with_reducible refine (c1 _).mono ?_); rintro e w' ⟨rfl, rfl⟩))
      go_roundw
      case rel =>
        obtain ⟨g0, g1⟩ := HR.out
        refine ⟨k + 1, by omega, by go_num, by simp [g0], ?_, hb.setCell (by simp) _⟩
        refine (World.rowIs.set g1 k _).congr (fun i hi => ?_)
        by_cases e : i = k
        · subst e; simp
        · by_cases e2 : i < k
          · simp [e, e2, show i < k + 1 by omega]
          · simp [e, e2, show ¬ i < k + 1 by omega]
      case measure => simp [intOf]; omega
    · have hk5 : k = 256 := by omega
      subst hk5
      go_wp2
      go_ret
      exact ⟨rfl, hr.congr (fun i hi => by simp [hi]), hb, hsz⟩


set_option maxHeartbeats 4000000 in
set_option maxRecDepth 100000 in
theorem one5_ker (p : Addr) (lo hi : Nat) (kind : Int) (c b : Nat) (xd : Option Addr) (nd cd : Nat) (xs : Option Addr) (ns cs : Nat) (same nl : Bool) (ahead behind : Int) (w : World) (hk : Ker w p lo hi) (ho : OpIn w c b xd nd cd xs ns cs) :
    Calls Try.prog 22 #[.pointer (some p), .agg #[.int .i64 kind, .int .u8 (c : Int), .int .u8 (b : Int), .slice xd nd cd, .slice xs ns cs, .bool same, .bool nl, .int .i64 ahead, .int .i64 behind]] w fun e w' => e = .returned (.bool true) ∧ Below w.heap.size w w' := by
  obtain ⟨W0, hW0⟩ : ∃ W0, W0 = w.alloc (.cells #[.int .i64 kind, .int .u8 (c : Int), .int .u8 (b : Int), .slice xd nd cd, .slice xs ns cs, .bool same, .bool nl, .int .i64 ahead, .int .i64 behind] 43) := ⟨_, rfl⟩
  have b0 : Below w.heap.size w W0 := by rw [hW0]; exact (Below.refl _ _).alloc (Nat.le_refl _) _
  have k0 : Ker W0 p lo hi := ker_below hk b0
  have o0 := ho.below b0
  have cS := slices_ker p lo hi kind c b xd nd cd xs ns cs same nl ahead behind W0 k0 o0
  have cS : Calls Try.prog 27 #[.pointer (some p), .agg #[.int .i64 kind, .int .u8 (c : Int), .int .u8 (b : Int), .slice xd nd cd, .slice xs ns cs, .bool same, .bool nl, .int .i64 ahead, .int .i64 behind]] W0 fun e w' => e = .returned (.bool true) ∧ Below W0.heap.size W0 w' := cS
  have cP := fun m => kprod_any p lo hi c b (W0.drewN m) (k0.drewN m) ho.1 ho.2.1
  have cM := fun W => refMul_nat c b W ho.1 ho.2.1
  have cR := krow_any p lo hi c W0 k0 ho.1
  have cF := fun W => refRow5_nat c W ho.1
  have hs0 := b0.size
  rw [hW0] at cS cP cR
  by_cases h1 : kind = 1
  · subst h1
    go_enter Try.func22, Try.ntmps22
    go_wp2_with (go_at_call 27; ((with_reducible refine (cS).mono ?_); rintro e w1 ⟨rfl, hb1⟩))
    go_ret
    rw [← hW0] at hb1
    exact ⟨rfl, b0.trans (hb1.mono hs0)⟩
  · have T1 : (kind == 1) = false := by simpa using h1
    by_cases h2 : kind = 2
    · subst h2
      clear h1 T1
      go_enter Try.func22, Try.ntmps22
      go_wp2_with (go_at_call 27; ((with_reducible refine (cS).mono ?_); rintro e w1 ⟨rfl, hb1⟩))
      go_ret
      rw [← hW0] at hb1
      exact ⟨rfl, b0.trans (hb1.mono hs0)⟩
    · have T2 : (kind == 2) = false := by simpa using h2
      by_cases h3 : kind = 3
      · subst h3
        clear h1 T1 h2 T2
        go_enter Try.func22, Try.ntmps22
        go_wp2
        go_quiet (first | (go_at_call 19; with_reducible exact Calls.quiet_of (cP _)) | (go_at_call 28; with_reducible exact Calls.quiet_of_same (cM _)))
        go_wp2
        go_ret
        refine ⟨rfl, below_drewN ?_ nq⟩
        rw [← hW0]
        exact b0
      · have T3 : (kind == 3) = false := by simpa using h3
        by_cases h4 : kind = 4
        · subst h4
          clear h1 T1 h2 T2 h3 T3
          have x1 : ∀ W, Below W0.heap.size W0 W → W.cell? ⟨w.heap.size, 1, none⟩ = some (.int .u8 (c : Int)) := fun W hb => (hb.cell (p := ⟨w.heap.size, 1, none⟩) (by rw [hW0]; simp)).trans (by rw [hW0]; simp)
          rw [← hW0] at cR
          have cE := fun w1 w2 (r1 : Rw w1 W0.heap.size 256 (fun i => fm 285 c i)) (h2 : w2.rowIs w1.heap.size 5 256 (fun x => .int .u8 (fm 285 c x : Nat))) (b2 : Below w1.heap.size w1 w2) =>
            equal5_true (.slice (some ⟨W0.heap.size, 0, none⟩) 256 256) (.slice (some ⟨w1.heap.size, 0, none⟩) 256 256) 256 (fun i => fm 285 c i) w2 (rw_below r1 b2).rb0 (Rw.rb0 (F := fun i => fm 285 c i) ⟨by decide, fun i _ => fm8_lt _ _, h2⟩)
          have HB : Hid (Below w.heap.size w W0) := b0
          have s0 : W0.heap.size = w.heap.size + 1 := by rw [hW0]; simp
          rw [s0] at cE
          have HS : Hid (W0.heap.size = w.heap.size + 1) := s0
          have cR2 := cR.mono (R' := fun e w1 => e = .returned (.tuple #[.slice (some ⟨w.heap.size + 1, 0, none⟩) 256 256, .int .i64 0]) ∧ Rw w1 (w.heap.size + 1) 256 (fun i => fm 285 c i) ∧ Below W0.heap.size W0 w1 ∧ w1.cell? ⟨w.heap.size, 1, none⟩ = some (.int .u8 (c : Int))) (fun e w1 ⟨h1, h2, h3, h4⟩ => by
            rw [s0] at h1 h2
            exact ⟨h1, h2, h3, x1 w1 h3⟩)
          rw [hW0] at cR2
          clear b0 k0 o0 hs0 cS cP cM s0 cR x1
          go_enter Try.func22, Try.ntmps22
          go_wp2_with (first | (go_at_call 16; ((with_reducible refine (cR2).mono ?_); (rintro e w1 ⟨rfl, r1, b1, y1⟩))) | (go_at_call 29; ((with_reducible refine (cF _).mono ?_); (rintro e w2 ⟨rfl, r2, b2, s2⟩; have cE3 := cE w1 w2 r1 r2 b2; clear s2))) | (go_at_call 15; ((with_reducible refine (cE3).mono ?_); (rintro e w3 ⟨rfl, m3, hw3⟩))))
          rw [← hW0] at b1
          go_ret
          have l1 := b1.size
          refine ⟨rfl, ?_⟩
          exact below_drewN ((HB.out.trans (b1.mono HB.out.size)).trans (b2.mono (by have := HB.out.size; omega))) m3
        · have T4 : (kind == 4) = false := by simpa using h4
          clear h1 h2 h3 h4
          go_enter Try.func22, Try.ntmps22
          go_wp2
          go_ret
          rw [← hW0]
          exact ⟨rfl, b0⟩

set_option maxHeartbeats 4000000 in
set_option maxRecDepth 100000 in
theorem one5_nil (kind : Int) (c b : Nat) (xd : Option Addr) (nd cd : Nat) (xs : Option Addr) (ns cs : Nat) (same nl : Bool) (ahead behind : Int) (w : World) (ho : OpIn w c b xd nd cd xs ns cs) :
    Calls Try.prog 22 #[.pointer none, .agg #[.int .i64 kind, .int .u8 (c : Int), .int .u8 (b : Int), .slice xd nd cd, .slice xs ns cs, .bool same, .bool nl, .int .i64 ahead, .int .i64 behind]] w fun e w' => e = .returned (.bool true) ∧ Below w.heap.size w w' := by
  obtain ⟨W0, hW0⟩ : ∃ W0, W0 = w.alloc (.cells #[.int .i64 kind, .int .u8 (c : Int), .int .u8 (b : Int), .slice xd nd cd, .slice xs ns cs, .bool same, .bool nl, .int .i64 ahead, .int .i64 behind] 43) := ⟨_, rfl⟩
  have b0 : Below w.heap.size w W0 := by rw [hW0]; exact (Below.refl _ _).alloc (Nat.le_refl _) _
  have o0 := ho.below b0
  have cS := slices_nil kind c b xd nd cd xs ns cs same nl ahead behind W0 o0
  have cS : Calls Try.prog 27 #[.pointer none, .agg #[.int .i64 kind, .int .u8 (c : Int), .int .u8 (b : Int), .slice xd nd cd, .slice xs ns cs, .bool same, .bool nl, .int .i64 ahead, .int .i64 behind]] W0 fun e w' => e = .returned (.bool true) ∧ Below W0.heap.size W0 w' := cS
  have cP := fun W => kprod_nil (c : Int) (b : Int) W
  have cR := fun W => krow_nil (c : Int) W
  have hs0 := b0.size
  rw [hW0] at cS
  by_cases h1 : kind = 1
  · subst h1
    go_enter Try.func22, Try.ntmps22
    go_wp2_with (go_at_call 27; ((with_reducible refine (cS).mono ?_); rintro e w1 ⟨rfl, hb1⟩))
    go_ret
    rw [← hW0] at hb1
    exact ⟨rfl, b0.trans (hb1.mono hs0)⟩
  · have T1 : (kind == 1) = false := by simpa using h1
    by_cases h2 : kind = 2
    · subst h2
      clear h1 T1
      go_enter Try.func22, Try.ntmps22
      go_wp2_with (go_at_call 27; ((with_reducible refine (cS).mono ?_); rintro e w1 ⟨rfl, hb1⟩))
      go_ret
      rw [← hW0] at hb1
      exact ⟨rfl, b0.trans (hb1.mono hs0)⟩
    · have T2 : (kind == 2) = false := by simpa using h2
      by_cases h3 : kind = 3
      · subst h3
        clear h1 T1 h2 T2
        go_enter Try.func22, Try.ntmps22
        go_wp2_with (go_at_call 19; ((with_reducible refine (cP _).mono ?_); (rintro e w1 ⟨rfl, hw1⟩; have hw1 := hw1.symm; subst hw1)))
        go_ret
        rw [← hW0]
        exact ⟨rfl, b0⟩
      · have T3 : (kind == 3) = false := by simpa using h3
        by_cases h4 : kind = 4
        · subst h4
          clear h1 T1 h2 T2 h3 T3
          go_enter Try.func22, Try.ntmps22
          go_wp2_with (go_at_call 16; ((with_reducible refine (cR _).mono ?_); (rintro e w1 ⟨rfl, hw1⟩; have hw1 := hw1.symm; subst hw1)))
          go_ret
          rw [← hW0]
          exact ⟨rfl, b0⟩
        · have T4 : (kind == 4) = false := by simpa using h4
          clear h1 h2 h3 h4
          go_enter Try.func22, Try.ntmps22
          go_wp2
          go_ret
          rw [← hW0]
          exact ⟨rfl, b0⟩
end Go.Proofs.Ytefhlnplegagfaa
