import Derived.Test.YtefhlnplegagfaaEbb
namespace Go.Proofs.Ytefhlnplegagfaa
open Go.RowKit Gf2
set_option linter.unusedVariables false

/-- the mark at place i. -/
def mk8 (M i : Nat) : Nat := (M + i) % 256
theorem mark_wrap (M k : Nat) : IntKind.u8.wrap ((M : Int) + IntKind.u8.wrap (k : Int)) = ((mk8 M k : Nat) : Int) := by unfold mk8; simp only [IntKind.wrap_u8]; omega
theorem mk8_lt (M i : Nat) : mk8 M i < 256 := Nat.mod_lt _ (by decide)

set_option maxHeartbeats 2000000 in
set_option maxRecDepth 100000 in
theorem laid5_any (v : Value) (n : Nat) (S : Nat → Nat) (ahead behind : Int) (M : Nat) (w : World) (h : Rb w v n S) (hn : n ≤ 140737488355000) (hM : M < 256) :
    Calls Try.prog 36 #[v, .int .i64 ahead, .int .i64 behind, .int .u8 (M : Int)] w fun e w' =>
      (∃ a, e = .returned (.tuple #[.slice (some ⟨w.heap.size, 0, none⟩) (rm ahead + n + rm behind) (rm ahead + n + rm behind), .slice a n (n + rm behind)]) ∧ (0 < n → a = some ⟨w.heap.size, rm ahead, none⟩)) ∧
      Rw w' w.heap.size (rm ahead + n + rm behind) (pl (mk8 M) (rm ahead) n S) ∧ Below w.heap.size w w' ∧ w'.heap.size = w.heap.size + 1 := by
  obtain ⟨h1, h2, a, cap, rfl, h5, h6, h4⟩ := h
  have c1 := room5_int ahead
  have c2 := room5_int behind
  have l1 := rm_lt ahead
  have l2 := rm_lt behind
  obtain ⟨p, hp⟩ : ∃ p, p = rm ahead := ⟨_, rfl⟩
  obtain ⟨q, hq⟩ : ∃ q, q = rm behind := ⟨_, rfl⟩
  rw [← hp] at c1 l1
  rw [← hq] at c2 l2
  rw [← hp, ← hq]
  clear hp hq
  obtain ⟨N, hN⟩ : ∃ N, N = p + n + q := ⟨_, rfl⟩
  rw [← hN]
  have hmk := make_u8 N (by omega)
  have eN : ((N : Nat) : Int) = (p : Int) + (n : Int) + (q : Int) := by omega
  rw [eN] at hmk
  clear eN
  have HN : Hid (N = p + n + q) := hN
  clear hN
  go_enter Try.func36, Try.ntmps36
  go_wp2_with (go_at_call 40; first | ((with_reducible refine (c1 _).mono ?_); (rintro e w9 ⟨rfl, hw9⟩; have hw9 := hw9.symm; subst hw9)) | ((with_reducible refine (c2 _).mono ?_); (rintro e w9 ⟨rfl, hw9⟩; have hw9 := hw9.symm; subst hw9)))
  clear c1 c2 hmk
  go_loopw [12] (fun i wr => ∃ k : Nat, k ≤ N ∧ i = .int .i64 k ∧ wr.heap.size = w.heap.size + 1 ∧ Rw wr w.heap.size N (fun x => if x < k then mk8 M x else 0) ∧ Below w.heap.size w wr) (fun i _ => N - (intOf i).toNat)
  case atStart =>
    refine ⟨0, Nat.zero_le _, rfl, by simp, ?_, (Below.refl _ _).alloc (Nat.le_refl _) _⟩
    have hN := HN.out
    exact (made_rw N (by omega) w).congr (fun i _ => (if_neg (Nat.not_lt_zero _)).symm)
  case round =>
    obtain ⟨k, hk, rfl, hsz, hr, hb⟩ := hrel
    by_cases hlt : k < N
    · have q1 := hr.2.2.cell hlt
      simp only [Nat.lt_irrefl, if_false] at q1
      have hNb : N ≤ big := hr.1
      have q2 := hr.2.2.frozen k
      have ib : ((k : Nat) : Int) < (N : Int) := by omega
      have W1 := wrap_succ8 (j := k) (by omega)
      have V := mark_wrap M k
      have HV : Hid (Rw wr w.heap.size N (fun x => if x < k then mk8 M x else 0) ∧ wr.heap.size = w.heap.size + 1 ∧ Below w.heap.size w wr) := ⟨hr, hsz, hb⟩
      clear hr hsz hb hn h1 h2 h4 h5 h6 hNb hM l1 l2
      go_wp2
      go_roundw
      case rel =>
        obtain ⟨g0, g1, g2⟩ := HV.out
        refine ⟨k + 1, hlt, by first | rfl | (rw [W1]; rfl), by simp [g1], ⟨g0.1, fun i hi => ?_, (g0.2.2.set k _).congr (fun i hi => ?_)⟩, g2.setCell (by simp) _⟩
        · show (if i < k + 1 then mk8 M i else 0) < 256
          split
          · exact mk8_lt _ _
          · decide
        · by_cases e : i = k
          · subst e; rw [if_pos rfl]; show _ = Value.int .u8 (((if i < i + 1 then mk8 M i else 0) : Nat) : Int); rw [if_pos (Nat.lt_succ_self _), ← V]; simp only [IntKind.wrap_u8]; congr 1; omega
          · by_cases e2 : i < k
            · simp [e, e2, show i < k + 1 by omega]
            · simp [e, e2, show ¬ i < k + 1 by omega]
      case measure => first | exact meas_lt8 hlt | (rw [W1]; exact meas_lt8 hlt)
    · have hkN : k = N := by omega
      subst hkN
      have hN := HN.out
      have hr' : Rw wr w.heap.size k (mk8 M) := hr.congr (fun i hi => if_pos hi)
      obtain ⟨w2, hrun, hr2, ho⟩ := copy8_run wr (g := w.heap.size) (o := p) (dl := k - p) (cap := k - p) hr' (a := a) (n := n) (cap' := cap) (S := S) h2 (fun h0 => by
        obtain ⟨b, o, e, hl, hc⟩ := h4 h0
        exact ⟨b, o, e, fun i hi => (hb.cell (p := ⟨b, o + i, none⟩) hl).trans (hc i hi)⟩) (by omega) (by omega)
      have HF : Hid (Rw w2 w.heap.size k (pl (mk8 M) p n S) ∧ Below w.heap.size w w2 ∧ w2.heap.size = w.heap.size + 1) := ⟨hr2, hb.trans (ho.below (Nat.le_refl _)), ho.2.1.trans hsz⟩
      have HE : Hid (Rw wr w.heap.size k (mk8 M) ∧ Below w.heap.size w wr ∧ wr.heap.size = w.heap.size + 1) := ⟨hr', hb, hsz⟩
      have b1 : (p : Int) ≤ (k : Int) := by omega
      have b2 : (p : Int) + (n : Int) ≤ (k : Int) := by omega
      have b3 : p ≤ k := by omega
      have b4 : p + n ≤ k := by omega
      clear hr hr' hr2 ho hb hsz h4 h2 h1 h5 h6
      by_cases hpk : p < k
      · clear hN
        go_wp2
        go_quiet (fail)
        go_wp2
        go_ret2
        obtain ⟨f1, f2, f3⟩ := HF.out
        refine ⟨⟨_, ?_, fun _ => rfl⟩, f1, ⟨f2.os, f2.tape, f2.output, f2.size, f2.block⟩, f3⟩
        have hN := HN.out
        rw [Nat.add_sub_cancel_left, show k - p = n + q by omega]
        rfl
      · have e0 : n = 0 := by omega
        have e1 : q = 0 := by omega
        have e2 : k = p := by omega
        subst e0 e1 e2
        have hrun0 := run_copy_none (P := Try.prog) wr 25 25 3 5 (some ⟨w.heap.size, 0, none⟩) a 0 0 0 cap Try.underlying25 info_u8s rfl
        clear hN hrun b1 b2 b3 b4 hpk
        go_wp2
        go_quiet (fail)
        go_wp2
        go_ret2
        obtain ⟨f1, f2, f3⟩ := HE.out
        exact ⟨⟨_, rfl, fun h => absurd h (by decide)⟩, f1.congr (fun i hi => by rw [pl_out (by omega)]), ⟨f2.os, f2.tape, f2.output, f2.size, f2.block⟩, f3⟩

set_option maxHeartbeats 2000000 in
set_option maxRecDepth 100000 in
theorem around5_any (g N p n M cap : Nat) (F : Nat → Nat) (w : World) (h : Rw w g N F) (hM : M < 256) (hp : p + n ≤ 281474976710656) (hF : ∀ i, i < N → (i < p ∨ p + n ≤ i) → F i = mk8 M i) :
    Calls Try.prog 39 #[.slice (some ⟨g, 0, none⟩) N cap, .int .i64 (p : Int), .int .i64 (n : Int), .int .u8 (M : Int)] w fun e w' => e = .returned (.bool true) ∧ w' = w := by
  go_enter Try.func39, Try.ntmps39
  go_wp2
  go_loop [9] (fun i => ∃ k : Nat, k ≤ N ∧ i = .int .i64 k) (fun i => N - (intOf i).toNat)
  case atStart => exact ⟨0, Nat.zero_le _, rfl⟩
  case round =>
    obtain ⟨k, hk, rfl⟩ := hrel
    by_cases hlt : k < N
    · have q1 := h.2.2.cell hlt
      have hNb := h.1
      have ib : ((k : Nat) : Int) < (N : Int) := by omega
      have W1 := wrap_succ8 (j := k) (by omega)
      have T : (((mk8 M k : Nat) : Int) != ((M : Int) + (k : Int)) % 256) = false := by unfold mk8; simp
      have HNb : Hid (N ≤ big) := hNb
      by_cases e1 : k < p
      · rw [hF k hlt (.inl e1)] at q1
        have i1 : ((k : Nat) : Int) < (p : Int) := by omega
        clear hF h hNb hp hM
        go_wp2
        go_round
        case rel => exact ⟨k + 1, hlt, by first | rfl | (rw [W1]; rfl)⟩
        case measure => first | exact meas_lt8 hlt | (rw [W1]; exact meas_lt8 hlt)
      · have i1 : ¬ ((k : Nat) : Int) < (p : Int) := by omega
        by_cases e2 : k < p + n
        · have i2 : ¬ ((p : Int) + (n : Int) ≤ (k : Int)) := by omega
          clear hF h hM
          go_wp2
          go_round
          case rel => exact ⟨k + 1, hlt, by first | rfl | (rw [W1]; rfl)⟩
          case measure => first | exact meas_lt8 hlt | (rw [W1]; exact meas_lt8 hlt)
        · have i2 : ((p : Int) + (n : Int) ≤ (k : Int)) := by omega
          rw [hF k hlt (.inr (by omega))] at q1
          clear hF h hM
          go_wp2
          go_round
          case rel => exact ⟨k + 1, hlt, by first | rfl | (rw [W1]; rfl)⟩
          case measure => first | exact meas_lt8 hlt | (rw [W1]; exact meas_lt8 hlt)
    · have hkN : k = N := by omega
      subst hkN
      go_wp2
      go_ret
      exact ⟨rfl, rfl⟩
end Go.Proofs.Ytefhlnplegagfaa
