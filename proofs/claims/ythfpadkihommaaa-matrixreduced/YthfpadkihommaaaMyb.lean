import Derived.Test.YthfpadkihommaaaMya
namespace Go.Proofs.Ythfpadkihommaaa
open Go.RowKit Gf2
set_option linter.unusedVariables false

set_option maxHeartbeats 2000000 in
set_option maxRecDepth 100000 in
theorem one10_true (v : Value) (n : Nat) (F : Nat → Nat → Nat) (w : World) (h : Lb w v n (fun _ => n) F) (e : ∀ r i, r < n → i < n → F r i = idm r i) :
    Calls Try.prog 16 #[v, .int .i64 (n : Int)] w fun e w' => e = .returned (.bool true) ∧ w' = w := by
  obtain ⟨V, ⟨hn, a, cap, rfl, -, -, h4⟩, hV⟩ := h
  go_enter Try.func16, Try.ntmps16
  go_wp2
  go_loopw [5] (fun i wr => ∃ k : Nat, k ≤ n ∧ i = .int .i64 k ∧ wr = w) (fun i _ => n - (intOf i).toNat)
  case atStart => exact ⟨0, Nat.zero_le _, rfl, rfl⟩
  case round =>
    obtain ⟨k, hk, rfl, rfl⟩ := hrel
    by_cases hlt : k < n
    · obtain ⟨b, o, rfl, -, hc⟩ := h4 (by omega)
      obtain ⟨nb, lf, x1, y1, e1, -, -, r1⟩ := hV k hlt
      have q1 : wr.cell? ⟨b, o + k, none⟩ = some (.slice x1 n y1) := by rw [← e1]; exact hc k hlt
      obtain ⟨b1, o1, rfl, -, z1⟩ := r1 (by omega)
      have ib : ((k : Nat) : Int) < (n : Int) := by omega
      have W1 := wrap_succ8 (j := k) (by omega)
      have HW : Hid (n ≤ big ∧ k < n) := ⟨hn, hlt⟩
      have HZ : Hid (∀ c, c < n → wr.cell? ⟨b1, o1 + c, none⟩ = some (.int .u8 (idm k c : Nat))) := fun c hc => by rw [z1 c hc, e k c hlt hc]
      clear hc h4 hn hV e lf nb hlt r1 e1 hk z1
      go_wp2
      go_loopw [6] (fun j w2 => ∃ c : Nat, c ≤ n ∧ j = .int .i64 c ∧ w2 = wr) (fun j _ => n - (intOf j).toNat)
      case atStart => exact ⟨0, Nat.zero_le _, rfl, rfl⟩
      case round =>
        obtain ⟨c, hc, rfl, hw3⟩ := hrel
        subst hw3
        by_cases hct : c < n
        · have q5 := HZ.out c hct
          have jb : ((c : Nat) : Int) < (n : Int) := by omega
          have W2 := wrap_succ8 (j := c) (by have := HW.out.1; omega)
          have HX : Hid (c < n) := hct
          by_cases hkc : k = c
          · subst hkc
            rw [show idm k k = 1 by unfold idm; rw [if_pos rfl]] at q5
            clear hc hct
            go_wp2
            go_roundw
            case rel => exact ⟨k + 1, HX.out, by first | rfl | (rw [W2]; rfl), by trivial⟩
            case measure => first | exact meas_lt8 HX.out | (rw [W2]; exact meas_lt8 HX.out)
          · rw [show idm k c = 0 by unfold idm; rw [if_neg hkc]] at q5
            have hI : ¬ ((k : Nat) : Int) = ((c : Nat) : Int) := fun e => hkc (Int.ofNat.inj e)
            clear hc hct hkc
            go_wp2
            go_roundw
            case rel => exact ⟨c + 1, HX.out, by first | rfl | (rw [W2]; rfl), by trivial⟩
            case measure => first | exact meas_lt8 HX.out | (rw [W2]; exact meas_lt8 HX.out)
        · have hcn : c = n := by omega
          subst hcn
          clear hc hct
          go_wp2
          go_roundw
          case rel => exact ⟨k + 1, HW.out.2, by first | rfl | (rw [W1]; rfl), by trivial⟩
          case measure => first | exact meas_lt8 HW.out.2 | (rw [W1]; exact meas_lt8 HW.out.2)
    · have hkm : k = n := by omega
      subst hkm
      go_wp2
      go_ret
      exact ⟨rfl, rfl⟩

/-- what side answers. -/
def SdP (m : Nat) (n : Nat → Nat) (w : World) (e : Ending) (w' : World) : Prop := (∃ e0 : Nat, e = .returned (.int .i64 (e0 : Nat)) ∧ (e0 = m ∧ Fm m n ∨ e0 = 0 ∧ ¬ Fm m n)) ∧ ∃ q, w' = w.drewN q
set_option maxHeartbeats 2000000 in
set_option maxRecDepth 100000 in
theorem side10_any (v : Value) (m : Nat) (n : Nat → Nat) (S : Nat → Nat → Nat) (w : World) (h : Lb w v m n S) :
    Calls Try.prog 11 #[v] w (SdP m n w) := by
  obtain ⟨V, ⟨hn, a, cap, rfl, -, -, h4⟩, hV⟩ := h
  by_cases h1 : 1 ≤ m
  case neg =>
    have e0 : m = 0 := by omega
    subst e0
    have nF : ¬ Fm 0 n := fun f => h1 f.1
    go_enter Try.func11, Try.ntmps11
    go_wp2
    go_ret
    exact ⟨⟨0, rfl, .inr ⟨rfl, nF⟩⟩, 0, rfl⟩
  case pos =>
  by_cases h2 : m ≤ 256
  case neg =>
    have nF : ¬ Fm m n := fun f => h2 f.2.1
    have g1 : ¬ (m : Int) < 1 := by omega
    have g2 : 256 < (m : Int) := by omega
    clear h4 hV h2 hn
    go_enter Try.func11, Try.ntmps11
    go_wp2
    go_ret
    exact ⟨⟨0, rfl, .inr ⟨rfl, nF⟩⟩, 0, rfl⟩
  case pos =>
  obtain ⟨b, o, rfl, hbl, hc⟩ := h4 (by omega)
  clear h4
  have sl : ∀ i, i < m → ∃ x y, w.cell? ⟨b, o + i, none⟩ = some (.slice x (n i) y) := fun i hi => by
    obtain ⟨_, _, x, y, e, _⟩ := hV i hi
    exact ⟨x, y, by rw [hc i hi, e]⟩
  obtain ⟨x0, y0, z0⟩ := sl 0 (by omega)
  rw [Nat.add_zero] at z0
  clear hc hV
  have i0 : (0 : Int) < (m : Int) := by omega
  have g1 : ¬ (m : Int) < 1 := by omega
  have g2 : ¬ 256 < (m : Int) := by omega
  by_cases h3 : 1 ≤ n 0
  case neg =>
    have nF : ¬ Fm m n := fun f => h3 f.2.2.1
    have g3 : (n 0 : Int) < 1 := by omega
    clear h3 sl
    go_enter Try.func11, Try.ntmps11
    go_wp2
    go_ret
    exact ⟨⟨0, rfl, .inr ⟨rfl, nF⟩⟩, 0, rfl⟩
  case pos =>
  have g3 : ¬ (n 0 : Int) < 1 := by omega
  by_cases h4 : n 0 ≤ 512
  case neg =>
    have nF : ¬ Fm m n := fun f => h4 f.2.2.2.1
    have g4 : 512 < (n 0 : Int) := by omega
    clear h3 h4 sl
    go_enter Try.func11, Try.ntmps11
    go_wp2
    go_ret
    exact ⟨⟨0, rfl, .inr ⟨rfl, nF⟩⟩, 0, rfl⟩
  case pos =>
  have g4 : ¬ 512 < (n 0 : Int) := by omega
  have HF : Hid (1 ≤ m ∧ m ≤ 256 ∧ 1 ≤ n 0 ∧ n 0 ≤ 512) := ⟨h1, h2, h3, h4⟩
  have HS : Hid _ := sl
  clear h1 h2 h3 h4 hn sl
  go_enter Try.func11, Try.ntmps11
  go_wp2
  clear g1 g2 g3 g4
  go_loopw [3] (fun i wr => ∃ k q : Nat, k ≤ m ∧ i = .int .i64 k ∧ Hid (∀ i, i < k → n i = n 0) ∧ Hid (wr = w.drewN q)) (fun i _ => m - (intOf i).toNat)
  case atStart => exact ⟨0, 0, Nat.zero_le _, rfl, fun i hi => absurd hi (Nat.not_lt_zero _), rfl⟩
  case round =>
    obtain ⟨k, q, hk, rfl, HE, hw⟩ := hrel
    by_cases hlt : k < m
    · obtain ⟨xk, yk, zk⟩ := HS.out k hlt
      have zk : wr.cell? ⟨b, o + k, none⟩ = some (.slice xk (n k) yk) := by rw [hw.out]; exact zk
      have zz : wr.cell? ⟨b, o, none⟩ = some (.slice x0 (n 0) y0) := by rw [hw.out]; exact z0
      have ib : ((k : Nat) : Int) < (m : Int) := by omega
      have W1 := wrap_succ8 (j := k) (by have := HF.out; unfold big; omega)
      have HX : Hid (k < m) := hlt
      by_cases hnk : n k = n 0
      · have Hn : Hid (n k = n 0) := hnk
        rw [hnk] at zk
        clear hnk hlt hk z0
        go_wp2
        go_quiet (fail)
        go_wp2
        go_roundw
        case rel =>
          refine ⟨k + 1, q + nq, HX.out, by first | rfl | (rw [W1]; rfl), fun i hi => ?_, by show _ = _; rw [hw.out, World.drewN_drewN]⟩
          by_cases e : i = k
          · rw [e]; exact Hn.out
          · exact HE.out i (by omega)
        case measure => first | exact meas_lt8 HX.out | (rw [W1]; exact meas_lt8 HX.out)
      · have hI : ¬ ((n k : Nat) : Int) = ((n 0 : Nat) : Int) := by omega
        have nF : Hid (¬ Fm m n) := fun f => hnk (f.2.2.2.2 k hlt)
        clear hnk hlt hk z0
        go_wp2
        go_quiet (fail)
        go_wp2
        go_ret
        exact ⟨⟨0, rfl, .inr ⟨rfl, nF.out⟩⟩, q + nq, by rw [hw.out, World.drewN_drewN]⟩
    · have hkn : k = m := by omega
      subst hkn
      clear z0 hk hlt
      go_wp2
      go_ret
      exact ⟨⟨k, rfl, .inl ⟨rfl, HF.out.1, HF.out.2.1, HF.out.2.2.1, HF.out.2.2.2, HE.out⟩⟩, q, hw.out⟩
theorem side10_yes (v : Value) (m : Nat) (n : Nat → Nat) (S : Nat → Nat → Nat) (w : World) (h : Lb w v m n S) (hf : Fm m n) :
    Calls Try.prog 11 #[v] w fun e w' => e = .returned (.int .i64 (m : Int)) ∧ ∃ q, w' = w.drewN q :=
  (side10_any v m n S w h).mono fun e w' ⟨⟨e0, h1, h2⟩, h3⟩ => ⟨by rcases h2 with ⟨h2, _⟩ | ⟨_, h2⟩; rw [h1, h2]; exact absurd hf h2, h3⟩
theorem side10_no (v : Value) (m : Nat) (n : Nat → Nat) (S : Nat → Nat → Nat) (w : World) (h : Lb w v m n S) (hf : ¬ Fm m n) :
    Calls Try.prog 11 #[v] w fun e w' => e = .returned (.int .i64 0) ∧ ∃ q, w' = w.drewN q :=
  (side10_any v m n S w h).mono fun e w' ⟨⟨e0, h1, h2⟩, h3⟩ => ⟨by rcases h2 with ⟨_, h2⟩ | ⟨h2, _⟩; exact absurd h2 hf; rw [h1, h2]; rfl, h3⟩
end Go.Proofs.Ythfpadkihommaaa
