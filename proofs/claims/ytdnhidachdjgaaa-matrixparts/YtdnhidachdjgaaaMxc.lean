import Derived.Test.YtdnhidachdjgaaaMxb
namespace Go.Proofs.Ytdnhidachdjgaaa
open Go.RowKit Gf2
set_option linter.unusedVariables false

set_option maxHeartbeats 2000000 in
set_option maxRecDepth 100000 in
theorem check10_any (v : Value) (m : Nat) (n : Nat → Nat) (S : Nat → Nat → Nat) (w : World) (h : Lb w v m n S) :
    Calls Try.prog 34 #[v] w fun e w' => (∃ e0 : Nat, e = .returned (.int .i64 (e0 : Nat)) ∧ (e0 = 0 ∧ Fm m n ∨ e0 = 100 ∧ ¬ Fm m n)) ∧ w' = w := by
  obtain ⟨V, ⟨hn, a, cap, rfl, -, -, h4⟩, hV⟩ := h
  by_cases h1 : 1 ≤ m ∧ m ≤ 256
  case neg =>
    have c1 := fun x => within10_no (m : Int) 256 x (by omega)
    have nF : ¬ Fm m n := fun f => h1 ⟨f.1, f.2.1⟩
    go_enter Try.func34, Try.ntmps34
    go_wp2_with (go_at_call 37; (with_reducible refine (c1 _).mono ?_); rintro e w9 ⟨rfl, hw9⟩; have hw9 := hw9.symm; subst hw9)
    go_ret
    exact ⟨⟨100, rfl, .inr ⟨rfl, nF⟩⟩, rfl⟩
  case pos =>
    have c1 := fun x => within10_yes (m : Int) 256 x (by omega) (by omega)
    obtain ⟨b, o, rfl, hbl, hc⟩ := h4 (by omega)
    clear h4
    have sl : ∀ i, i < m → ∃ x y, w.cell? ⟨b, o + i, none⟩ = some (.slice x (n i) y) := fun i hi => by
      obtain ⟨_, _, x, y, e, _⟩ := hV i hi
      exact ⟨x, y, by rw [hc i hi, e]⟩
    obtain ⟨x0, y0, z0⟩ := sl 0 (by omega)
    rw [Nat.add_zero] at z0
    clear hc hV
    have i0 : (0 : Int) < (m : Int) := by omega
    by_cases h2 : 1 ≤ n 0 ∧ n 0 ≤ 512
    case neg =>
      have c2 := fun x => within10_no (n 0 : Int) 512 x (by omega)
      have nF : ¬ Fm m n := fun f => h2 ⟨f.2.2.1, f.2.2.2.1⟩
      go_enter Try.func34, Try.ntmps34
      go_wp2_with (go_at_call 37; first | ((with_reducible refine (c1 _).mono ?_); rintro e w9 ⟨rfl, hw9⟩; have hw9 := hw9.symm; subst hw9) | ((with_reducible refine (c2 _).mono ?_); rintro e w9 ⟨rfl, hw9⟩; have hw9 := hw9.symm; subst hw9))
      go_ret
      exact ⟨⟨100, rfl, .inr ⟨rfl, nF⟩⟩, rfl⟩
    case pos =>
      have c2 := fun x => within10_yes (n 0 : Int) 512 x (by omega) (by omega)
      go_enter Try.func34, Try.ntmps34
      go_wp2_with (go_at_call 37; first | ((with_reducible refine (c1 _).mono ?_); rintro e w9 ⟨rfl, hw9⟩; have hw9 := hw9.symm; subst hw9) | ((with_reducible refine (c2 _).mono ?_); rintro e w9 ⟨rfl, hw9⟩; have hw9 := hw9.symm; subst hw9))
      clear c1 c2
      go_loopw [19] (fun i wr => ∃ k : Nat, k ≤ m ∧ i = .int .i64 k ∧ (∀ i, i < k → n i = n 0) ∧ wr = w) (fun i _ => m - (intOf i).toNat)
      case atStart => exact ⟨0, Nat.zero_le _, rfl, fun i hi => absurd hi (Nat.not_lt_zero _), rfl⟩
      case round =>
        obtain ⟨k, hk, rfl, hE, rfl⟩ := hrel
        by_cases hlt : k < m
        · obtain ⟨xk, yk, zk⟩ := sl k hlt
          have ib : ((k : Nat) : Int) < (m : Int) := by omega
          have W1 := wrap_succ8 (j := k) (by unfold big; omega)
          have HE : Hid (∀ i, i < k → n i = n 0) := hE
          by_cases hnk : n k = n 0
          · have Hn : Hid (n k = n 0) := hnk
            rw [hnk] at zk
            clear sl hE hnk
            go_wp2
            go_roundw
            case rel =>
              refine ⟨k + 1, hlt, by first | rfl | (rw [W1]; rfl), fun i hi => ?_, by trivial⟩
              by_cases e : i = k
              · rw [e]; exact Hn.out
              · exact HE.out i (by omega)
            case measure => first | exact meas_lt8 hlt | (rw [W1]; exact meas_lt8 hlt)
          · have hI : ¬ ((n k : Nat) : Int) = ((n 0 : Nat) : Int) := by omega
            have nF : ¬ Fm m n := fun f => hnk (f.2.2.2.2 k hlt)
            clear sl hE hnk
            go_wp2
            go_ret
            exact ⟨⟨100, rfl, .inr ⟨rfl, nF⟩⟩, rfl⟩
        · have hkn : k = m := by omega
          subst hkn
          clear sl
          go_wp2
          go_ret
          exact ⟨⟨0, rfl, .inl ⟨rfl, h1.1, h1.2, h2.1, h2.2, hE⟩⟩, rfl⟩
theorem check10_yes (v : Value) (m : Nat) (n : Nat → Nat) (S : Nat → Nat → Nat) (w : World) (h : Lb w v m n S) (hf : Fm m n) :
    Calls Try.prog 34 #[v] w fun e w' => e = .returned (.int .i64 0) ∧ w' = w :=
  (check10_any v m n S w h).mono fun e w' ⟨⟨e0, h1, h2⟩, h3⟩ => ⟨by rcases h2 with ⟨h2, _⟩ | ⟨_, h2⟩; rw [h1, h2]; rfl; exact absurd hf h2, h3⟩
theorem check10_no (v : Value) (m : Nat) (n : Nat → Nat) (S : Nat → Nat → Nat) (w : World) (h : Lb w v m n S) (hf : ¬ Fm m n) :
    Calls Try.prog 34 #[v] w fun e w' => e = .returned (.int .i64 100) ∧ w' = w :=
  (check10_any v m n S w h).mono fun e w' ⟨⟨e0, h1, h2⟩, h3⟩ => ⟨by rcases h2 with ⟨_, h2⟩ | ⟨h2, _⟩; exact absurd h2 hf; rw [h1, h2]; rfl, h3⟩

set_option maxHeartbeats 2000000 in
set_option maxRecDepth 100000 in
theorem ident10_no (n : Int) (w : World) (h : n < 1 ∨ 256 < n) :
    Calls Try.prog 33 #[.int .i64 n] w fun e w' => e = .returned (.tuple #[.slice none 0 0, .int .i64 100]) ∧ w' = w := by
  have c1 := fun x => within10_no n 256 x h
  go_enter Try.func33, Try.ntmps33
  go_wp2_with (go_at_call 37; (with_reducible refine (c1 _).mono ?_); rintro e w9 ⟨rfl, hw9⟩; have hw9 := hw9.symm; subst hw9)
  go_ret2
  exact ⟨rfl, rfl⟩
set_option maxHeartbeats 2000000 in
set_option maxRecDepth 100000 in
theorem ident10_yes (n : Nat) (w : World) (h1 : 1 ≤ n) (h2 : n ≤ 256) :
    Calls Try.prog 33 #[.int .i64 (n : Int)] w fun e w' => ∃ v, e = .returned (.tuple #[v, .int .i64 0]) ∧ Ans w w' v n n idm := by
  have c1 := fun x => within10_yes (n : Int) 256 x (by omega) (by omega)
  have c2 := fun x => zeros10_any n n x (by omega) (by omega)
  go_enter Try.func33, Try.ntmps33
  go_wp2_with (first | (go_at_call 37; (with_reducible refine (c1 _).mono ?_); rintro e w9 ⟨rfl, hw9⟩; have hw9 := hw9.symm; subst hw9) | (go_at_call 39; (with_reducible refine (c2 _).mono ?_); rintro e w1 ⟨rfl, hz⟩))
  clear c1 c2
  have hC := hz.cs (by unfold big; omega) (by unfold big; omega)
  have hb := hz.bel
  clear hz
  generalize hB : (fun i => w.heap.size + 1 + i) = B at hC
  clear hB
  go_loopw [14] (fun i wr => ∃ k : Nat, k ≤ n ∧ i = .int .i64 k ∧ Cs w.heap.size w1.heap.size wr (.slice (some ⟨w.heap.size, 0, none⟩) n n) n (fun _ => n) (fun _ => n) B (fun i j => if i < k ∧ i = j then 1 else 0) ∧ Below w.heap.size w wr) (fun i _ => n - (intOf i).toNat)
  case atStart => exact ⟨0, Nat.zero_le _, rfl, hC.congr (fun i _ j _ => (if_neg (by omega)).symm), hb⟩
  case round =>
    obtain ⟨k, hk, rfl, hC', hb'⟩ := hrel
    clear hC hb
    by_cases hlt : k < n
    · have q1 := hC'.at_ hlt
      have q2 := hC'.cell_ hlt (j := k) hlt
      have q3 := hC'.froz hlt k
      have ib : ((k : Nat) : Int) < (n : Int) := by omega
      have W1 := wrap_succ8 (j := k) (by unfold big; omega)
      have HZ : Hid (Cs w.heap.size w1.heap.size (wr.setCell ⟨B k, k, none⟩ (.int .u8 ((1 : Nat) : Int))) (.slice (some ⟨w.heap.size, 0, none⟩) n n) n (fun _ => n) (fun _ => n) B (fun i j => if i < k + 1 ∧ i = j then 1 else 0) ∧ Below w.heap.size w (wr.setCell ⟨B k, k, none⟩ (.int .u8 ((1 : Nat) : Int)))) :=
        ⟨(hC'.set hlt k 1 (by decide)).congr (fun i _ j _ => by
          show (if i = k ∧ j = k then 1 else if i < k ∧ i = j then 1 else 0) = (if i < k + 1 ∧ i = j then 1 else 0)
          by_cases e : i = k ∧ j = k
          · rw [if_pos e, if_pos (by omega)]
          · rw [if_neg e]
            by_cases e2 : i < k ∧ i = j
            · rw [if_pos e2, if_pos (by omega)]
            · rw [if_neg e2, if_neg (by omega)]), hC'.bel hb' hlt k _⟩
      clear hC' hb'
      go_wp2
      go_roundw
      case rel => exact ⟨k + 1, hlt, by first | rfl | (rw [W1]; rfl), HZ.out.1, HZ.out.2⟩
      case measure => first | exact meas_lt8 hlt | (rw [W1]; exact meas_lt8 hlt)
    · have hkn : k = n := by omega
      subst hkn
      go_wp2
      go_ret2
      exact ⟨_, rfl, (hC'.ans (Nat.le_refl _) hb').congr (fun i hi j hj => by
        unfold idm
        by_cases e : i = j
        · rw [if_pos ⟨hi, e⟩, if_pos e]
        · rw [if_neg (fun h => e h.2), if_neg e])⟩
end Go.Proofs.Ytdnhidachdjgaaa
