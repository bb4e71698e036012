import Derived.Test.YtdaolpbpifppbaaGreatMjbb
namespace Go.Proofs.YtdaolpbpifppbaaGreat
open Go.RowKit Gf2
set_option linter.unusedVariables false

set_option maxHeartbeats 4000000 in
set_option maxRecDepth 100000 in
theorem kxor_gen (n g o N : Nat) (F : Nat → Nat) (rd : (Nat → Nat) → Nat → Nat) (a x : Option Addr) (ca cx : Nat) (w : World) (hn : n ≤ big)
    (hR : Rw w g N F) (hd : 0 < n → a = some ⟨g, o, none⟩ ∧ o + n ≤ N) (hx : 0 < n → Reads w g N n x rd) :
    Calls Tryz.prog 55 #[.slice a n ca, .slice x n cx] w fun e w' => e = .returned (.int .i64 0) ∧ Only g w w' ∧ Rw w' g N (goes (fun d s => d ^^^ s) o rd F n) := by
  by_cases h0 : 0 < n
  · obtain ⟨rfl, hoN⟩ := hd h0
    obtain ⟨h, q, rfl, hrd⟩ := hx h0
    have c1 : Hid (∀ w' G, Only g w w' → Rw w' g N G → ∀ i, i < n → rd G i < 256 ∧ w'.cell? ⟨h, q + i, none⟩ = some (.int .u8 (rd G i : Nat))) := hrd
    clear hrd
    go_enter Tryz.func55, Tryz.ntmps55
    go_wp2
    go_loopw [14] (fun i wr => ∃ k : Nat, k ≤ n ∧ i = .int .i64 k ∧ Only g w wr ∧ Rw wr g N (goes (fun d s => d ^^^ s) o rd F k)) (fun i _ => n - (intOf i).toNat)
    case atStart => exact ⟨0, Nat.zero_le _, rfl, Only.refl _ _, hR⟩
    case round =>
      obtain ⟨k, hk, rfl, ho, hr⟩ := hrel
      by_cases hlt : k < n
      · obtain ⟨G, hG⟩ : ∃ G, G = goes (fun d s => d ^^^ s) o rd F k := ⟨_, rfl⟩
        rw [← hG] at hr
        obtain ⟨ls, qs⟩ := c1.out wr G ho hr k hlt
        obtain ⟨s, hs⟩ : ∃ s, s = rd G k := ⟨_, rfl⟩
        rw [← hs] at ls qs
        have q1 := hr.2.2.cell (i := o + k) (by omega)
        have q2 := hr.2.2.frozen (o + k)
        have lf : G (o + k) ^^^ s < 256 := Nat.xor_lt_two_pow (n := 8) (hr.2.1 _ (by omega)) ls
        have new : Rw (wr.setCell ⟨g, o + k, none⟩ (.int .u8 (G (o + k) ^^^ s : Nat))) g N (goes (fun d s => d ^^^ s) o rd F (k + 1)) := by
          refine ⟨hr.1, fun i hi => ?_, (hr.2.2.set (o + k) _).congr (fun i hi => ?_)⟩
          · unfold goes
            rw [← hG, ← hs]
            split
            · exact lf
            · exact hr.2.1 i hi
          · unfold goes
            rw [← hG, ← hs]
            by_cases e : i = o + k
            · rw [if_pos e, if_pos e]
            · rw [if_neg e, if_neg e]
        have HP : Hid (Only g w (wr.setCell ⟨g, o + k, none⟩ (.int .u8 (G (o + k) ^^^ s : Nat))) ∧ Rw (wr.setCell ⟨g, o + k, none⟩ (.int .u8 (G (o + k) ^^^ s : Nat))) g N (goes (fun d s => d ^^^ s) o rd F (k + 1))) := ⟨ho.setCell _ _, new⟩
        have X := u8_xor_nat (G (o + k)) s (hr.2.1 _ (by omega)) ls
        have ib : ((k : Nat) : Int) < (n : Int) := by omega
        have W1 := wrap_succ8 (j := k) (by omega)
        clear new hr ho hG hs hR hd hx hn lf
        go_wp2
        go_roundw
        case rel => exact ⟨k + 1, hlt, by first | rfl | (rw [W1]; rfl), HP.out.1, HP.out.2⟩
        case measure => first | exact meas_lt8 hlt | (rw [W1]; exact meas_lt8 hlt)
      · have hkn : k = n := by omega
        subst hkn
        clear hx hd
        go_wp2
        go_ret
        exact ⟨rfl, ho, hr⟩
  · have hn0 : n = 0 := by omega
    subst hn0
    go_enter Tryz.func55, Tryz.ntmps55
    go_wp2
    refine wp_loop_rounds 1 ?_
    rw [rounds_succ]
    go_wp2
    go_ret
    exact ⟨rfl, Only.refl _ _, hR⟩
theorem kxor_far (n g o N : Nat) (F S : Nat → Nat) (a : Option Addr) (ca : Nat) (v : Value) (w : World) (hca : n ≤ ca) (hcb : ca ≤ big) (hn : n ≤ big)
    (hR : Rw w g N F) (hd : 0 < n → a = some ⟨g, o, none⟩) (hoN : o + n ≤ N) (hx : Re (fun x => x = g) w v n S) :
    Calls Tryz.prog 55 #[.slice a n ca, v] w fun e w' => e = .returned (.int .i64 0) ∧ Kp g w w' ∧ Rw w' g N (pl F o n (fun j => F (o + j) ^^^ S j)) := by
  obtain ⟨x, cx, hv, hcx⟩ : ∃ x cx, v = .slice x n cx ∧ n ≤ cx := by obtain ⟨_, _, a, cap, h, h', _⟩ := id hx; exact ⟨a, cap, h, h'⟩
  subst hv
  exact (kxor_gen n g o N F (fun _ => S) a x ca cx w hn hR (fun h => ⟨hd h, hoN⟩) (fun h => (hx.fk.reads h).only)).mono fun e w' ⟨h1, h2, h3⟩ => ⟨h1, h2.kp, h3.congr (fun i _ => goes_far _ _ _ _ _ _)⟩
end Go.Proofs.YtdaolpbpifppbaaGreat
