import Derived.Test.YtemjodlhpelbaaaDoorLea
namespace Go.Proofs.YtemjodlhpelbaaaDoor
open Go.RowKit Gf2
set_option linter.unusedVariables false

theorem zero_row16 (w : World) : (w.alloc (.cells (Array.replicate 16 (Value.int .u16 0)) 53)).rowIs w.heap.size 53 16 (fun i => .int .u16 ((if i < 0 then 1 else 0 : Nat) : Int)) := by
  refine ⟨_, heap_alloc_new _ _, by simp, fun i hi => ?_⟩
  rw [Array.getElem?_replicate, if_pos hi]
  show _ = some (Value.int .u16 ((if i < 0 then 1 else 0 : Nat) : Int))
  rw [if_neg (Nat.not_lt_zero _)]
  rfl
set_option maxHeartbeats 4000000 in
set_option maxRecDepth 100000 in
theorem eval13_yes (v : Value) (n x : Nat) (F : Nat → Nat) (w : World) (h : Q6 w v n F) (hn : n ≤ 65536) (hx : x < 65536) (hC : Cant w) :
    Calls Tryd.prog 17 #[v, .int .u16 (x : Int)] w fun e w' => e = .returned (.tuple #[.int .u16 (sxx x F n : Nat), .int .i64 0]) ∧ Below w.heap.size w w' := by
  obtain ⟨hb0, hF, a, cap, rfl, hc1, hc2, h4⟩ := h
  have D1 : decide ((65536 : Int) < (n : Int)) = false := by simp; omega
  by_cases h0 : n = 0
  · subst h0
    rw [show sxx x F 0 = 0 from rfl]
    clear hF h4 hc1 hc2 hb0 hn hC
    go_enter Tryd.func17, Tryd.ntmps17
    go_wp2
    go_ret2
    exact ⟨rfl, Below.refl _ _⟩
  · obtain ⟨b, o, rfl, hbl, hcell⟩ := h4 (by omega)
    have D2 : ((n : Int) == 0) = false := by simp; omega
    obtain ⟨E, hE⟩ : ∃ E, E = sxx x F n := ⟨_, rfl⟩
    rw [← hE]
    have HE : Hid (E = sxx x F n) := hE
    clear hE
    have hz := fun w => zero_u16x16 w
    have hz2 := zero_row16 w
    have ba := below_alloc w (.cells (Array.replicate 16 (Value.int .u16 0)) 53)
    have HQ : Hid (b < w.heap.size ∧ (∀ j, j < n → F j < 65536 ∧ w.cell? ⟨b, o + j, none⟩ = some (.int .u16 (F j : Nat))) ∧ 0 < n ∧ n ≤ 65536 ∧ n ≤ cap ∧ x < 65536) := ⟨hbl, fun j hj => ⟨hF j hj, hcell j hj⟩, by omega, hn, hc1, hx⟩
    have HC : Hid (Cant w) := hC
    have HR : Hid ((w.alloc (.cells (Array.replicate 16 (Value.int .u16 0)) 53)).rowIs w.heap.size 53 16 (fun i => .int .u16 ((if i < 0 then sv i x else 0 : Nat) : Int))) := hz2.congr (fun i _ => by rw [if_neg (Nat.not_lt_zero _), if_neg (Nat.not_lt_zero _)])
    have HA : Hid (Below w.heap.size w (w.alloc (.cells (Array.replicate 16 (Value.int .u16 0)) 53))) := ba
    clear hF h4 hc1 hc2 hb0 hn hC hbl hcell hx h0 hz2 ba
    go_enter Tryd.func17, Tryd.ntmps17
    go_wp2
    clear hz
    go_loopw [14] (fun tv wq => ∃ t : Nat, t ≤ 16 ∧ tv = .int .i64 t ∧ wq.rowIs w.heap.size 53 16 (fun i => .int .u16 ((if i < t then sv i x else 0 : Nat) : Int)) ∧ Below w.heap.size w wq) (fun tv _ => 16 - (intOf tv).toNat)
    case atStart => exact ⟨0, Nat.zero_le _, rfl, HR.out, HA.out⟩
    case round =>
      obtain ⟨t, ht, rfl, hr, hb⟩ := hrel
      by_cases hlt : t < 16
      · have tb : ((t : Nat) : Int) < 16 := Int.ofNat_lt.2 hlt
        have W1 := wrap_succ8 (j := t) (Nat.lt_trans hlt (by decide))
        have c1 := vanish13 t x ht HQ.out.2.2.2.2.2 wr (HC.out.below hb)
        have q1 := hr.cell hlt
        have q2 := hr.frozen t
        have HV : Hid ((wr.setCell ⟨w.heap.size, t, none⟩ (.int .u16 ((sv t x : Nat) : Int))).rowIs w.heap.size 53 16 (fun i => .int .u16 ((if i < t + 1 then sv i x else 0 : Nat) : Int)) ∧ Below w.heap.size w (wr.setCell ⟨w.heap.size, t, none⟩ (.int .u16 ((sv t x : Nat) : Int)))) :=
          ⟨(hr.set t _).congr (fun i _ => by
            by_cases e : i = t
            · subst e; rw [if_pos rfl, if_pos (Nat.lt_succ_self _)]
            · rw [if_neg e]
              by_cases e2 : i < t
              · rw [if_pos e2, if_pos (Nat.lt_succ_of_lt e2)]
              · rw [if_neg e2, if_neg (by omega)]), hb.setCell (Nat.le_refl _) _⟩
        obtain ⟨V, hV⟩ : ∃ V, V = sv t x := ⟨_, rfl⟩
        rw [← hV] at c1 HV
        clear hr hb hV
        go_wp2_with (go_at_call 31; ((with_reducible refine (c1).mono ?_); (rintro e w9 ⟨rfl, hw9⟩; have hw9 := hw9.symm; subst hw9)))
        go_roundw
        case rel => exact ⟨t + 1, hlt, by first | rfl | (rw [W1]; rfl), HV.out.1, HV.out.2⟩
        case measure => first | exact meas_lt8 hlt | (rw [W1]; exact meas_lt8 hlt)
      · have ht6 : t = 16 := Nat.le_antisymm ht (Nat.le_of_not_lt hlt)
        subst ht6
        obtain ⟨k1, k2, k3, k4, k5, k6⟩ := HQ.out
        have c2 : Calls Tryd.prog 32 #[.slice (some ⟨b, o, none⟩) n cap, .pointer (some ⟨w.heap.size, 0, none⟩)] wr fun e w' => e = .returned (.int .u16 (sxx x F n : Nat)) ∧ Below w.heap.size w w' :=
          (value13 w.heap.size x n b o cap F wr k3 k4 k5 (Nat.lt_of_lt_of_le k1 hb.size) (fun j hj => ⟨(k2 j hj).1, (hb.cell (p := ⟨b, o + j, none⟩) k1).trans (k2 j hj).2⟩) ⟨hr.lt, fun i hi => by rw [hr.cell hi, if_pos hi]⟩).mono fun e w' ⟨he, m, hm⟩ => ⟨he, by rw [hm]; exact below_drewN hb m⟩
        rw [← HE.out] at c2
        clear hr hb k1 k2 k3 k4 k5 k6
        go_wp2_with (go_at_call 32; ((with_reducible refine (c2).mono ?_); (rintro e w9 ⟨rfl, hb9⟩)))
        go_ret2
        exact ⟨rfl, hb9⟩
end Go.Proofs.YtemjodlhpelbaaaDoor
