import Derived.Test.YtaepcecjblojjabDoorDtak
namespace Go.Proofs.YtaepcecjblojjabDoor
open Go.RowKit Gf2

/-- both parsers' two results. -/
def parV : Option Nat → Int × Int
  | some v => ((v : Int), 0)
  | none => (0, 13)
/-- what the string means. -/
def refV (s : ByteArray) : Option Nat := if s.toList == [48] then some 0 else if s.size = 0 then none else refP 64 (byt s) 0

theorem refV_zero {s : ByteArray} (h : (s.toList == [48]) = true) : parV (refV s) = (0, 0) := by
  unfold refV; rw [if_pos h]; rfl
theorem refV_nil {s : ByteArray} (h : (s.toList == [48]) = false) (h0 : s.size = 0) : parV (refV s) = (0, 13) := by
  unfold refV; rw [if_neg (by rw [h]; decide), if_pos h0]; rfl
theorem refV_else {s : ByteArray} (h : (s.toList == [48]) = false) (h0 : ¬ s.size = 0) : refV s = refP 64 (byt s) 0 := by
  unfold refV; rw [if_neg (by rw [h]; decide), if_neg h0]
theorem isEmpty_of {s : ByteArray} (h : s.size = 0) : s.toList.isEmpty = true := by
  rw [Lib.toList_data]
  cases hd : s.data.toList with
  | nil => rfl
  | cons x l => rw [Lib.size_eq, hd] at h; simp at h

set_option maxHeartbeats 1000000 in
theorem refParse_any (s : ByteArray) (w : World) (_hs : s.size ≤ maxLen) :
    Calls Tryd.prog 43 #[.string s] w fun r w' => r = .returned (.tuple #[.int .u64 (parV (refV s)).1, .int .i64 (parV (refV s)).2]) ∧ Below w.heap.size w w' := by
  cases h48 : (s.toList == [48]) with
  | true =>
    rw [refV_zero h48]
    go_enter Tryd.func43, Tryd.ntmps43
    go_wp2
    go_ret2
    exact ⟨rfl, Below.refl _ _⟩
  | false =>
  by_cases h0 : s.size = 0
  · rw [refV_nil h48 h0]
    have E := isEmpty_of h0
    go_enter Tryd.func43, Tryd.ntmps43
    go_wp2
    go_ret2
    exact ⟨rfl, Below.refl _ _⟩
  have E := isEmpty_not h0
  rw [refV_else h48 h0]
  have HS : Hid (0 < s.size) := Nat.pos_of_ne_zero h0
  clear h0
  generalize hV : refP 64 (byt s) 0 = V
  go_enter Tryd.func43, Tryd.ntmps43
  go_wp2
  go_loopw [4, 5, 6] (fun t a y wr => ∃ k n p : Nat, k ≤ 64 ∧ n < 2 ^ (64 - k) ∧ p + 5 * k ≤ 320 ∧ p ≤ s.size ∧ t = .int .u64 (n : Int) ∧ a = .int .i64 (p : Int) ∧ y = .int .i64 ((k : Int) - 1) ∧ Hid (refP k ((byt s).drop p) n = V) ∧ Below w.heap.size w wr) (fun _ _ y _ => (intOf y + 1).toNat)
  case atStart => exact ⟨64, 0, 0, by decide, by decide, by decide, by omega, rfl, rfl, rfl, hV, Below.refl _ _⟩
  case round =>
    obtain ⟨k, n, p, hk, hn, h5, hp, rfl, rfl, rfl, HP, hbw⟩ := hrel
    by_cases hlt : 0 < k
    · obtain ⟨i, rfl⟩ : ∃ i, k = i + 1 := ⟨k - 1, by omega⟩
      have hi1 : (((i + 1 : Nat) : Int) - 1) = (i : Int) := by omega
      rw [hi1]
      have hn2 := two_n hn (by omega)
      have ct := fun w => refTerm_nat i w (by omega)
      have hts := termB_size i
      have hstep := @refP_step ((byt s).drop p) i n
      rw [HP.out] at hstep
      clear HP
      have hpn := pref_no s p i (by omega)
      have hpi := pref_iff s p i (by omega)
      rw [drop_term s p i (by omega)] at hstep
      have hh := head_at s (p + (termB i).size)
      rw [tail_at] at hstep
      simp only [drop_nil] at hstep
      by_cases hA : s.size < p + (termB i).size
      · have HV : Hid (refP i ((byt s).drop p) (2 * n) = V) := by
          show _ = V
          rw [hstep, if_neg (by rw [hpn hA]; simp)]
        clear hstep hpn hpi hh
        generalize termB i = T at *
        have T1 : decide (((p : Int) + (T.size : Int)) > (s.size : Int)) = true := by simp; omega
        go_wp2_with (go_at_call 53; with_reducible refine (ct _).mono ?_; rintro e w2 ⟨rfl, hb2⟩)
        go_roundw
        case rel => exact ⟨i, 2 * n, p, by omega, by omega, by omega, hp, by go_num, rfl, by go_num, HV, hbw.trans (hb2.mono hbw.size)⟩
        case measure => simp [intOf]
      · have hA2 : p + (termB i).size ≤ s.size := by omega
        cases hB : ((s.extract p (p + (termB i).size)).toList == (termB i).toList) with
        | false =>
          have HV : Hid (refP i ((byt s).drop p) (2 * n) = V) := by
            show _ = V
            rw [hstep, if_neg (by rw [hpi hA2, hB]; simp)]
          clear hstep hpn hpi hh
          generalize termB i = T at *
          go_wp2_with (go_at_call 53; with_reducible refine (ct _).mono ?_; rintro e w2 ⟨rfl, hb2⟩)
          go_roundw
          case rel => exact ⟨i, 2 * n, p, by omega, by omega, by omega, hp, by go_num, rfl, by go_num, HV, hbw.trans (hb2.mono hbw.size)⟩
          case measure => simp [intOf]
        | true =>
          have hpt := (hpi hA2).2 hB
          by_cases hE : p + (termB i).size = s.size
          · have HV : Hid (refP i ((byt s).drop s.size) (2 * n + 1) = V) := by
              show _ = V
              rw [hstep, if_pos ⟨hpt, .inl (by omega)⟩, if_pos (by omega), (drop_nil s s.size).2 (by omega)]
            clear hstep hpn hpi hh hpt
            have hB2 : ((s.extract p s.size).toList == (termB i).toList) = true := by rw [← hE]; exact hB
            generalize termB i = T at *
            go_wp2_with (go_at_call 53; with_reducible refine (ct _).mono ?_; rintro e w2 ⟨rfl, hb2⟩)
            go_roundw
            case rel => exact ⟨i, 2 * n + 1, s.size, by omega, by omega, by omega, by omega, by go_num, by rw [← hE]; go_num, by go_num, HV, hbw.trans (hb2.mono hbw.size)⟩
            case measure => simp [intOf]
          · have hlt2 : p + (termB i).size < s.size := by omega
            have hg := hh hlt2
            generalize hb : s[p + (termB i).size] = by_ at hg
            have hg2 : s[p + (termB i).size]? = some by_ := by rw [← hb]; exact getElem?_pos ..
            by_cases h43 : by_ = 43
            · subst h43
              have hif : (trm i).isPrefixOf (List.drop p (byt s)) = true ∧ (s.size ≤ p + (termB i).size ∨ (List.drop (p + (termB i).size) (byt s)).head? = some 43) := ⟨hpt, .inr (by rw [hg]; rfl)⟩
              rw [if_pos hif, if_neg (by omega)] at hstep
              by_cases hF : s.size = p + (termB i).size + 1
              · have HV : Hid (V = none) := by
                  show V = none
                  rw [hstep, if_pos (by omega)]
                clear hstep hpn hpi hh hpt hif
                generalize termB i = T at *
                have T4 : (((p : Int) + (T.size : Int) + 1) == (s.size : Int)) = true := by simp; omega
                go_wp2_with (go_at_call 53; with_reducible refine (ct _).mono ?_; rintro e w2 ⟨rfl, hb2⟩)
                go_ret2
                rw [HV.out]
                exact ⟨rfl, hbw.trans (hb2.mono hbw.size)⟩
              · have HV : Hid (refP i ((byt s).drop (p + (termB i).size + 1)) (2 * n + 1) = V) := by
                  show _ = V
                  rw [hstep, if_neg (by omega)]
                clear hstep hpn hpi hh hpt hif
                generalize termB i = T at *
                have T4 : (((p : Int) + (T.size : Int) + 1) == (s.size : Int)) = false := by simp; omega
                go_wp2_with (go_at_call 53; with_reducible refine (ct _).mono ?_; rintro e w2 ⟨rfl, hb2⟩)
                go_roundw
                case rel => exact ⟨i, 2 * n + 1, p + T.size + 1, by omega, by omega, by omega, by omega, by go_num, by go_num, by go_num, HV, hbw.trans (hb2.mono hbw.size)⟩
                case measure => simp [intOf]
            · have T3 : (((by_.toNat : Nat) : Int) == 43) = false := by
                simp only [beq_eq_false_iff_ne, ne_eq]
                intro h
                exact h43 (UInt8.toNat_inj.1 (by simpa using Int.ofNat_inj.1 h))
              have HV : Hid (refP i ((byt s).drop p) (2 * n) = V) := by
                show _ = V
                rw [hstep, if_neg ?_]
                rintro ⟨_, h | h⟩
                · omega
                · rw [hg] at h
                  simp at h
                  exact h43 (UInt8.toNat_inj.1 h)
              clear hstep hpn hpi hh hpt
              generalize termB i = T at *
              go_wp2_with (go_at_call 53; with_reducible refine (ct _).mono ?_; rintro e w2 ⟨rfl, hb2⟩)
              go_roundw
              case rel => exact ⟨i, 2 * n, p, by omega, by omega, by omega, hp, by go_num, rfl, by go_num, HV, hbw.trans (hb2.mono hbw.size)⟩
              case measure => simp [intOf]
    · have hk0 : k = 0 := by omega
      subst hk0
      have HP2 : Hid (V = if s.size ≤ p then some n else none) := by
        show V = _
        rw [← HP.out]
        unfold refP
        simp only [drop_nil]
      by_cases hq : p = s.size
      · have HV : Hid (V = some n) := by show V = some n; rw [HP2.out, if_pos (by omega)]
        have T5 : ((p : Int) == (s.size : Int)) = true := by simp; omega
        clear HP2 HP
        go_wp2
        go_ret2
        rw [HV.out]
        exact ⟨rfl, hbw⟩
      · have HV : Hid (V = none) := by show V = none; rw [HP2.out, if_neg (by omega)]
        have T5 : ((p : Int) == (s.size : Int)) = false := by simp; omega
        clear HP2 HP
        go_wp2
        go_ret2
        rw [HV.out]
        exact ⟨rfl, hbw⟩
end Go.Proofs.YtaepcecjblojjabDoor
