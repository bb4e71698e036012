import Derived.Test.YtldacjpkblffbabYhs
namespace Go.Proofs.Ytldacjpkblffbab
open Go.RowKit Gf2
set_option linter.unusedVariables false

-- layer 16: oneLength
set_option maxHeartbeats 4000000 in
set_option maxRecDepth 100000 in
theorem oneLength16 (f : Int) (g q : Nat) (V : Nat → Value) (cs : Nat → Nat) (ns : Nat → Nat → Nat) (w : World) (hq : q ≤ 2)
    (hV : ∀ t, t < q → w.cell? ⟨g, t, none⟩ = some (V t) ∧ Ln w (V t) (cs t) (ns t)) :
    Calls Try.prog 24 #[.int .i64 f, .slice (some ⟨g, 0, none⟩) q q] w fun e w' => e = .returned (.tuple #[.int .i64 (olv f (sco cs ns q)), .int .i64 (ole f (sco cs ns q))]) ∧ w' = w := by
  obtain ⟨zv, hzv⟩ : ∃ z, z = olv f (sco cs ns q) := ⟨_, rfl⟩
  obtain ⟨ze, hze⟩ : ∃ z, z = ole f (sco cs ns q) := ⟨_, rfl⟩
  rw [← hzv, ← hze]
  have HZ : Hid (zv = olv f (sco cs ns q) ∧ ze = ole f (sco cs ns q)) := ⟨hzv, hze⟩
  have HV : Hid (∀ t, t < q → w.cell? ⟨g, t, none⟩ = some (V t) ∧ Ln w (V t) (cs t) (ns t)) := hV
  have HQ : Hid (q ≤ 2) := hq
  clear hzv hze hV hq
  go_enter Try.func24, Try.ntmps24
  go_wp2
  go_loopw [6, 13] (fun s i wr => ∃ t l : Nat, t ≤ q ∧ i = .int .i64 t ∧ s = .int .i64 (l : Nat) ∧ sco cs ns t = some l ∧ wr = w) (fun _ i _ => q - (intOf i).toNat)
  case atStart => exact ⟨0, 0, Nat.zero_le _, rfl, rfl, rfl, rfl⟩
  case round =>
    obtain ⟨t, l, ht, rfl, rfl, hs, rfl⟩ := hrel
    by_cases hlt : t < q
    · obtain ⟨p1, hL⟩ := HV.out t hlt
      obtain ⟨h1, h2, a, cap, hv, h4, h5, h6⟩ := hL
      rw [hv] at p1
      have it : ((t : Nat) : Int) < (q : Int) := by omega
      have WT := wrap_succ8 (j := t) (by have := HQ.out; unfold big; omega)
      have HT : Hid (t < q ∧ sco cs ns t = some l ∧ cs t ≤ 281474976710656) := ⟨hlt, hs, h1⟩
      obtain ⟨c, hc⟩ : ∃ c, c = cs t := ⟨_, rfl⟩
      obtain ⟨n, hn⟩ : ∃ n, n = ns t := ⟨_, rfl⟩
      rw [← hc] at p1 h6
      rw [← hn] at h6
      have HC : Hid (c = cs t ∧ n = ns t) := ⟨hc, hn⟩
      clear hv h1 h2 h4 h5 hs ht hlt hc hn
      go_wp2
      go_loopw [6, 19] (fun s i w2 => ∃ k x : Nat, k ≤ c ∧ i = .int .i64 k ∧ s = .int .i64 (x : Nat) ∧ scf (some l) n k = some x ∧ w2 = wr) (fun _ i _ => c - (intOf i).toNat)
      case atStart => exact ⟨0, l, Nat.zero_le _, rfl, rfl, rfl, rfl⟩
      case round =>
        obtain ⟨k, x, hk, rfl, rfl, hs, rfl⟩ := hrel
        by_cases hlt : k < c
        · obtain ⟨b, o, rfl, -, hcc⟩ := h6 (by omega)
          obtain ⟨y1, y2, q1⟩ := hcc k hlt
          have ib : ((k : Nat) : Int) < (c : Int) := by omega
          have W1 := wrap_succ8 (j := k) (by have := HT.out.2.2; have := HC.out.1; unfold big; omega)
          have c1 := fun w => isEmpty16 y1 (n k) y2 w
          by_cases hn : n k = 0
          · have HS : Hid (scf (some l) n (k + 1) = some x) := scf_zero hs hn
            have e1 : (n k == 0) = true := by simpa using hn
            rw [e1] at c1
            rw [hn] at q1 c1
            clear hcc h6 hn e1 hs
            go_wp2_with (go_at_call 26; ((with_reducible refine (c1 _).mono ?_); (rintro e w9 ⟨rfl, hw9⟩; have hw9 := hw9.symm; subst hw9)))
            go_roundw
            case rel => exact ⟨k + 1, x, hlt, by first | rfl | (rw [W1]; rfl), rfl, HS.out, by trivial⟩
            case measure => first | exact meas_lt8 hlt | (rw [W1]; exact meas_lt8 hlt)
          · have e1 : (n k == 0) = false := by simpa using hn
            rw [e1] at c1
            by_cases hl : x = 0
            · have HS : Hid (scf (some l) n (k + 1) = some (n k)) := scf_good hs hn (.inl hl)
              subst hl
              obtain ⟨nk, hnk⟩ : ∃ nk, nk = n k := ⟨_, rfl⟩
              rw [← hnk] at q1 c1
              have HK : Hid (nk = n k) := hnk
              clear hcc h6 hn e1 hs hnk
              go_wp2_with (go_at_call 26; ((with_reducible refine (c1 _).mono ?_); (rintro e w9 ⟨rfl, hw9⟩; have hw9 := hw9.symm; subst hw9)))
              go_roundw
              case rel => exact ⟨k + 1, nk, hlt, by first | rfl | (rw [W1]; rfl), rfl, by rw [HK.out]; exact HS.out, by trivial⟩
              case measure => first | exact meas_lt8 hlt | (rw [W1]; exact meas_lt8 hlt)
            · have e3 : (((x : Nat) : Int) != 0) = true := by simpa using hl
              by_cases he : n k = x
              · have HS : Hid (scf (some l) n (k + 1) = some x) := by have := scf_good hs hn (.inr he); rw [he] at this; exact this
                rw [he] at q1 c1
                clear hcc h6 hn e1 hs he hl
                go_wp2_with (go_at_call 26; ((with_reducible refine (c1 _).mono ?_); (rintro e w9 ⟨rfl, hw9⟩; have hw9 := hw9.symm; subst hw9)))
                go_roundw
                case rel => exact ⟨k + 1, x, hlt, by first | rfl | (rw [W1]; rfl), rfl, HS.out, by trivial⟩
                case measure => first | exact meas_lt8 hlt | (rw [W1]; exact meas_lt8 hlt)
              · have hbad : sco cs ns q = none := by
                  refine sco_none (a := t + 1) ?_ HT.out.1
                  rw [sco, HT.out.2.1, ← HC.out.1, ← HC.out.2]
                  exact scf_none (scf_bad hs hn hl he) hlt
                have hz1 : zv = 0 := by rw [HZ.out.1, hbad]; rfl
                have hz2 : ze = 162 := by rw [HZ.out.2, hbad]; rfl
                subst hz1 hz2
                generalize n k = nk at q1 c1 he
                clear hcc h6 hn e1 hs hl hbad
                go_wp2_with (go_at_call 26; ((with_reducible refine (c1 _).mono ?_); (rintro e w9 ⟨rfl, hw9⟩; have hw9 := hw9.symm; subst hw9)))
                go_ret2
                exact ⟨rfl, rfl⟩
        · have htl : ¬ ((k : Nat) : Int) < (c : Int) := fun e => hlt (Int.ofNat_lt.1 e)
          obtain rfl : k = c := by omega
          have HS : Hid (sco cs ns (t + 1) = some x) := by
            show _ = _
            rw [sco, HT.out.2.1, ← HC.out.1, ← HC.out.2]; exact hs
          clear h6 hs
          go_wp2
          go_roundw
          case rel => exact ⟨t + 1, x, HT.out.1, by first | rfl | (rw [WT]; rfl), rfl, HS.out, by trivial⟩
          case measure => first | exact meas_lt8 HT.out.1 | (rw [WT]; exact meas_lt8 HT.out.1)
    · have htl : ¬ ((t : Nat) : Int) < (q : Int) := fun e => hlt (Int.ofNat_lt.1 e)
      obtain rfl : t = q := by omega
      obtain ⟨z1, z2⟩ := HZ.out
      rw [hs] at z1 z2
      have T3 : (l : Int).tmod 2 = ((l % 2 : Nat) : Int) := (Int.ofNat_tmod _ _).symm
      by_cases h2 : f = 2
      · subst h2
        by_cases ho : l % 2 = 1
        · have hz1 : zv = 0 := by rw [z1, olv, if_pos ⟨rfl, ho⟩]
          have hz2 : ze = 8 := by rw [z2, ole, if_pos ⟨rfl, ho⟩]
          subst hz1 hz2
          have T4 : (l : Int) % 2 = 1 := by omega
          rw [ho] at T3
          clear z1 z2 hs ho HV HQ HZ
          go_wp2
          go_ret2
          exact ⟨rfl, rfl⟩
        · have hz1 : zv = (l : Int) := by rw [z1, olv, if_neg (fun h => ho h.2)]
          have hz2 : ze = 0 := by rw [z2, ole, if_neg (fun h => ho h.2)]
          have T4 : (l : Int) % 2 = 0 := by omega
          rw [show l % 2 = 0 by omega] at T3
          subst hz1 hz2
          clear z1 z2 hs ho HV HQ HZ
          go_wp2
          go_ret2
          exact ⟨rfl, rfl⟩
      · have hz1 : zv = (l : Int) := by rw [z1, olv, if_neg (fun h => h2 h.1)]
        have hz2 : ze = 0 := by rw [z2, ole, if_neg (fun h => h2 h.1)]
        have E2 : (f == 2) = false := by simpa using h2
        subst hz1 hz2
        clear z1 z2 hs HV HQ HZ T3
        go_wp2
        go_ret2
        exact ⟨rfl, rfl⟩
end Go.Proofs.Ytldacjpkblffbab
