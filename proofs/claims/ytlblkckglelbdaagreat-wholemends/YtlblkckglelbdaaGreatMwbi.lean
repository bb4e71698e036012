import Derived.Test.YtlblkckglelbdaaGreatMwam
import Derived.Test.YtlblkckglelbdaaGreatMwal
import Derived.BigQuiet
import Derived.Test.YtlblkckglelbdaaGreatMwan
import Derived.Deep.OwnRows
namespace Go.Proofs.YtlblkckglelbdaaGreat
open Go.ChangeShapes Go.WideShapes Go.ChangeAt Go.RowKit Go.Deep
set_option linter.unusedVariables false

-- layer 16: what came in, opened
theorem balloc16 (w : World) (o : Obj) : Below w.heap.size w (w.alloc o) := (Below.refl _ _).alloc (Nat.le_refl _) _
theorem bthen16 {w a b : World} (h : Below w.heap.size w a) (k : Below a.heap.size a b) : Below w.heap.size w b := h.trans (k.mono h.size)
end Go.Proofs.YtlblkckglelbdaaGreat
namespace Go.Proofs.YtlblkckglelbdaaGreat
open Go.RowKit Gf2
set_option linter.unusedVariables false

-- layer 16: lengths of lists: plain mathematics, and lists read by their lengths
/-- the one length of what is not empty among the first k, behind s; none: two unlike ones. -/
def scf (s : Option Nat) (n : Nat → Nat) : Nat → Option Nat
  | 0 => s
  | k + 1 => match scf s n k with
    | none => none
    | some l => if n k = 0 then some l else if l ≠ 0 ∧ n k ≠ l then none else some (n k)
theorem scf_zero {s : Option Nat} {n : Nat → Nat} {k l : Nat} (h : scf s n k = some l) (h0 : n k = 0) : scf s n (k + 1) = some l := by
  rw [scf, h]; simp only; rw [if_pos h0]
theorem scf_bad {s : Option Nat} {n : Nat → Nat} {k l : Nat} (h : scf s n k = some l) (h0 : n k ≠ 0) (h1 : l ≠ 0) (h2 : n k ≠ l) : scf s n (k + 1) = none := by
  rw [scf, h]; simp only; rw [if_neg h0, if_pos ⟨h1, h2⟩]
theorem scf_good {s : Option Nat} {n : Nat → Nat} {k l : Nat} (h : scf s n k = some l) (h0 : n k ≠ 0) (h1 : l = 0 ∨ n k = l) : scf s n (k + 1) = some (n k) := by
  rw [scf, h]; simp only; rw [if_neg h0, if_neg (by omega)]
theorem scf_none {s : Option Nat} {n : Nat → Nat} {a b : Nat} (h : scf s n a = none) (hab : a ≤ b) : scf s n b = none := by
  induction b with
  | zero => obtain rfl : a = 0 := by omega
            exact h
  | succ b ih =>
    by_cases e : a = b + 1
    · rw [← e]; exact h
    · rw [scf, ih (by omega)]
theorem scf_from_none (n : Nat → Nat) (k : Nat) : scf none n k = none := scf_none (a := 0) rfl (Nat.zero_le _)
/-- the length over several lists. -/
def sco (cs : Nat → Nat) (ns : Nat → Nat → Nat) : Nat → Option Nat
  | 0 => some 0
  | t + 1 => scf (sco cs ns t) (ns t) (cs t)
theorem sco_none {cs : Nat → Nat} {ns : Nat → Nat → Nat} {a b : Nat} (h : sco cs ns a = none) (hab : a ≤ b) : sco cs ns b = none := by
  induction b with
  | zero => obtain rfl : a = 0 := by omega
            exact h
  | succ b ih =>
    by_cases e : a = b + 1
    · rw [← e]; exact h
    · rw [sco, ih (by omega)]; exact scf_from_none _ _
/-- what oneLength answers. -/
def ole (f : Int) : Option Nat → Int
  | none => 162
  | some l => if f = 2 ∧ l % 2 = 1 then 8 else 0
def olv (f : Int) : Option Nat → Int
  | none => 0
  | some l => if f = 2 ∧ l % 2 = 1 then 0 else (l : Int)

theorem ole_odd {f : Int} {l : Nat} (h : f = 2 ∧ l % 2 = 1) : ole f (some l) = 8 := if_pos h
theorem ole_even {f : Int} {l : Nat} (h : ¬ (f = 2 ∧ l % 2 = 1)) : ole f (some l) = 0 := if_neg h
theorem olv_even {f : Int} {l : Nat} (h : ¬ (f = 2 ∧ l % 2 = 1)) : olv f (some l) = (l : Int) := if_neg h
/-- a list of c lists, the i-th of the length n i. -/
def Ln (w : World) (v : Value) (c : Nat) (n : Nat → Nat) : Prop := c ≤ 281474976710656 ∧ (∀ i, i < c → n i ≤ big) ∧ ∃ a cap, v = .slice a c cap ∧ c ≤ cap ∧ cap ≤ big ∧ (0 < c → ∃ b o, a = some ⟨b, o, none⟩ ∧ b < w.heap.size ∧ ∀ i, i < c → ∃ x y, w.cell? ⟨b, o + i, none⟩ = some (.slice x (n i) y))
theorem Ln.below {w w' : World} {v : Value} {c : Nat} {n : Nat → Nat} (h : Ln w v c n) (hb : Below w.heap.size w w') : Ln w' v c n := by
  obtain ⟨h1, h2, a, cap, h3, h4, h5, h6⟩ := h
  refine ⟨h1, h2, a, cap, h3, h4, h5, fun h0 => ?_⟩
  obtain ⟨b, o, e, hl, hc⟩ := h6 h0
  refine ⟨b, o, e, Nat.lt_of_lt_of_le hl hb.size, fun i hi => ?_⟩
  obtain ⟨x, y, z⟩ := hc i hi
  exact ⟨x, y, (hb.cell (p := ⟨b, o + i, none⟩) hl).trans z⟩
theorem Ll.ln {E : Nat → Prop} {w : World} {v : Value} {c : Nat} {n : Nat → Nat} {S : Nat → Nat → Nat} (h : Ll E w v c n S) (hc : c ≤ 281474976710656) : Ln w v c n := by
  obtain ⟨V, ⟨h1, a, cap, h3, h5, h6, h4⟩, hV⟩ := h
  refine ⟨hc, fun i hi => (hV i hi).1, a, cap, h3, h5, h6, fun h0 => ?_⟩
  obtain ⟨b, o, e, hl, hc⟩ := h4 h0
  refine ⟨b, o, e, hl.1, fun i hi => ?_⟩
  obtain ⟨-, -, x, y, e2, -⟩ := hV i hi
  exact ⟨x, y, by rw [hc i hi, e2]⟩
theorem Ln.congr {w : World} {v : Value} {c : Nat} {n n' : Nat → Nat} (h : Ln w v c n) (e : ∀ i, i < c → n i = n' i) : Ln w v c n' := by
  obtain ⟨h1, h2, a, cap, h3, h4, h5, h6⟩ := h
  refine ⟨h1, fun i hi => by rw [← e i hi]; exact h2 i hi, a, cap, h3, h4, h5, fun h0 => ?_⟩
  obtain ⟨b, o, e1, hl, hc⟩ := h6 h0
  exact ⟨b, o, e1, hl, fun i hi => by rw [← e i hi]; exact hc i hi⟩
theorem Ln.form {w : World} {v : Value} {c : Nat} {n : Nat → Nat} (h : Ln w v c n) : ∃ a cap, v = .slice a c cap := by
  obtain ⟨h1, h2, a, cap, h3, h4, h5, h6⟩ := h
  exact ⟨a, cap, h3⟩
/-- the first k of them. -/
theorem Ln.head {w : World} {x : Option Addr} {c cx k : Nat} {n : Nat → Nat} (h : Ln w (.slice x c cx) c n) (hk : k ≤ c) : Ln w (.slice x k cx) k n := by
  obtain ⟨h1, h2, a, cap, h3, h4, h5, h6⟩ := h
  cases h3
  refine ⟨by omega, fun i hi => h2 i (by omega), x, cx, rfl, by omega, h5, fun h0 => ?_⟩
  obtain ⟨b, o, e1, hl, hc⟩ := h6 (by omega)
  exact ⟨b, o, e1, hl, fun i hi => hc i (by omega)⟩
/-- the numbers below k that P holds of. -/
def ems (P : Nat → Bool) (k : Nat) : List Nat := (List.range k).filter P
theorem ems_yes {P : Nat → Bool} {k : Nat} (h : P k = true) : ems P (k + 1) = ems P k ++ [k] := by unfold ems; rw [List.range_succ, List.filter_append]; simp [h]
theorem ems_no {P : Nat → Bool} {k : Nat} (h : P k = false) : ems P (k + 1) = ems P k := by unfold ems; rw [List.range_succ, List.filter_append]; simp [h]
theorem ems_le (P : Nat → Bool) (k : Nat) : (ems P k).length ≤ k := by unfold ems; exact Nat.le_trans (List.length_filter_le _ _) (by simp)
theorem ems_len_yes {P : Nat → Bool} {k : Nat} (h : P k = true) : (ems P (k + 1)).length = (ems P k).length + 1 := by rw [ems_yes h]; simp
/-- as a list of ints. -/
def emz (P : Nat → Bool) (k i : Nat) : Int := ((ems P k).getD i 0 : Nat)
theorem emz_step {P : Nat → Bool} {k : Nat} (h : P k = true) : ∀ i, i < (ems P (k + 1)).length → (if i < (ems P k).length then emz P k i else (k : Int)) = emz P (k + 1) i := by
  intro i hi
  rw [ems_len_yes h] at hi
  unfold emz
  rw [ems_yes h, List.getD_eq_getElem?_getD, List.getD_eq_getElem?_getD]
  by_cases e : i < (ems P k).length
  · rw [if_pos e, List.getElem?_append_left e]
  · rw [if_neg e, List.getElem?_append_right (by omega)]
    obtain rfl : i = (ems P k).length := by omega
    simp
theorem ems_full {P : Nat → Bool} {k : Nat} : (ems P k).length = k ↔ ∀ i, i < k → P i = true := by
  have hr : (List.range k).length = k := by simp
  unfold ems
  constructor
  · intro h i hi
    have := (List.length_filter_eq_length_iff (p := P) (l := List.range k)).1 (by rw [h, hr])
    exact this i (List.mem_range.2 hi)
  · intro h
    rw [(List.length_filter_eq_length_iff (p := P) (l := List.range k)).2 (fun a ha => h a (List.mem_range.1 ha)), hr]
end Go.Proofs.YtlblkckglelbdaaGreat
namespace Go.Proofs.YtlblkckglelbdaaGreat
open Go.RowKit Gf2
set_option linter.unusedVariables false

-- layer 16: isEmpty, isFull, anyEmpty, longest, unlike
set_option maxHeartbeats 2000000 in
set_option maxRecDepth 100000 in
theorem isEmpty16 (x : Option Addr) (n y : Nat) (w : World) :
    Calls Tryz.prog 50 #[.slice x n y] w fun e w' => e = .returned (.bool (n == 0)) ∧ w' = w := by
  by_cases h : n = 0
  · subst h
    go_enter Tryz.func50, Tryz.ntmps50
    go_wp2
    go_ret
    exact ⟨rfl, rfl⟩
  · have e : (n == 0) = false := by simpa using h
    have e2 : (((n : Nat) : Int) == 0) = false := by simpa using h
    rw [e]
    go_enter Tryz.func50, Tryz.ntmps50
    go_wp2
    go_ret
    exact ⟨rfl, rfl⟩
end Go.Proofs.YtlblkckglelbdaaGreat
namespace Go.Proofs.YtlblkckglelbdaaGreat
open Go.RowKit Gf2
set_option linter.unusedVariables false

-- layer 16: oneLength
set_option maxHeartbeats 4000000 in
set_option maxRecDepth 100000 in
theorem oneLength16 (f : Int) (g q : Nat) (V : Nat → Value) (cs : Nat → Nat) (ns : Nat → Nat → Nat) (w : World) (hq : q ≤ 2)
    (hV : ∀ t, t < q → w.cell? ⟨g, t, none⟩ = some (V t) ∧ Ln w (V t) (cs t) (ns t)) :
    Calls Tryz.prog 51 #[.int .i64 f, .slice (some ⟨g, 0, none⟩) q q] w fun e w' => e = .returned (.tuple #[.int .i64 (olv f (sco cs ns q)), .int .i64 (ole f (sco cs ns q))]) ∧ w' = w := by
  obtain ⟨zv, hzv⟩ : ∃ z, z = olv f (sco cs ns q) := ⟨_, rfl⟩
  obtain ⟨ze, hze⟩ : ∃ z, z = ole f (sco cs ns q) := ⟨_, rfl⟩
  rw [← hzv, ← hze]
  have HZ : Hid (zv = olv f (sco cs ns q) ∧ ze = ole f (sco cs ns q)) := ⟨hzv, hze⟩
  have HV : Hid (∀ t, t < q → w.cell? ⟨g, t, none⟩ = some (V t) ∧ Ln w (V t) (cs t) (ns t)) := hV
  have HQ : Hid (q ≤ 2) := hq
  clear hzv hze hV hq
  go_enter Tryz.func51, Tryz.ntmps51
  go_wp2
  go_loopw [6, 13] (fun s i wr => ∃ t l : Nat, t ≤ q ∧ i = .int .i64 t ∧ s = .int .i64 (l : Nat) ∧ sco cs ns t = some l ∧ wr = w) (fun _ i _ => q - (intOf i).toNat)
  case atStart => exact ⟨0, 0, Nat.zero_le _, rfl, rfl, rfl, rfl⟩
  case round =>
    obtain ⟨t, l, ht, rfl, rfl, hs, rfl⟩ := hrel
    by_cases hlt : t < q
    · obtain ⟨p1, hL⟩ := HV.out t hlt
      obtain ⟨h1, h2, a, cap, hv, h4, h5, h6⟩ := hL
      rw [hv] at p1
      have it : ((t : Nat) : Int) < (q : Int) := by omega
      have WT := wrap_succ8 (j := t) (by have := HQ.out; unfold big; omega)
      have HT : Hid (t < q ∧ sco cs ns t = some l ∧ cs t ≤ 281474976710656) := ⟨hlt, hs, h1⟩
      obtain ⟨c, hc⟩ : ∃ c, c = cs t := ⟨_, rfl⟩
      obtain ⟨n, hn⟩ : ∃ n, n = ns t := ⟨_, rfl⟩
      rw [← hc] at p1 h6
      rw [← hn] at h6
      have HC : Hid (c = cs t ∧ n = ns t) := ⟨hc, hn⟩
      clear hv h1 h2 h4 h5 hs ht hlt hc hn
      go_wp2
      go_loopw [6, 19] (fun s i w2 => ∃ k x : Nat, k ≤ c ∧ i = .int .i64 k ∧ s = .int .i64 (x : Nat) ∧ scf (some l) n k = some x ∧ w2 = wr) (fun _ i _ => c - (intOf i).toNat)
      case atStart => exact ⟨0, l, Nat.zero_le _, rfl, rfl, rfl, rfl⟩
      case round =>
        obtain ⟨k, x, hk, rfl, rfl, hs, rfl⟩ := hrel
        by_cases hlt : k < c
        · obtain ⟨b, o, rfl, -, hcc⟩ := h6 (by omega)
          obtain ⟨y1, y2, q1⟩ := hcc k hlt
          have ib : ((k : Nat) : Int) < (c : Int) := by omega
          have W1 := wrap_succ8 (j := k) (by have := HT.out.2.2; have := HC.out.1; unfold big; omega)
          have c1 := fun w => isEmpty16 y1 (n k) y2 w
          by_cases hn : n k = 0
          · have HS : Hid (scf (some l) n (k + 1) = some x) := scf_zero hs hn
            have e1 : (n k == 0) = true := by simpa using hn
            rw [e1] at c1
            rw [hn] at q1 c1
            clear hcc h6 hn e1 hs
            go_wp2_with (go_at_call 50; ((with_reducible refine (c1 _).mono ?_); (rintro e w9 ⟨rfl, hw9⟩; have hw9 := hw9.symm; subst hw9)))
            go_roundw
            case rel => exact ⟨k + 1, x, hlt, by first | rfl | (rw [W1]; rfl), rfl, HS.out, by trivial⟩
            case measure => first | exact meas_lt8 hlt | (rw [W1]; exact meas_lt8 hlt)
          · have e1 : (n k == 0) = false := by simpa using hn
            rw [e1] at c1
            by_cases hl : x = 0
            · have HS : Hid (scf (some l) n (k + 1) = some (n k)) := scf_good hs hn (.inl hl)
              subst hl
              obtain ⟨nk, hnk⟩ : ∃ nk, nk = n k := ⟨_, rfl⟩
              rw [← hnk] at q1 c1
              have HK : Hid (nk = n k) := hnk
              clear hcc h6 hn e1 hs hnk
              go_wp2_with (go_at_call 50; ((with_reducible refine (c1 _).mono ?_); (rintro e w9 ⟨rfl, hw9⟩; have hw9 := hw9.symm; subst hw9)))
              go_roundw
              case rel => exact ⟨k + 1, nk, hlt, by first | rfl | (rw [W1]; rfl), rfl, by rw [HK.out]; exact HS.out, by trivial⟩
              case measure => first | exact meas_lt8 hlt | (rw [W1]; exact meas_lt8 hlt)
            · have e3 : (((x : Nat) : Int) != 0) = true := by simpa using hl
              by_cases he : n k = x
              · have HS : Hid (scf (some l) n (k + 1) = some x) := by have := scf_good hs hn (.inr he); rw [he] at this; exact this
                rw [he] at q1 c1
                clear hcc h6 hn e1 hs he hl
                go_wp2_with (go_at_call 50; ((with_reducible refine (c1 _).mono ?_); (rintro e w9 ⟨rfl, hw9⟩; have hw9 := hw9.symm; subst hw9)))
                go_roundw
                case rel => exact ⟨k + 1, x, hlt, by first | rfl | (rw [W1]; rfl), rfl, HS.out, by trivial⟩
                case measure => first | exact meas_lt8 hlt | (rw [W1]; exact meas_lt8 hlt)
              · have hbad : sco cs ns q = none := by
                  refine sco_none (a := t + 1) ?_ HT.out.1
                  rw [sco, HT.out.2.1, ← HC.out.1, ← HC.out.2]
                  exact scf_none (scf_bad hs hn hl he) hlt
                have hz1 : zv = 0 := by rw [HZ.out.1, hbad]; rfl
                have hz2 : ze = 162 := by rw [HZ.out.2, hbad]; rfl
                subst hz1 hz2
                generalize n k = nk at q1 c1 he
                clear hcc h6 hn e1 hs hl hbad
                go_wp2_with (go_at_call 50; ((with_reducible refine (c1 _).mono ?_); (rintro e w9 ⟨rfl, hw9⟩; have hw9 := hw9.symm; subst hw9)))
                go_ret2
                exact ⟨rfl, rfl⟩
        · have htl : ¬ ((k : Nat) : Int) < (c : Int) := fun e => hlt (Int.ofNat_lt.1 e)
          obtain rfl : k = c := by omega
          have HS : Hid (sco cs ns (t + 1) = some x) := by
            show _ = _
            rw [sco, HT.out.2.1, ← HC.out.1, ← HC.out.2]; exact hs
          clear h6 hs
          go_wp2
          go_roundw
          case rel => exact ⟨t + 1, x, HT.out.1, by first | rfl | (rw [WT]; rfl), rfl, HS.out, by trivial⟩
          case measure => first | exact meas_lt8 HT.out.1 | (rw [WT]; exact meas_lt8 HT.out.1)
    · have htl : ¬ ((t : Nat) : Int) < (q : Int) := fun e => hlt (Int.ofNat_lt.1 e)
      obtain rfl : t = q := by omega
      obtain ⟨z1, z2⟩ := HZ.out
      rw [hs] at z1 z2
      have T3 : (l : Int).tmod 2 = ((l % 2 : Nat) : Int) := (Int.ofNat_tmod _ _).symm
      by_cases h2 : f = 2
      · subst h2
        by_cases ho : l % 2 = 1
        · have hz1 : zv = 0 := by rw [z1, olv, if_pos ⟨rfl, ho⟩]
          have hz2 : ze = 8 := by rw [z2, ole, if_pos ⟨rfl, ho⟩]
          subst hz1 hz2
          have T4 : (l : Int) % 2 = 1 := by omega
          rw [ho] at T3
          clear z1 z2 hs ho HV HQ HZ
          go_wp2
          go_ret2
          exact ⟨rfl, rfl⟩
        · have hz1 : zv = (l : Int) := by rw [z1, olv, if_neg (fun h => ho h.2)]
          have hz2 : ze = 0 := by rw [z2, ole, if_neg (fun h => ho h.2)]
          have T4 : (l : Int) % 2 = 0 := by omega
          rw [show l % 2 = 0 by omega] at T3
          subst hz1 hz2
          clear z1 z2 hs ho HV HQ HZ
          go_wp2
          go_ret2
          exact ⟨rfl, rfl⟩
      · have hz1 : zv = (l : Int) := by rw [z1, olv, if_neg (fun h => h2 h.1)]
        have hz2 : ze = 0 := by rw [z2, ole, if_neg (fun h => h2 h.1)]
        have E2 : (f == 2) = false := by simpa using h2
        subst hz1 hz2
        clear z1 z2 hs HV HQ HZ T3
        go_wp2
        go_ret2
        exact ⟨rfl, rfl⟩
end Go.Proofs.YtlblkckglelbdaaGreat
namespace Go.Proofs.YtlblkckglelbdaaGreat
open Go.RowKit Gf2
set_option linter.unusedVariables false

-- layer 16: numbers, empties (laid by wip/genyhu.py)
set_option maxHeartbeats 4000000 in
set_option maxRecDepth 100000 in
theorem numbers16e (v : Value) (c : Nat) (n : Nat → Nat) (w : World) (h : Ln w v c n) (hcb : c ≤ 1099511627776) :
    Calls Tryz.prog 49 #[v, .func (.func 50) #[] #[]] w fun e w' => ∃ u, e = .returned u ∧ Gi w w' u (ems (fun i => n i == 0) c).length (emz (fun i => n i == 0) c) := by
  have HL : Hid (Ln w v c n) := h
  obtain ⟨a, cap, rfl⟩ := h.form
  have HN : Hid (c ≤ 1099511627776) := hcb
  clear hcb h
  go_enter Tryz.func49, Tryz.ntmps49
  go_wp2
  go_loopw [5, 10] (fun s i wr => ∃ k : Nat, k ≤ c ∧ i = .int .i64 k ∧ Gi w wr s (ems (fun i => n i == 0) k).length (emz (fun i => n i == 0) k)) (fun _ i _ => c - (intOf i).toNat)
  case atStart => exact ⟨0, Nat.zero_le _, rfl, Gi.start _ _⟩
  case round =>
    obtain ⟨k, hk, rfl, hG⟩ := hrel
    obtain ⟨sa, sC, rfl⟩ := hG.form
    by_cases hlt : k < c
    · obtain ⟨-, -, a', cap', e', -, -, h6⟩ := HL.out.below hG.1
      cases e'
      obtain ⟨b, o, rfl, -, hc⟩ := h6 (by omega)
      obtain ⟨x, y, q1⟩ := hc k hlt
      have ib : ((k : Nat) : Int) < (c : Int) := by omega
      have W1 := wrap_succ8 (j := k) (by have := HN.out; unfold big; omega)
      have hle := ems_le (fun i => n i == 0) k
      have c1 := fun w => isEmpty16 x (n k) y w
      cases hP : (fun i => n i == 0) k
      · have e1 : (n k == 0) = false := by simpa using hP
        rw [e1] at c1
        have HG : Hid (Gi w wr (.slice sa (ems (fun i => n i == 0) (k + 1)).length sC) (ems (fun i => n i == 0) (k + 1)).length (emz (fun i => n i == 0) (k + 1))) := by
          show Gi _ _ _ _ _
          have := ems_no (P := fun i => n i == 0) (k := k) hP
          unfold emz at hG ⊢
          rw [this]; exact hG
        have HQ : Hid ((ems (fun i => n i == 0) (k + 1)).length = (ems (fun i => n i == 0) k).length) := by show _ = _; rw [ems_no (P := fun i => n i == 0) (k := k) hP]
        generalize n k = nk at q1 c1
        clear hG hc h6 hP hle
        go_wp2_with (go_at_call 50; (with_reducible refine (c1 _).mono ?_); rintro e w9 ⟨rfl, hw9⟩; have hw9 := hw9.symm; subst hw9)
        go_roundw
        case rel => exact ⟨k + 1, hlt, by first | rfl | (rw [W1]; rfl), by rw [← HQ.out]; exact HG.out⟩
        case measure => first | exact meas_lt8 hlt | (rw [W1]; exact meas_lt8 hlt)
      · have e1 : (n k == 0) = true := by simpa using hP
        rw [e1] at c1
        obtain ⟨w5, v5, hrun, hG5⟩ := app_gi hG (k : Int) (by have := HN.out; omega)
        have HG : Hid (Gi w w5 v5 (ems (fun i => n i == 0) (k + 1)).length (emz (fun i => n i == 0) (k + 1))) := by
          show Gi _ _ _ _ _
          rw [ems_len_yes (P := fun i => n i == 0) (k := k) hP]
          exact hG5.congr (fun i hi => emz_step (P := fun i => n i == 0) (k := k) hP i (by rw [ems_len_yes (P := fun i => n i == 0) (k := k) hP]; exact hi))
        generalize n k = nk at q1 c1
        clear hG hc h6 hG5 hP hle
        go_wp2_with (first | (go_at_call 50; (with_reducible refine (c1 _).mono ?_); rintro e w9 ⟨rfl, hw9⟩; have hw9 := hw9.symm; subst hw9) | (at_builtin; refine Lib.wpList_append_run _ rfl _ _ _ _ rfl _ _ rfl rfl _ _ hrun ?_))
        go_roundw
        case rel => exact ⟨k + 1, hlt, by first | rfl | (rw [W1]; rfl), HG.out⟩
        case measure => first | exact meas_lt8 hlt | (rw [W1]; exact meas_lt8 hlt)
    · have htl : ¬ ((k : Nat) : Int) < (c : Int) := fun e => hlt (Int.ofNat_lt.1 e)
      obtain rfl : k = c := by omega
      clear HL
      go_wp2
      go_ret
      exact ⟨_, rfl, hG⟩
end Go.Proofs.YtlblkckglelbdaaGreat
namespace Go.Proofs.YtlblkckglelbdaaGreat
open Go.RowKit Gf2
set_option linter.unusedVariables false

-- layer 16: Whole, of the program and of the document
theorem sum_nat {f : Int} {k m : Nat} (h : prm f k m = 0) : ∃ s : Nat, Hid (s = k + m) ∧ s ≤ 65536 ∧ wrap64 ((k : Int) + (m : Int)) = (s : Int) := by
  have hv := (prm_ok.1 h).sum
  refine ⟨k + m, rfl, by omega, ?_⟩
  unfold wrap64; omega
theorem prm_nat {f k m : Int} (h : prm f k m = 0) : ∃ a b : Nat, k = a ∧ m = b := by
  have hv := prm_ok.1 h
  obtain ⟨a, rfl⟩ := Int.eq_ofNat_of_zero_le (show 0 ≤ k by have := hv.hk; omega)
  obtain ⟨b, rfl⟩ := Int.eq_ofNat_of_zero_le (show 0 ≤ m by have := hv.hm; omega)
  exact ⟨a, b, rfl, rfl⟩
/-- one list in a new list of lists. -/
theorem lone16 (w : World) (v : Value) (c : Nat) (n : Nat → Nat) (h : Ln w v c n) (T : TypeId) : ∀ t, t < 1 → (w.alloc (.cells #[v] T)).cell? ⟨w.heap.size, t, none⟩ = some ((fun _ => v) t) ∧ Ln (w.alloc (.cells #[v] T)) ((fun _ => v) t) ((fun _ => c) t) ((fun _ => n) t) := by
  intro t ht
  obtain rfl : t = 0 := by omega
  refine ⟨?_, h.below (balloc16 _ _)⟩
  rw [cell_of_row _ _ _ _ _ _ (heap_alloc_new w _)]
  rfl
end Go.Proofs.YtlblkckglelbdaaGreat
