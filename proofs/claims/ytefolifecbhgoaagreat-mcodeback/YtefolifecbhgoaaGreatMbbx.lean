import Derived.Test.YtefolifecbhgoaaGreatMbbw
import Derived.Deep.DeepCutAuto
import Derived.Deep.LoopGhost
import Derived.Test.YtefolifecbhgoaaGreatMbbe
import Derived.Test.YtefolifecbhgoaaGreatMbaj
namespace Go.Proofs.YtefolifecbhgoaaGreat
open Go.RowKit Gf2
set_option linter.unusedVariables false


def cul17 (n k : Nat) : Nat := if 60 < (if n / k < 1 then 1 else n / k) then 60 else (if n / k < 1 then 1 else n / k)
def cuv17 (n k : Nat) (D : Nat → Nat) (i t : Nat) : Nat := if i < k ∧ i * cul17 n k + t < n then D (i * cul17 n k + t) else 55
theorem cul17_in (n k : Nat) : 1 ≤ cul17 n k ∧ cul17 n k ≤ 60 := by
  unfold cul17
  split <;> split <;> omega
theorem idx17 {r l t : Nat} (hr : r ≤ 256) (hl : l ≤ 60) (ht : t ≤ 60) : ∃ p x : Nat, Hid (p = r * l ∧ x = r * l + t) ∧ Hid (wrap64 ((r : Int) * (l : Int)) = (p : Int) ∧ IntKind.i64.wrap ((r : Int) * (l : Int)) = (p : Int) ∧ wrap64 ((p : Int) + (t : Int)) = (x : Int) ∧ IntKind.i64.wrap ((p : Int) + (t : Int)) = (x : Int)) := by
  have h1 : r * l ≤ 256 * 60 := Nat.mul_le_mul hr hl
  have e : ((r * l : Nat) : Int) = (r : Int) * (l : Int) := Int.natCast_mul r l
  refine ⟨r * l, r * l + t, ⟨rfl, rfl⟩, ⟨?_, ?_, ?_, ?_⟩⟩
  · rw [← e]; generalize r * l = q at *; unfold wrap64; omega
  · rw [← e, IntKind.wrap_i64]; generalize r * l = q at *; omega
  · generalize r * l = q at *; unfold wrap64; omega
  · rw [IntKind.wrap_i64]; generalize r * l = q at *; omega
set_option maxHeartbeats 1000000 in
set_option maxRecDepth 100000 in
theorem cut17 (dv : Value) (n k m : Nat) (D : Nat → Nat) (w : World) (hd : Rb w dv n D) (hk : 1 ≤ k) (hs : k + m ≤ 256) (hn : n ≤ 140737488351232) :
    Calls Tryz.prog 9 #[dv, .int .i64 (k : Int), .int .i64 (m : Int), .int .i64 60] w fun e w' => e = .returned (.slice (some ⟨w.heap.size, 0, none⟩) (k + m) (k + m)) ∧ Twn w w' (k + m) (fun _ => cul17 n k) (cuv17 n k D) (k + m) := by
  have HD : Hid (Rb w dv n D) := hd
  obtain ⟨-, -, da, dc, rfl, -⟩ := hd
  obtain ⟨d, hdd⟩ : ∃ d, d = n / k := ⟨_, rfl⟩
  have T1 : (n : Int).tdiv (k : Int) = (d : Int) := by rw [hdd]; exact (Int.ofNat_tdiv _ _).symm
  have hdn : d ≤ n := by rw [hdd]; exact Nat.div_le_self _ _
  have W1 : wrap64 (d : Int) = (d : Int) := by unfold wrap64; omega
  have hk4 : ¬ k = 0 := by omega
  obtain ⟨km, hkm⟩ : ∃ km, km = k + m := ⟨_, rfl⟩
  have HK : Hid (km = k + m ∧ km ≤ 256 ∧ k ≤ km ∧ d = n / k) := ⟨hkm, by omega, by omega, hdd⟩
  have W2 : wrap64 ((k : Int) + (m : Int)) = (km : Int) := by unfold wrap64; omega
  rw [← hkm]
  clear hdn hkm hs hk hn hdd
  go_enter Tryz.func9, Tryz.ntmps9
  go_upto_if 18 with fail
  go_cut [9] (fun s9 wc => ∃ a : Nat, s9 = .int .i64 (a : Int) ∧ Hid (a = if n / k < 1 then 1 else n / k) ∧ wc = w)
  case first =>
    by_cases h : d < 1
    · have hd1 : decide ((d : Int) < 1) = true := by simp; omega
      go_wp2_with fail
      go_meet
      exact ⟨1, rfl, by show _ = _; rw [← HK.out.2.2.2, if_pos h], rfl⟩
    · have hd1 : decide ((d : Int) < 1) = false := by simp; omega
      go_wp2_with fail
      go_meet
      exact ⟨d, by first | rfl | rw [W1], by show _ = _; rw [← HK.out.2.2.2, if_neg h], rfl⟩
  case rest =>
  obtain ⟨a, rfl, HA, hwc⟩ := hcut
  have hwc := hwc.symm
  subst hwc
  clear T1 W1
  go_upto_if 21 with fail
  go_cut [9] (fun s9 wc => ∃ l : Nat, s9 = .int .i64 (l : Int) ∧ Hid (l = cul17 n k) ∧ wc = w)
  case first =>
    have HL : Hid (cul17 n k = if 60 < a then 60 else a) := by show _ = _; unfold cul17; rw [← HA.out]
    by_cases h : 60 < a
    · go_wp2_with fail
      go_meet
      exact ⟨60, rfl, by show _ = _; rw [HL.out, if_pos h], rfl⟩
    · go_wp2_with fail
      go_meet
      exact ⟨a, rfl, by show _ = _; rw [HL.out, if_neg h], rfl⟩
  case rest =>
  obtain ⟨l, rfl, HLl, hwc⟩ := hcut
  have hwc := hwc.symm
  subst hwc
  clear HA
  have HL : Hid (1 ≤ l ∧ l ≤ 60) := by
    show 1 ≤ l ∧ l ≤ 60
    rw [HLl.out]
    exact cul17_in n k
  have hmk := make_rows km (by have := HK.out; omega)
  go_wp2
  have HW2 : Hid _ := W2
  clear hmk W2
  go_loopw [11, 12] (fun i z wr => ∃ r : Nat, r ≤ km ∧ i = .int .i64 r ∧ Twn w wr km (fun _ => l) (cuv17 n k D) r) (fun i _ _ => km - (intOf i).toNat)
  case atStart => exact ⟨0, Nat.zero_le _, rfl, Twn.start w km (fun _ => l) (cuv17 n k D)⟩
  case round =>
    obtain ⟨r, hr, rfl, hT⟩ := hrel
    by_cases hlt : r < km
    · generalize hwo : wr = wo at hT ⊢
      clear hwo wr
      have hm8 := make_u8 l (by have := HL.out; omega)
      obtain ⟨m1, m2, m3, m4, m5⟩ := hT.mid (by have := HL.out; show l ≤ _; omega) hlt
      have ha : (wo.alloc (.cells (madeCells #[.int .u8 0] l) 5)).rowIs w.heap.size 27 km (fun i => if i < r then .slice (some ⟨w.heap.size + 1 + i, 0, none⟩) l l else .slice none 0 0) := hT.list.of_block (Below.heap_alloc wo _ _ (by have := hT.sz; omega))
      have q2 := ha.cell hlt
      rw [if_neg (Nat.lt_irrefl _)] at q2
      have q3 := ha.frozen r
      have ib : ((r : Nat) : Int) < (km : Int) := by omega
      have W3 : Hid _ := wrap_succ8 (j := r) (by have := HK.out; unfold big; omega)
      have HM : Hid ((twi w wo r l).heap.size = w.heap.size + 1 + (r + 1) ∧ (twi w wo r l).rowIs w.heap.size 27 km (fun i => if i < r + 1 then .slice (some ⟨w.heap.size + 1 + i, 0, none⟩) l l else .slice none 0 0) ∧ (∀ i, i < r → Rw (twi w wo r l) (w.heap.size + 1 + i) l (cuv17 n k D i)) ∧ Rw (twi w wo r l) wo.heap.size l (fun _ => 0) ∧ Below w.heap.size w (twi w wo r l) ∧ wo.heap.size = w.heap.size + 1 + r) := ⟨m1, m2, m3, m4, m5, hT.sz⟩
      obtain ⟨x, hx⟩ : ∃ x, x = twi w wo r l := ⟨_, rfl⟩
      rw [← hx] at HM
      have HX : Hid ((wo.alloc (.cells (madeCells #[.int .u8 0] l) 5)).setCell ⟨w.heap.size, r, none⟩ (.slice (some ⟨wo.heap.size, 0, none⟩) l l) = x) := hx.symm
      have HR : Hid (r < km) := hlt
      clear hT m1 m2 m3 m4 m5 ha hx
      have W2 := HW2.out
      go_wp2
      rw [HX.out]
      clear q2 q3 hm8 HX W2
      go_loopw [12] (fun i wr => ∃ t : Nat, t ≤ l ∧ i = .int .i64 t ∧ Only wo.heap.size x wr ∧ Rw wr wo.heap.size l (fun j => if j < t then cuv17 n k D r j else 0)) (fun i _ => l - (intOf i).toNat)
      case atStart => exact ⟨0, Nat.zero_le _, rfl, Only.refl _ _, HM.out.2.2.2.1.congr (fun j _ => (if_neg (Nat.not_lt_zero _)).symm)⟩
      case round =>
        obtain ⟨t, ht, rfl, ho, hrw⟩ := hrel
        by_cases htl : t < l
        · have hl5 : x.cell? ⟨w.heap.size, r, none⟩ = some (.slice (some ⟨wo.heap.size, 0, none⟩) l l) := by
            have := HM.out.2.1.cell HR.out
            rw [if_pos (Nat.lt_succ_self r), ← HM.out.2.2.2.2.2] at this
            exact this
          have hne : w.heap.size ≠ wo.heap.size := by have := HM.out.2.2.2.2.2; omega
          have hlt2 : w.heap.size < x.heap.size := HM.out.2.1.lt
          have q1 : wr.cell? ⟨w.heap.size, r, none⟩ = some (.slice (some ⟨wo.heap.size, 0, none⟩) l l) := (ho.kp.ke.cell hlt2 hne).trans hl5
          have q2 := hrw.2.2.cell (i := t) htl
          have q3 := hrw.2.2.frozen t
          have hb2 : Below w.heap.size w wr := HM.out.2.2.2.2.1.trans (ho.below (by have := HM.out.2.2.2.2.2; omega))
          have hr55 : Rw (wr.setCell ⟨wo.heap.size, t, none⟩ (.int .u8 55)) wo.heap.size l (fun j => if j = t then 55 else if j < t then cuv17 n k D r j else 0) := hrw.set t 55 (by decide)
          have o55 : Only wo.heap.size x (wr.setCell ⟨wo.heap.size, t, none⟩ (.int .u8 55)) := ho.setCell t _
          obtain ⟨p, xx, HP, HPW⟩ := idx17 (r := r) (l := l) (t := t) (by have := HK.out; have := HR.out; omega) HL.out.2 (by have := HL.out; omega)
          have HW5 : Hid _ := wrap_succ8 (j := t) (by have := HL.out; unfold big; omega)
          have ib2 : ((t : Nat) : Int) < (l : Int) := by omega
          have ib3 : r < km := HR.out
          have HT : Hid (t < l) := htl
          by_cases hrk : r < k
          · by_cases hxn : xx < n
            · have hcv : cuv17 n k D r t = D xx := by
                unfold cuv17
                rw [← HLl.out, if_pos ⟨hrk, by rw [← HP.out.2]; exact hxn⟩, ← HP.out.2]
              obtain ⟨-, hD256, a', c', e', -, -, h4⟩ := HD.out.below (hb2.setCell (p := ⟨wo.heap.size, t, none⟩) (by have := HM.out.2.2.2.2.2; show w.heap.size ≤ wo.heap.size; omega) (.int .u8 55))
              cases e'
              obtain ⟨db, dof, rfl, -, hdc⟩ := h4 (by omega)
              have qd := hdc xx hxn
              obtain ⟨y, hy⟩ : ∃ y, y = D xx := ⟨_, rfl⟩
              have hy256 : y < 256 := by rw [hy]; exact hD256 xx hxn
              rw [← hy] at qd hcv
              have q1' : (wr.setCell ⟨wo.heap.size, t, none⟩ (.int .u8 55)).drew.cell? ⟨w.heap.size, r, none⟩ = some (.slice (some ⟨wo.heap.size, 0, none⟩) l l) := (o55.kp.ke.cell hlt2 hne).trans hl5
              have qd' : (wr.setCell ⟨wo.heap.size, t, none⟩ (.int .u8 55)).drew.cell? ⟨db, dof + xx, none⟩ = some (.int .u8 (y : Nat)) := qd
              have q5 := hr55.2.2.cell (i := t) htl
              have q6 := hr55.2.2.frozen t
              have HE : Hid (Only wo.heap.size x ((wr.setCell ⟨wo.heap.size, t, none⟩ (.int .u8 55)).setCell ⟨wo.heap.size, t, none⟩ (.int .u8 (y : Nat))).drew ∧ Rw ((wr.setCell ⟨wo.heap.size, t, none⟩ (.int .u8 55)).setCell ⟨wo.heap.size, t, none⟩ (.int .u8 (y : Nat))).drew wo.heap.size l (fun j => if j < t + 1 then cuv17 n k D r j else 0)) := by
                refine ⟨(o55.setCell t _).drew, ((hr55.set t y hy256).drewN 1).congr (fun j hj => ?_)⟩
                show (if j = t then y else if j = t then 55 else if j < t then cuv17 n k D r j else 0) = _
                by_cases e : j = t
                · rw [if_pos e, if_pos (by omega), e, hcv]
                · rw [if_neg e, if_neg e]
                  by_cases e2 : j < t
                  · rw [if_pos e2, if_pos (by omega)]
                  · rw [if_neg e2, if_neg (by omega)]
              have jb : ((xx : Nat) : Int) < (n : Int) := by omega
              clear ho hrw hl5 hne hlt2 hb2 hr55 o55 hcv h4 hdc hD256 hy256 hy qd ht
              obtain ⟨P1, P2, P3, P4⟩ := HPW.out
              have W5 := HW5.out
              go_wp2
              refine region_planT (fun w' => w'.cell? ⟨w.heap.size, r, none⟩ = some (.slice (some ⟨wo.heap.size, 0, none⟩) l l) ∧ w'.cell? ⟨db, dof + xx, none⟩ = some (.int .u8 (y : Nat))) 14 [14] 78 ⟨q1', qd'⟩ (by kernel_rfl) (by kernel_rfl) (fun _ a d v _ h => by cases d <;> exact h) ?_
              refine planT_last ?Ad rfl (fun w' hS => ?sd) rfl ?nd
              case sd =>
                obtain ⟨y0, y1⟩ := hS
                simp only [List.take_succ_cons, List.take_zero]
                repeat still_step
                exact rfl
              case nd =>
              simp only [List.drop_succ_cons, List.drop_zero]
              go_wp2
              go_roundw
              case rel => exact ⟨t + 1, HT.out, by first | rfl | (rw [W5]; rfl), HE.out.1, HE.out.2⟩
              case measure => first | exact meas_lt8 HT.out | (rw [W5]; exact meas_lt8 HT.out)
            · have hcv : cuv17 n k D r t = 55 := by
                unfold cuv17
                rw [← HLl.out, if_neg (fun h => hxn (by rw [HP.out.2]; exact h.2))]
              have HE : Hid (Only wo.heap.size x (wr.setCell ⟨wo.heap.size, t, none⟩ (.int .u8 55)) ∧ Rw (wr.setCell ⟨wo.heap.size, t, none⟩ (.int .u8 55)) wo.heap.size l (fun j => if j < t + 1 then cuv17 n k D r j else 0)) := by
                refine ⟨o55, hr55.congr (fun j hj => ?_)⟩
                show (if j = t then 55 else if j < t then cuv17 n k D r j else 0) = _
                by_cases e : j = t
                · rw [if_pos e, if_pos (by omega), e, hcv]
                · rw [if_neg e]
                  by_cases e2 : j < t
                  · rw [if_pos e2, if_pos (by omega)]
                  · rw [if_neg e2, if_neg (by omega)]
              clear ho hrw hl5 hne hlt2 hb2 hr55 o55 hcv ht
              obtain ⟨P1, P2, P3, P4⟩ := HPW.out
              have W5 := HW5.out
              go_wp2
              go_roundw
              case rel => exact ⟨t + 1, HT.out, by first | rfl | (rw [W5]; rfl), HE.out.1, HE.out.2⟩
              case measure => first | exact meas_lt8 HT.out | (rw [W5]; exact meas_lt8 HT.out)
          · have hcv : cuv17 n k D r t = 55 := by
              unfold cuv17
              rw [← HLl.out, if_neg (fun h => hrk h.1)]
            have HE : Hid (Only wo.heap.size x (wr.setCell ⟨wo.heap.size, t, none⟩ (.int .u8 55)) ∧ Rw (wr.setCell ⟨wo.heap.size, t, none⟩ (.int .u8 55)) wo.heap.size l (fun j => if j < t + 1 then cuv17 n k D r j else 0)) := by
              refine ⟨o55, hr55.congr (fun j hj => ?_)⟩
              show (if j = t then 55 else if j < t then cuv17 n k D r j else 0) = _
              by_cases e : j = t
              · rw [if_pos e, if_pos (by omega), e, hcv]
              · rw [if_neg e]
                by_cases e2 : j < t
                · rw [if_pos e2, if_pos (by omega)]
                · rw [if_neg e2, if_neg (by omega)]
            clear ho hrw hl5 hne hlt2 hb2 hr55 o55 hcv ht
            obtain ⟨P1, P2, P3, P4⟩ := HPW.out
            have W5 := HW5.out
            go_wp2
            go_roundw
            case rel => exact ⟨t + 1, HT.out, by first | rfl | (rw [W5]; rfl), HE.out.1, HE.out.2⟩
            case measure => first | exact meas_lt8 HT.out | (rw [W5]; exact meas_lt8 HT.out)
        · obtain rfl : t = l := by omega
          have HE : Hid (Twn w wr km (fun _ => t) (cuv17 n k D) (r + 1)) := Twn.done (x := x) (wr := wo) (sz := wo.heap.size) HM.out.1 HM.out.2.1 HM.out.2.2.1 HM.out.2.2.2.2.1 HM.out.2.2.2.2.2 ho (hrw.congr (fun j hj => if_pos hj))
          have htn : ¬ ((t : Nat) : Int) < (t : Int) := by omega
          clear ho hrw
          have W3 := W3.out
          go_wp2
          go_roundw
          case rel => exact ⟨r + 1, HR.out, by first | rfl | (rw [W3]; rfl), HE.out⟩
          case measure => first | exact meas_lt8 HR.out | (rw [W3]; exact meas_lt8 HR.out)
    · obtain rfl : r = km := by omega
      have HE : Hid (Twn w wr r (fun _ => cul17 n k) (cuv17 n k D) r) := by
        have := hT
        rw [HLl.out] at this
        exact this
      have htn : ¬ ((r : Nat) : Int) < (r : Int) := by omega
      have W2 := HW2.out
      clear hT
      go_wp2
      go_ret
      exact ⟨rfl, HE.out⟩
end Go.Proofs.YtefolifecbhgoaaGreat
namespace Go.Proofs.YtefolifecbhgoaaGreat
open Go.RowKit Gf2
set_option linter.unusedVariables false


def nx17 (P : Nat → Bool) (n : Nat) : Nat → Nat → Nat
  | 0, a => a
  | f + 1, a => if P a then nx17 P n f ((a + 1) % n) else a
theorem nx17_ok {P : Nat → Bool} {n : Nat} : ∀ f a, a < n → (∃ d, d < f ∧ P ((a + d) % n) = false) → P (nx17 P n f a) = false ∧ nx17 P n f a < n
  | 0, a, _, ⟨d, hd, _⟩ => absurd hd (Nat.not_lt_zero _)
  | f + 1, a, ha, ⟨d, hd, hP⟩ => by
    unfold nx17
    cases h : P a with
    | false => rw [if_neg (by decide)]; exact ⟨h, ha⟩
    | true =>
      rw [if_pos rfl]
      have hd0 : d ≠ 0 := fun e => by
        rw [e, Nat.add_zero, Nat.mod_eq_of_lt ha, h] at hP
        cases hP
      refine nx17_ok f _ (Nat.mod_lt _ (by omega)) ⟨d - 1, by omega, ?_⟩
      rw [Nat.mod_add_mod, show a + 1 + (d - 1) = a + d by omega]
      exact hP
def pk17 (n : Nat) (G : Nat → Int) : Nat → Nat → Bool
  | 0 => fun _ => false
  | c + 1 => fun j => if j = nx17 (pk17 n G c) n n (ino17 (G c) 0 (n - 1)) then true else pk17 n G c j
theorem ems_set17 {P : Nat → Bool} {z : Nat} (hz : P z = false) : ∀ n, (ems (fun j => if j = z then true else P j) n).length = (ems P n).length + (if z < n then 1 else 0)
  | 0 => rfl
  | n + 1 => by
    have ih := ems_set17 hz n
    by_cases e : n = z
    · have h1 : (fun j => if j = z then true else P j) n = true := by show (if n = z then true else P n) = true; rw [if_pos e]
      have h2 : P n = false := by rw [e]; exact hz
      rw [ems_len_yes (P := fun j => if j = z then true else P j) h1, ems_no h2, ih, if_neg (by omega), if_pos (by omega)]
    · have h0 : (fun j => if j = z then true else P j) n = P n := by show (if n = z then true else P n) = P n; rw [if_neg e]
      cases h : P n
      · rw [ems_no (P := fun j => if j = z then true else P j) (h0.trans h), ems_no h, ih]
        congr 1
        by_cases e2 : z < n
        · rw [if_pos e2, if_pos (by omega)]
        · rw [if_neg e2, if_neg (by omega)]
      · rw [ems_len_yes (P := fun j => if j = z then true else P j) (h0.trans h), ems_len_yes h, ih]
        by_cases e2 : z < n
        · rw [if_pos e2, if_pos (by omega)]
        · rw [if_neg e2, if_neg (by omega)]
theorem ems_free17 {P : Nat → Bool} {n : Nat} (h : (ems P n).length < n) : ∃ z, z < n ∧ P z = false := by
  have hb := ems_both P n
  obtain ⟨h1, h2⟩ := eN_mem (P := fun i => !P i) (n := n) (i := 0) (by omega)
  exact ⟨_, h1, by simpa using h2⟩
theorem pk17_len {n : Nat} {G : Nat → Int} (hn : n ≤ 256) : ∀ c, c ≤ n → (ems (pk17 n G c) n).length = c
  | 0, _ => by
    have : ∀ m, (ems (fun _ => false) m).length = 0 := fun m => by
      induction m with
      | zero => rfl
      | succ m ih => rw [ems_no rfl, ih]
    exact this n
  | c + 1, h => by
    have ih := pk17_len (G := G) hn c (by omega)
    obtain ⟨h1, h2⟩ := nx17_ok (P := pk17 n G c) (n := n) n (ino17 (G c) 0 (n - 1)) (by have := ino17_in (n := G c) (lo := 0) (hi := n - 1) (by omega) (by omega); omega) (by
      obtain ⟨z, hz, hP⟩ := ems_free17 (P := pk17 n G c) (n := n) (by omega)
      have ha := ino17_in (n := G c) (lo := 0) (hi := n - 1) (by omega) (by omega)
      generalize ino17 (G c) 0 (n - 1) = a at ha
      refine ⟨(z + n - a) % n, Nat.mod_lt _ (by omega), ?_⟩
      rw [Nat.add_mod_mod, show a + (z + n - a) = z + n by omega, Nat.add_mod_right, Nat.mod_eq_of_lt hz]
      exact hP)
    show (ems (fun j => if j = nx17 (pk17 n G c) n n (ino17 (G c) 0 (n - 1)) then true else pk17 n G c j) n).length = c + 1
    rw [ems_set17 h1, ih, if_pos h2]
theorem pk17_free {n c : Nat} {G : Nat → Int} (hn : n ≤ 256) (hc : c < n) (a : Nat) (ha : a < n) : ∃ d, d < n ∧ pk17 n G c ((a + d) % n) = false := by
  obtain ⟨z, hz, hP⟩ := ems_free17 (P := pk17 n G c) (n := n) (by rw [pk17_len hn c (by omega)]; exact hc)
  refine ⟨(z + n - a) % n, Nat.mod_lt _ (by omega), ?_⟩
  rw [Nat.add_mod_mod, show a + (z + n - a) = z + n by omega, Nat.add_mod_right, Nat.mod_eq_of_lt hz]
  exact hP
theorem info_b17 : (Tryz.prog.info? 4).map (fun i => (i.zero, i.size, i.bytes)) = some (some (Value.bool false), 1, 1) := by kernel_rfl
theorem make_b17 (n : Nat) (hn : n ≤ 1000) (w : World) : (Instr.makeSlice 41 (.int .i64 (n : Int)) (.int .i64 (n : Int))).run Tryz.prog w = .ok (.slice (some ⟨w.heap.size, 0, none⟩) n n) (w.alloc (.cells (madeCells #[.bool false] n) 4)) :=
  run_make_row' (P := Tryz.prog) 41 4 (.bool false) 1 Tryz.underlying41 info_b17 rfl .i64 .i64 n (by omega) (by omega) w
def pg17 (L : Nat) (F : Nat → Int) (i : Nat) : Int := if i < L then F i else (i : Int)
set_option maxHeartbeats 1000000 in
set_option maxRecDepth 100000 in
theorem pick17 (n c L : Nat) (F : Nat → Int) (pv : Value) (w : World) (hp : Qi w pv L F) (hn0 : 1 ≤ n) (hn : n ≤ 256) (hc : c ≤ n) :
    Calls Tryz.prog 14 #[.int .i64 (n : Int), .int .i64 (c : Int), pv] w fun e w' => e = .returned (.slice (some ⟨w.heap.size, 0, none⟩) n n) ∧ w'.rowIs w.heap.size 4 n (fun i => .bool (pk17 n (pg17 L F) c i)) ∧ Below w.heap.size w w' := by
  have HP : Hid (Qi w pv L F) := hp
  obtain ⟨-, -, pa, pc, rfl, -⟩ := hp
  have hmk := make_b17 n (by omega)
  have HN : Hid (1 ≤ n ∧ n ≤ 256 ∧ c ≤ n) := ⟨hn0, hn, hc⟩
  have hr0 := World.rowIs_made w (.bool false) n 4
  have hb0 : Below w.heap.size w (w.alloc (.cells (madeCells #[.bool false] n) 4)) := (Below.refl _ _).alloc (Nat.le_refl _) _
  have H0 : Hid ((w.alloc (.cells (madeCells #[.bool false] n) 4)).rowIs w.heap.size 4 n (fun i => .bool (pk17 n (pg17 L F) 0 i)) ∧ Below w.heap.size w (w.alloc (.cells (madeCells #[.bool false] n) 4))) := ⟨hr0, hb0⟩
  clear hr0 hb0 hn0 hn hc
  go_enter Tryz.func14, Tryz.ntmps14
  go_wp2
  clear hmk
  go_loopw [8, 9, 10] (fun i z9 z10 wr => ∃ j : Nat, j ≤ c ∧ i = .int .i64 j ∧ wr.rowIs w.heap.size 4 n (fun i => .bool (pk17 n (pg17 L F) j i)) ∧ Below w.heap.size w wr) (fun i _ _ _ => c - (intOf i).toNat)
  case atStart => exact ⟨0, Nat.zero_le _, rfl, H0.out.1, H0.out.2⟩
  case round =>
    clear H0
    obtain ⟨j, hj, rfl, hrow, hb⟩ := hrel
    by_cases hlt : j < c
    · generalize hwo : wr = wo at hrow hb ⊢
      clear hwo wr
      have ib : ((j : Nat) : Int) < (c : Int) := by omega
      have HJ : Hid (j < c) := hlt
      have HB : Hid (wo.rowIs w.heap.size 4 n (fun i => .bool (pk17 n (pg17 L F) j i)) ∧ Below w.heap.size w wo) := ⟨hrow, hb⟩
      have HW1 : Hid _ := wrap_succ8 (j := j) (by have := HN.out; unfold big; omega)
      obtain ⟨n1, hn1⟩ : ∃ n1 : Nat, n1 = n - 1 := ⟨_, rfl⟩
      have W2 : wrap64 ((n : Int) - 1) = (n1 : Int) := by have := HN.out; unfold wrap64; omega
      have Hn1 : Hid (n1 = n - 1) := hn1
      have cI : ∀ y : Int, Calls Tryz.prog 15 #[.int .i64 y, .int .i64 0, .int .i64 (n1 : Int)] wo fun e w' => e = .returned (.int .i64 (ino17 y 0 n1 : Nat)) ∧ w' = wo := fun y => into17 y 0 n1 wo (Nat.zero_le _) (by have := HN.out; omega)
      clear hj hlt hn1
      by_cases hL : j < L
      · obtain ⟨-, -, a', c', e', -, -, h4⟩ := HP.out.below hb
        cases e'
        obtain ⟨b1, o1, rfl, -, hpc⟩ := h4 (by omega)
        have qp := hpc j hL
        have iL : ((j : Nat) : Int) < (L : Int) := by omega
        have hpg : pg17 L F j = F j := if_pos hL
        clear h4 hpc hrow hb
        go_wp2_with (go_at_call 15; (with_reducible refine (cI _).mono ?_); rintro e w9 ⟨rfl, hw9⟩; have hw9 := hw9.symm; subst hw9; clear cI)
        have hin := ino17_in (n := F j) (lo := 0) (hi := n1) (Nat.zero_le _) (by have := HN.out; have := Hn1.out; omega)
        have HR : Hid (nx17 (pk17 n (pg17 L F) j) n n (ino17 (F j) 0 n1) = nx17 (pk17 n (pg17 L F) j) n n (ino17 (pg17 L F j) 0 (n - 1))) := by
          show _ = _
          rw [hpg, Hn1.out]
        obtain ⟨a0, ha0⟩ : ∃ a0, a0 = ino17 (F j) 0 n1 := ⟨_, rfl⟩
        rw [← ha0] at hin HR ⊢
        have ha0n : a0 < n := by have := HN.out; have := Hn1.out; omega
        have HF : Hid (∃ d, d < n ∧ pk17 n (pg17 L F) j ((a0 + d) % n) = false) := pk17_free HN.out.2.1 (by have := HN.out; have := HJ.out; omega) a0 ha0n
        clear ha0 hin W2
        go_loopg [10] n (fun g s10 wr => ∃ a : Nat, s10 = .int .i64 (a : Int) ∧ a < n ∧ nx17 (pk17 n (pg17 L F) j) n g a = nx17 (pk17 n (pg17 L F) j) n n a0 ∧ (∃ d, d < g ∧ pk17 n (pg17 L F) j ((a + d) % n) = false) ∧ wr = wo)
        case atStart => exact ⟨a0, rfl, ha0n, rfl, HF.out, rfl⟩
        case round =>
          obtain ⟨a, rfl, han, hnx, hfr, hwr⟩ := hrel
          have hwr := hwr.symm
          subst hwr
          cases gk with
          | zero =>
            obtain ⟨d, hd, -⟩ := hfr
            exact absurd hd (Nat.not_lt_zero _)
          | succ g =>
            have q1 := HB.out.1.cell han
            have ia : ((a : Nat) : Int) < (n : Int) := by omega
            cases hPa : pk17 n (pg17 L F) j a
            · have hnx2 : a = nx17 (pk17 n (pg17 L F) j) n n a0 := by
                rw [← hnx]
                unfold nx17
                rw [hPa, if_neg (by decide)]
              rw [hPa] at q1
              have q2 := HB.out.1.frozen a
              have HE : Hid ((wo.setCell ⟨w.heap.size, a, none⟩ (.bool true)).rowIs w.heap.size 4 n (fun i => .bool (pk17 n (pg17 L F) (j + 1) i)) ∧ Below w.heap.size w (wo.setCell ⟨w.heap.size, a, none⟩ (.bool true))) := by
                refine ⟨(HB.out.1.set a (.bool true)).congr (fun i hi => ?_), HB.out.2.setCell (Nat.le_refl _) _⟩
                show (if i = a then Value.bool true else .bool (pk17 n (pg17 L F) j i)) = .bool (pk17 n (pg17 L F) (j + 1) i)
                show _ = Value.bool (if i = nx17 (pk17 n (pg17 L F) j) n n (ino17 (pg17 L F j) 0 (n - 1)) then true else pk17 n (pg17 L F) j i)
                rw [← HR.out, ← hnx2]
                by_cases e : i = a
                · rw [if_pos e, if_pos e]
                · rw [if_neg e, if_neg e]
              have W1 := HW1.out
              clear hnx hfr hnx2 hPa
              go_wp2
              go_roundw
              case rel => first | exact ⟨j + 1, HJ.out, by first | rfl | (rw [W1]; rfl), HE.out.1, HE.out.2⟩ | ((repeat apply Exists.intro); exact ⟨⟨j + 1, HJ.out, by first | rfl | (rw [W1]; rfl), HE.out.1, HE.out.2⟩, rfl⟩)
              case measure => first | exact meas_lt8 HJ.out | (rw [W1]; exact meas_lt8 HJ.out)
            · have HS : Hid (nx17 (pk17 n (pg17 L F) j) n g ((a + 1) % n) = nx17 (pk17 n (pg17 L F) j) n n a0 ∧ (∃ d, d < g ∧ pk17 n (pg17 L F) j (((a + 1) % n + d) % n) = false) ∧ (a + 1) % n < n) := by
                refine ⟨?_, ?_, Nat.mod_lt _ (by omega)⟩
                · rw [← hnx]
                  show _ = (if pk17 n (pg17 L F) j a then _ else _)
                  rw [hPa, if_pos rfl]
                · obtain ⟨d, hd, hP⟩ := hfr
                  have hd0 : d ≠ 0 := fun e => by
                    rw [e, Nat.add_zero, Nat.mod_eq_of_lt han, hPa] at hP
                    cases hP
                  refine ⟨d - 1, by omega, ?_⟩
                  rw [Nat.mod_add_mod, show a + 1 + (d - 1) = a + d by omega]
                  exact hP
              rw [hPa] at q1
              obtain ⟨b, hb⟩ : ∃ b, b = (a + 1) % n := ⟨_, rfl⟩
              obtain ⟨a1, ha1⟩ : ∃ a1, a1 = a + 1 := ⟨_, rfl⟩
              have T1 : (a1 : Int).tmod (n : Int) = (b : Int) := by rw [hb, ha1]; exact (Int.ofNat_tmod _ _).symm
              have hn4 : ¬ n = 0 := by omega
              have W3 : wrap64 ((a : Int) + 1) = (a1 : Int) := by have := HN.out; unfold wrap64; omega
              rw [← hb] at HS
              clear hnx hfr hPa hb ha1
              go_wp2
              go_roundg g
              case measure => exact Nat.lt_succ_self _
              case rel => exact ⟨b, rfl, HS.out.2.2, HS.out.1, HS.out.2.1, rfl⟩
      · have hpg : pg17 L F j = (j : Int) := if_neg hL
        clear hrow hb
        go_wp2_with (go_at_call 15; (with_reducible refine (cI _).mono ?_); rintro e w9 ⟨rfl, hw9⟩; have hw9 := hw9.symm; subst hw9; clear cI)
        have hin := ino17_in (n := (j : Int)) (lo := 0) (hi := n1) (Nat.zero_le _) (by have := HN.out; have := Hn1.out; omega)
        have HR : Hid (nx17 (pk17 n (pg17 L F) j) n n (ino17 ((j : Int)) 0 n1) = nx17 (pk17 n (pg17 L F) j) n n (ino17 (pg17 L F j) 0 (n - 1))) := by
          show _ = _
          rw [hpg, Hn1.out]
        obtain ⟨a0, ha0⟩ : ∃ a0, a0 = ino17 ((j : Int)) 0 n1 := ⟨_, rfl⟩
        rw [← ha0] at hin HR ⊢
        have ha0n : a0 < n := by have := HN.out; have := Hn1.out; omega
        have HF : Hid (∃ d, d < n ∧ pk17 n (pg17 L F) j ((a0 + d) % n) = false) := pk17_free HN.out.2.1 (by have := HN.out; have := HJ.out; omega) a0 ha0n
        clear ha0 hin W2
        go_loopg [10] n (fun g s10 wr => ∃ a : Nat, s10 = .int .i64 (a : Int) ∧ a < n ∧ nx17 (pk17 n (pg17 L F) j) n g a = nx17 (pk17 n (pg17 L F) j) n n a0 ∧ (∃ d, d < g ∧ pk17 n (pg17 L F) j ((a + d) % n) = false) ∧ wr = wo)
        case atStart => exact ⟨a0, rfl, ha0n, rfl, HF.out, rfl⟩
        case round =>
          obtain ⟨a, rfl, han, hnx, hfr, hwr⟩ := hrel
          have hwr := hwr.symm
          subst hwr
          cases gk with
          | zero =>
            obtain ⟨d, hd, -⟩ := hfr
            exact absurd hd (Nat.not_lt_zero _)
          | succ g =>
            have q1 := HB.out.1.cell han
            have ia : ((a : Nat) : Int) < (n : Int) := by omega
            cases hPa : pk17 n (pg17 L F) j a
            · have hnx2 : a = nx17 (pk17 n (pg17 L F) j) n n a0 := by
                rw [← hnx]
                unfold nx17
                rw [hPa, if_neg (by decide)]
              rw [hPa] at q1
              have q2 := HB.out.1.frozen a
              have HE : Hid ((wo.setCell ⟨w.heap.size, a, none⟩ (.bool true)).rowIs w.heap.size 4 n (fun i => .bool (pk17 n (pg17 L F) (j + 1) i)) ∧ Below w.heap.size w (wo.setCell ⟨w.heap.size, a, none⟩ (.bool true))) := by
                refine ⟨(HB.out.1.set a (.bool true)).congr (fun i hi => ?_), HB.out.2.setCell (Nat.le_refl _) _⟩
                show (if i = a then Value.bool true else .bool (pk17 n (pg17 L F) j i)) = .bool (pk17 n (pg17 L F) (j + 1) i)
                show _ = Value.bool (if i = nx17 (pk17 n (pg17 L F) j) n n (ino17 (pg17 L F j) 0 (n - 1)) then true else pk17 n (pg17 L F) j i)
                rw [← HR.out, ← hnx2]
                by_cases e : i = a
                · rw [if_pos e, if_pos e]
                · rw [if_neg e, if_neg e]
              have W1 := HW1.out
              clear hnx hfr hnx2 hPa
              go_wp2
              go_roundw
              case rel => first | exact ⟨j + 1, HJ.out, by first | rfl | (rw [W1]; rfl), HE.out.1, HE.out.2⟩ | ((repeat apply Exists.intro); exact ⟨⟨j + 1, HJ.out, by first | rfl | (rw [W1]; rfl), HE.out.1, HE.out.2⟩, rfl⟩)
              case measure => first | exact meas_lt8 HJ.out | (rw [W1]; exact meas_lt8 HJ.out)
            · have HS : Hid (nx17 (pk17 n (pg17 L F) j) n g ((a + 1) % n) = nx17 (pk17 n (pg17 L F) j) n n a0 ∧ (∃ d, d < g ∧ pk17 n (pg17 L F) j (((a + 1) % n + d) % n) = false) ∧ (a + 1) % n < n) := by
                refine ⟨?_, ?_, Nat.mod_lt _ (by omega)⟩
                · rw [← hnx]
                  show _ = (if pk17 n (pg17 L F) j a then _ else _)
                  rw [hPa, if_pos rfl]
                · obtain ⟨d, hd, hP⟩ := hfr
                  have hd0 : d ≠ 0 := fun e => by
                    rw [e, Nat.add_zero, Nat.mod_eq_of_lt han, hPa] at hP
                    cases hP
                  refine ⟨d - 1, by omega, ?_⟩
                  rw [Nat.mod_add_mod, show a + 1 + (d - 1) = a + d by omega]
                  exact hP
              rw [hPa] at q1
              obtain ⟨b, hb⟩ : ∃ b, b = (a + 1) % n := ⟨_, rfl⟩
              obtain ⟨a1, ha1⟩ : ∃ a1, a1 = a + 1 := ⟨_, rfl⟩
              have T1 : (a1 : Int).tmod (n : Int) = (b : Int) := by rw [hb, ha1]; exact (Int.ofNat_tmod _ _).symm
              have hn4 : ¬ n = 0 := by omega
              have W3 : wrap64 ((a : Int) + 1) = (a1 : Int) := by have := HN.out; unfold wrap64; omega
              rw [← hb] at HS
              clear hnx hfr hPa hb ha1
              go_wp2
              go_roundg g
              case measure => exact Nat.lt_succ_self _
              case rel => exact ⟨b, rfl, HS.out.2.2, HS.out.1, HS.out.2.1, rfl⟩
    · obtain rfl : j = c := by omega
      have HE : Hid (wr.rowIs w.heap.size 4 n (fun i => .bool (pk17 n (pg17 L F) j i)) ∧ Below w.heap.size w wr) := ⟨hrow, hb⟩
      have htl : ¬ ((j : Nat) : Int) < (j : Int) := by omega
      clear hrow hb
      go_wp2
      go_ret
      exact ⟨rfl, HE.out⟩
end Go.Proofs.YtefolifecbhgoaaGreat
namespace Go.Proofs.YtefolifecbhgoaaGreat
open Go.RowKit Gf2
set_option linter.unusedVariables false


structure Md17 (w w' : World) (c : Nat) (f : Int) (k m b : Nat) : Prop where
  co : ∃ Fp, Cd w' c Fp f k m b 0 [] ∧ ∀ x, Fp x → w.heap.size ≤ x ∧ x < w'.heap.size
  bel : Below w.heap.size w w'
set_option maxHeartbeats 2000000 in
set_option maxRecDepth 100000 in
theorem made17 (nF nB nK nM : Int) (w : World) :
    Calls Tryz.prog 7 #[.agg #[.int .i64 nF, .int .i64 nB, .int .i64 nK, .int .i64 nM]] w fun e w' => ∃ c, e = .returned (.tuple #[.pointer (some ⟨c, 0, none⟩), .int .i64 (ino17 nK 1 20 : Nat), .int .i64 (ino17 nM 1 12 : Nat)]) ∧ Md17 w w' c (ino17 nF 0 1 : Nat) (ino17 nK 1 20) (ino17 nM 1 12) (ino17 nB 0 2) := by
  have i1 := ino17_in (n := nK) (lo := 1) (hi := 20) (by decide) (by decide)
  have i2 := ino17_in (n := nM) (lo := 1) (hi := 12) (by decide) (by decide)
  have i3 := ino17_in (n := nF) (lo := 0) (hi := 1) (by decide) (by decide)
  have i4 := ino17_in (n := nB) (lo := 0) (hi := 2) (by decide) (by decide)
  obtain ⟨x, hx⟩ : ∃ x, x = w.alloc (.cells #[.int .i64 nF, .int .i64 nB, .int .i64 nK, .int .i64 nM] 23) := ⟨_, rfl⟩
  have hb0 : Below w.heap.size w x := by rw [hx]; exact (Below.refl _ _).alloc (Nat.le_refl _) _
  have hblk : x.heap[w.heap.size]? = some (.cells #[.int .i64 nF, .int .i64 nB, .int .i64 nK, .int .i64 nM] 23 (0, 0)) := by rw [hx]; exact heap_alloc_new _ _
  have HX : Hid (w.alloc (.cells #[.int .i64 nF, .int .i64 nB, .int .i64 nK, .int .i64 nM] 23) = x) := hx.symm
  have c1 : ∀ y, Calls Tryz.prog 15 #[.int .i64 nK, .int .i64 1, .int .i64 20] y fun e w' => e = .returned (.int .i64 (ino17 nK 1 20 : Nat)) ∧ w' = y := fun y => into17 nK 1 20 y (by decide) (by decide)
  have c2 : ∀ y, Calls Tryz.prog 15 #[.int .i64 nM, .int .i64 1, .int .i64 12] y fun e w' => e = .returned (.int .i64 (ino17 nM 1 12 : Nat)) ∧ w' = y := fun y => into17 nM 1 12 y (by decide) (by decide)
  have c3 : Calls Tryz.prog 15 #[.int .i64 nF, .int .i64 0, .int .i64 1] x.drew fun e w' => e = .returned (.int .i64 (ino17 nF 0 1 : Nat)) ∧ w' = x.drew := into17 nF 0 1 x.drew (by decide) (by decide)
  have c4 : Calls Tryz.prog 15 #[.int .i64 nB, .int .i64 0, .int .i64 2] x.drew fun e w' => e = .returned (.int .i64 (ino17 nB 0 2 : Nat)) ∧ w' = x.drew := into17 nB 0 2 x.drew (by decide) (by decide)
  have c5 := new17 (ino17 nF 0 1 : Nat) (ino17 nB 0 2) (ino17 nK 1 20) (ino17 nM 1 12) x.drew (by omega) i4.2 i1.1 i2.1 (by omega)
  have HN : Hid (∀ w2 c, Nw x.drew w2 c (ino17 nF 0 1 : Nat) (ino17 nK 1 20) (ino17 nM 1 12) (ino17 nB 0 2) → (w2.cell? ⟨w.heap.size, 0, none⟩ = some (.int .i64 nF) ∧ w2.cell? ⟨w.heap.size, 1, none⟩ = some (.int .i64 nB)) ∧ Md17 w w2 c (ino17 nF 0 1 : Nat) (ino17 nK 1 20) (ino17 nM 1 12) (ino17 nB 0 2)) := fun w2 c hN => by
    have b2 : Below x.heap.size x w2 := undraw17 hN.bel
    have hlt : w.heap.size < x.heap.size := (Array.getElem?_eq_some_iff.1 hblk).1
    have p2 := (b2.block _ hlt).trans hblk
    refine ⟨⟨by rw [cell_of_row _ _ 0 _ _ _ p2]; rfl, by rw [cell_of_row _ _ 1 _ _ _ p2]; rfl⟩, ⟨_, hN.cd, fun y hy => ?_⟩, hb0.trans (b2.mono hb0.size)⟩
    have h1 : x.heap.size ≤ y := hy.1
    exact ⟨by omega, hy.2⟩
  have z2 : x.cell? ⟨w.heap.size, 2, none⟩ = some (.int .i64 nK) := by rw [cell_of_row _ _ 2 _ _ _ hblk]; rfl
  have z3 : x.cell? ⟨w.heap.size, 3, none⟩ = some (.int .i64 nM) := by rw [cell_of_row _ _ 3 _ _ _ hblk]; rfl
  have y0 : x.drew.cell? ⟨w.heap.size, 0, none⟩ = some (.int .i64 nF) := by rw [cell_of_row x.drew _ 0 _ _ _ hblk]; rfl
  have y1 : x.drew.cell? ⟨w.heap.size, 1, none⟩ = some (.int .i64 nB) := by rw [cell_of_row x.drew _ 1 _ _ _ hblk]; rfl
  generalize ino17 nK 1 20 = k at *
  generalize ino17 nM 1 12 = m at *
  generalize ino17 nF 0 1 = f at *
  generalize ino17 nB 0 2 = b at *
  clear i1 i2 i3 i4 hb0 hblk hx
  go_enter Tryz.func7, Tryz.ntmps7
  go_wp2_with (first
    | (go_at_call 15; rw [HX.out]; (with_reducible refine (c1 _).mono ?_); rintro e w9 ⟨rfl, hw9⟩; have hw9 := hw9.symm; subst hw9; clear c1)
    | (go_at_call 15; (with_reducible refine (c2 _).mono ?_); rintro e w9 ⟨rfl, hw9⟩; have hw9 := hw9.symm; subst hw9; clear c2))
  refine region_planI (fun w' => w'.cell? ⟨w.heap.size, 0, none⟩ = some (.int .i64 nF) ∧ w'.cell? ⟨w.heap.size, 1, none⟩ = some (.int .i64 nB)) [0, 1, 3, 4, 6, 7, 2, 5, 8, 9, 10, 11, 12, 13] [6, 0, 0, 5] 34 ⟨y0, y1⟩ (by kernel_rfl) (by kernel_rfl) (fun _ a d v _ h => by cases d <;> exact h) ?_
  simp only [atI, List.getElem?_cons_zero, List.getElem?_cons_succ]
  refine planH_step ?Am0 rfl (fun w' hS => ?sm0) rfl (fun K hK => ?nm0)
  case sm0 =>
    obtain ⟨y0, y1⟩ := hS
    simp only [List.take_succ_cons, List.take_zero]
    repeat still_step
    exact rfl
  case nm0 =>
  go_simp
  go_wp2_with (go_at_call 15; (with_reducible refine c3.mono ?_); rintro e w9 ⟨rfl, hw9⟩; have hw9 := hw9.symm; subst hw9; clear c3)
  refine hK _ _ ⟨y0, y1⟩ ?_
  clear hK K
  refine planH_step ?Am1 rfl (fun w' hS => ?sm1) rfl (fun K hK => ?nm1)
  case sm1 =>
    obtain ⟨y0, y1⟩ := hS
    simp only [List.take_zero]
    exact rfl
  case nm1 =>
  go_simp
  go_wp2_with (go_at_call 15; (with_reducible refine c4.mono ?_); rintro e w9 ⟨rfl, hw9⟩; have hw9 := hw9.symm; subst hw9; clear c4)
  refine hK _ _ ⟨y0, y1⟩ ?_
  clear hK K
  refine planH_step ?Am2 rfl (fun w' hS => ?sm2) rfl (fun K hK => ?nm2)
  case sm2 =>
    obtain ⟨y0, y1⟩ := hS
    simp only [List.take_zero]
    exact rfl
  case nm2 =>
  go_simp
  go_wp2_with (go_at_call 19; (with_reducible refine c5.mono ?_); rintro e w2 ⟨c, rfl, hN⟩; clear c5; obtain ⟨⟨y0, y1⟩, H2⟩ := HN.out w2 c hN)
  refine hK _ _ ⟨y0, y1⟩ ?_
  clear hK K
  refine planH_last ?Am3 rfl (fun w' hS => ?sm3) rfl ?nm3
  case sm3 =>
    obtain ⟨y0, y1⟩ := hS
    simp only [List.take_succ_cons, List.take_zero]
    repeat still_step
    exact rfl
  case nm3 =>
  have HF : Hid _ := H2
  clear H2 hN HN
  go_wp2
  go_ret3
  exact ⟨_, rfl, HF.out⟩
end Go.Proofs.YtefolifecbhgoaaGreat
namespace Go.Proofs.YtefolifecbhgoaaGreat
open Go.RowKit Gf2
set_option linter.unusedVariables false


theorem ks_sx (R : Nat → Nat) (S : Nat → Nat → Nat) (t : Nat) : ∀ k, ks R S k t = sx k (fun i => fm 285 (R i) (S i t))
  | 0 => rfl
  | k + 1 => by
    show ks R S k t ^^^ fm 285 (R k) (S k t) = sx (k + 1) _
    rw [ks_sx R S t k]
    rfl
theorem ks_mm (k : Nat) (A : Nat → Nat → Nat) (S : Nat → Nat → Nat) (r t : Nat) : ks (A r) S k t = mm k A S r t := ks_sx _ _ _ _
theorem gen17 {f : Int} {k m : Nat} {S : Nat → Nat → Nat} {t : Nat} (hc : ∀ r, r < m → S (k + r) t = ks (par11 f k r) S k t) (hb : ∀ i, i < k → S i t < 256) {i : Nat} (hi : i < k + m) : mm k (tg17 f k m) S i t = S i t := by
  by_cases h : i < k
  · have e : mm k (tg17 f k m) S i t = mm k idm S i t := mm_congr (fun j hj => by
      show bdd (k + m) k (gen11 f k) i j = idm i j
      rw [bdd_in hi hj]
      unfold gen11
      rw [if_pos h]) (fun _ _ => rfl)
    rw [e]
    exact idm_mm h (hb i h)
  · have e : mm k (tg17 f k m) S i t = mm k (fun _ => par11 f k (i - k)) S i t := mm_congr (fun j hj => by
      show bdd (k + m) k (gen11 f k) i j = par11 f k (i - k) j
      rw [bdd_in hi hj]
      unfold gen11
      rw [if_neg h]) (fun _ _ => rfl)
    have h2 := hc (i - k) (by omega)
    rw [show k + (i - k) = i by omega] at h2
    rw [e, h2, ks_sx]
    rfl
theorem back17 {f : Int} {k m : Nat} {S : Nat → Nat → Nat} {t : Nat} (hf : f = 0 ∨ f = 1) (hs : k + m ≤ 256) (hc : ∀ r, r < m → S (k + r) t = ks (par11 f k r) S k t) (hb : ∀ i, i < k → S i t < 256) {R : Nat → Nat} (hR : ∀ i, i < k → R i < k + m) (inj : ∀ i j, j < i → i < k → R i ≠ R j) {i : Nat} (hi : i < k) :
    S i t = mm k (sol k (fun i j => tg17 f k m (R i) j) idm) (fun a => S (R a)) i t := by
  have h1 := (sol_inverse (fun i j => tg17_lt hs (R i) j) (any17 hf hs hR inj)).1
  have e1 : mm k (sol k (fun i j => tg17 f k m (R i) j) idm) (fun a => S (R a)) i t = mm k (sol k (fun i j => tg17 f k m (R i) j) idm) (mm k (fun i j => tg17 f k m (R i) j) S) i t := mm_congr (fun _ _ => rfl) (fun a ha => (gen17 hc hb (hR a ha)).symm)
  rw [e1, mm_assoc]
  have e2 : mm k (mm k (sol k (fun i j => tg17 f k m (R i) j) idm) (fun i j => tg17 f k m (R i) j)) S i t = mm k idm S i t := mm_congr (fun j hj => h1 i j hi hj) (fun _ _ => rfl)
  rw [e2]
  exact (idm_mm hi (hb i hi)).symm
end Go.Proofs.YtefolifecbhgoaaGreat
namespace Go.Proofs.YtefolifecbhgoaaGreat
open Go.RowKit Gf2
set_option linter.unusedVariables false


structure Cp17 (w wr : World) (m : Nat) (n : Nat → Nat) (S : Nat → Nat → Nat) (j : Nat) (C B : Nat → Nat) (T : Nat → Nat → Nat) : Prop where
  list : wr.rowIs w.heap.size 27 m (fun i => if i < j then .slice (some ⟨B i, 0, none⟩) (n i) (C i) else .slice none 0 0)
  row : ∀ i, i < j → w.heap.size + 1 ≤ B i ∧ B i < wr.heap.size ∧ n i ≤ C i ∧ Rw wr (B i) (C i) (T i) ∧ ∀ t, t < n i → T i t = S i t
  inj : ∀ i i', i < j → i' < j → B i = B i' → i = i'
  bel : Below w.heap.size w wr
def up17 {α : Type} (f : Nat → α) (j : Nat) (x : α) (i : Nat) : α := if i = j then x else f i
theorem up17_at {α : Type} (f : Nat → α) (j : Nat) (x : α) : up17 f j x j = x := if_pos rfl
theorem up17_ne {α : Type} (f : Nat → α) {j i : Nat} (x : α) (h : i ≠ j) : up17 f j x i = f i := if_neg h
theorem Cp17.next {w wr w1 : World} {m j g c : Nat} {n C B : Nat → Nat} {S T : Nat → Nat → Nat} {F : Nat → Nat} (h : Cp17 w wr m n S j C B T) (hj : j < m) (hc : n j ≤ c) (hg : wr.heap.size ≤ g) (hg1 : g < w1.heap.size) (hR : Rw w1 g c F) (hF : ∀ i, i < n j → F i = S j i) (hb : Below wr.heap.size wr w1) :
    Cp17 w (w1.setCell ⟨w.heap.size, j, none⟩ (.slice (some ⟨g, 0, none⟩) (n j) c)) m n S (j + 1) (up17 C j c) (up17 B j g) (up17 T j F) := by
  have hlt := h.list.lt
  have h1 : w1.rowIs w.heap.size 27 m (fun i => if i < j then .slice (some ⟨B i, 0, none⟩) (n i) (C i) else .slice none 0 0) := h.list.of_block (hb.block _ hlt)
  have ho : Only w.heap.size w1 (w1.setCell ⟨w.heap.size, j, none⟩ (.slice (some ⟨g, 0, none⟩) (n j) c)) := (Only.refl _ _).setCell _ _
  have hsz : (w1.setCell ⟨w.heap.size, j, none⟩ (.slice (some ⟨g, 0, none⟩) (n j) c)).heap.size = w1.heap.size := ho.2.1
  refine ⟨(h1.set j _).congr (fun i hi => ?_), fun i hi => ?_, fun i i' hi hi' e => ?_, (h.bel.trans (hb.mono h.bel.size)).setCell (Nat.le_refl _) _⟩
  · show (if i = j then _ else _) = _
    by_cases e : i = j
    · subst e; rw [if_pos rfl, if_pos (Nat.lt_succ_self _), up17_at, up17_at]
    · rw [if_neg e]
      rw [up17_ne _ _ e, up17_ne _ _ e]
      by_cases e2 : i < j
      · rw [if_pos e2, if_pos (by omega)]
      · rw [if_neg e2, if_neg (by omega)]
  · by_cases e : i = j
    · subst e
      rw [up17_at, up17_at, up17_at]
      exact ⟨by omega, by omega, hc, ⟨hR.1, hR.2.1, hR.2.2.of_block (ho.2.2 g (by omega))⟩, hF⟩
    · rw [up17_ne _ _ e, up17_ne _ _ e, up17_ne _ _ e]
      obtain ⟨r1, r2, r3, r4, r5⟩ := h.row i (by omega)
      exact ⟨r1, by have := hb.size; omega, r3, ⟨r4.1, r4.2.1, (r4.2.2.of_block (hb.block _ r2)).of_block (ho.2.2 _ (by omega))⟩, r5⟩
  · by_cases e1 : i = j
    · by_cases e2 : i' = j
      · omega
      · rw [e1, up17_at, up17_ne _ _ e2] at e
        have := h.row i' (by omega)
        omega
    · by_cases e2 : i' = j
      · rw [e2, up17_at, up17_ne _ _ e1] at e
        have := h.row i (by omega)
        omega
      · rw [up17_ne _ _ e1, up17_ne _ _ e2] at e
        exact h.inj i i' (by omega) (by omega) e
structure Cq17 (w w' : World) (m : Nat) (n : Nat → Nat) (S : Nat → Nat → Nat) : Prop where
  cs : ∃ C B T, Cs w.heap.size w'.heap.size w' (.slice (some ⟨w.heap.size, 0, none⟩) m m) m n C B T ∧ (∀ i, i < m → ∀ t, t < n i → T i t = S i t) ∧ w'.rowIs w.heap.size 27 m (fun i => .slice (some ⟨B i, 0, none⟩) (n i) (C i))
  bel : Below w.heap.size w w'
theorem Cp17.done {w wr : World} {m : Nat} {n C B : Nat → Nat} {S T : Nat → Nat → Nat} (h : Cp17 w wr m n S m C B T) (hm : m ≤ big) : Cq17 w wr m n S := by
  refine ⟨⟨C, B, T, ⟨hm, Nat.le_refl _, ⟨_, _, rfl, Nat.le_refl _, hm, fun h0 => ⟨_, rfl, Nat.le_refl _, h.list.lt, fun i hi => by have := h.row i hi; omega, fun i hi => (h.list.cell hi).trans (by rw [if_pos hi])⟩⟩, fun i hi => ?_, h.inj⟩, fun i hi t ht => (h.row i hi).2.2.2.2 t ht, h.list.congr (fun i hi => if_pos hi)⟩, h.bel⟩
  obtain ⟨r1, r2, r3, r4, r5⟩ := h.row i hi
  exact ⟨by omega, r2, r3, r4⟩

set_option maxHeartbeats 2000000 in
set_option maxRecDepth 100000 in
theorem copied17 (v : Value) (m : Nat) (n : Nat → Nat) (S : Nat → Nat → Nat) (w : World) (h : Lb w v m n S) (hm : m ≤ 1000) (hn : ∀ i, i < m → n i ≤ 140737488351232) :
    Calls Tryz.prog 10 #[v] w fun e w' => e = .returned (.slice (some ⟨w.heap.size, 0, none⟩) m m) ∧ Cq17 w w' m n S := by
  obtain ⟨a, cu, rfl⟩ : ∃ a cu, v = .slice a m cu := by obtain ⟨V, ⟨_, a, c, e, _⟩, _⟩ := h; exact ⟨a, c, e⟩
  have hmk := make_rows m (by omega)
  have HU : Hid (Lb w (.slice a m cu) m n S ∧ m ≤ 1000 ∧ ∀ i, i < m → n i ≤ 140737488351232) := ⟨h, hm, hn⟩
  clear h hm hn
  go_enter Tryz.func10, Tryz.ntmps10
  go_wp2
  clear hmk
  go_loopw [4] (fun i wr => ∃ j : Nat, j ≤ m ∧ i = .int .i64 j ∧ ∃ C B T, Cp17 w wr m n S j C B T) (fun i _ => m - (intOf i).toNat)
  case atStart => exact ⟨0, Nat.zero_le _, rfl, fun _ => 0, fun _ => 0, fun _ _ => 0, (World.rowIs_made w (.slice none 0 0) m 27).congr (fun i _ => (if_neg (Nat.not_lt_zero _)).symm), fun i hi => absurd hi (Nat.not_lt_zero _), fun i i' hi => absurd hi (Nat.not_lt_zero _), (Below.refl _ _).alloc (Nat.le_refl _) _⟩
  case round =>
    obtain ⟨j, hj, rfl, C, B, T, hT⟩ := hrel
    by_cases hlt : j < m
    · obtain ⟨VU, ⟨-, a', c', e, -, -, h4⟩, hVU⟩ := HU.out.1.below hT.bel
      cases e
      obtain ⟨b1, o1, rfl, z0, z1⟩ := h4 (by omega)
      have r1 := hVU j hlt
      obtain ⟨-, -, x1, y1, e1, -⟩ := id r1
      have q1 := (z1 j hlt).trans (by rw [e1])
      rw [e1] at r1
      obtain ⟨w1, g, c, F, hrun, hC, hg, hg1, hR, hF, hb⟩ := copy_app wr r1.rb (by have := HU.out.2.2 j hlt; omega)
      have hbx : Below wr.heap.size wr (wr.alloc (.cells #[] 5)) := (Below.refl _ _).alloc (Nat.le_refl _) _
      have q1' : (wr.alloc (.cells #[] 5)).cell? ⟨b1, o1 + j, none⟩ = some (.slice x1 (n j) y1) := (hbx.cell (p := ⟨b1, o1 + j, none⟩) z0.1).trans q1
      have hlw : w1.rowIs w.heap.size 27 m (fun i => if i < j then .slice (some ⟨B i, 0, none⟩) (n i) (C i) else .slice none 0 0) := hT.list.of_block (hb.block _ hT.list.lt)
      have q2 := hlw.cell hlt
      rw [if_neg (Nat.lt_irrefl _)] at q2
      have q3 := hlw.frozen j
      have HE : Hid _ := hT.next hlt hC hg hg1 hR hF hb
      have ib : ((j : Nat) : Int) < (m : Int) := by omega
      have HX : Hid (j < m) := hlt
      have W1 := wrap_succ8 (j := j) (by have := HU.out; unfold big; omega)
      clear hT z1 z0 h4 hVU r1 e1 hC hg hg1 hR hF hb hbx hlw q1 hj
      generalize n j = l1 at q1' hrun HE
      go_wp2_with (at_builtin; refine Lib.wpList_append_run _ rfl _ _ _ _ rfl _ _ rfl rfl _ _ hrun ?_; clear hrun)
      go_roundw
      case rel => exact ⟨j + 1, HX.out, by first | rfl | (rw [W1]; rfl), _, _, _, HE.out⟩
      case measure => first | exact meas_lt8 HX.out | (rw [W1]; exact meas_lt8 HX.out)
    · obtain rfl : j = m := by omega
      have HE : Hid _ := hT.done (by have := HU.out.2.1; unfold big; omega)
      have htn : ¬ ((j : Nat) : Int) < (j : Int) := by omega
      clear hT
      go_wp2
      go_ret
      exact ⟨rfl, HE.out⟩
end Go.Proofs.YtefolifecbhgoaaGreat
namespace Go.Proofs.YtefolifecbhgoaaGreat
open Go.RowKit Gf2
set_option linter.unusedVariables false


theorem uq_congr17 (f : Int) (k : Nat) (Q : Nat → Bool) (S S' Fr Fr' : Nat → Nat → Nat) (r j : Nat) (h : ∀ a, a < k → Q a = true → S a j = S' a j ∧ Fr a j = Fr' a j) : ∀ x, x ≤ (ems Q k).length → uq17 f k Q S Fr r j x = uq17 f k Q S' Fr' r j x
  | 0, _ => rfl
  | x + 1, hx => by
    show uq17 f k Q S Fr r j x ^^^ _ = uq17 f k Q S' Fr' r j x ^^^ _
    obtain ⟨h1, h2⟩ := eN_mem (P := Q) (n := k) (i := x) (by omega)
    obtain ⟨e1, e2⟩ := h _ h1 h2
    rw [uq_congr17 f k Q S S' Fr Fr' r j h x (by omega), e1, e2]
end Go.Proofs.YtefolifecbhgoaaGreat
namespace Go.Proofs.YtefolifecbhgoaaGreat
open Go.RowKit Gf2
set_option linter.unusedVariables false


theorem enc_cw17 {f : Int} {k m l : Nat} {S : Nat → Nat → Nat} : Cw17 f k m 0 l (enc17 f k 0 l S) := fun r hr j h1 h2 => by
  show (if k ≤ k + r ∧ 0 ≤ j ∧ j < l then ks (par11 f k (k + r - k)) S k j else S (k + r) j) = _
  rw [if_pos ⟨by omega, by omega, h2⟩, show k + r - k = r by omega]
  refine ks_congr k (fun i hi => ⟨rfl, ?_⟩)
  show _ = if k ≤ i ∧ 0 ≤ j ∧ j < l then _ else S i j
  rw [if_neg (by omega)]
theorem wrap_sum17 {a b : Nat} (h : a + b ≤ 1000) : wrap64 ((a : Int) + (b : Int)) = ((a + b : Nat) : Int) := by unfold wrap64; omega
theorem wrap_pred17 {a : Nat} (h1 : 1 ≤ a) (h : a ≤ 1000) : wrap64 ((a : Int) - 1) = ((a - 1 : Nat) : Int) := by unfold wrap64; omega
end Go.Proofs.YtefolifecbhgoaaGreat
