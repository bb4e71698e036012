import Derived.Test.YtdnhidachdjgaaaMxi
namespace Go.Proofs.Ytdnhidachdjgaaa
open Go.RowKit Gf2
set_option linter.unusedVariables false

/-- the product, its first x terms in row r, the rows below r whole. -/
def mup (n : Nat) (S T : Nat → Nat → Nat) (r x : Nat) : Nat → Nat → Nat := fun i j => if i < r then mm n S T i j else if i = r then mm x S T i j else 0
theorem mup_step (n k : Nat) (S T : Nat → Nat → Nat) (r x i j : Nat) (hj : j < k) : upn (mup n S T r x) r (pl (mup n S T r x r) 0 k (fun j => mup n S T r x r (0 + j) ^^^ fm 285 (S r x) (T x j))) i j = mup n S T r (x + 1) i j := by
  by_cases e : i = r
  · subst e
    rw [upn_same]
    unfold pl
    rw [if_pos (by omega)]
    show mup n S T i x i (0 + (j - 0)) ^^^ fm 285 (S i x) (T x (j - 0)) = _
    rw [Nat.sub_zero, Nat.zero_add]
    unfold mup
    rw [if_neg (Nat.lt_irrefl _), if_pos rfl, if_neg (Nat.lt_irrefl _), if_pos rfl]
    rfl
  · rw [upn_other _ _ e]
    unfold mup
    by_cases h : i < r
    · rw [if_pos h, if_pos h]
    · rw [if_neg h, if_neg h, if_neg e, if_neg e]
theorem mup_row (n : Nat) (S T : Nat → Nat → Nat) (r i j : Nat) : mup n S T r n i j = mup n S T (r + 1) 0 i j := by
  unfold mup
  by_cases h : i < r
  · rw [if_pos h, if_pos (by omega)]
  · rw [if_neg h]
    by_cases e : i = r
    · rw [if_pos e, if_pos (by omega)]
    · rw [if_neg e, if_neg (by omega)]
      split
      · rfl
      · rfl
/-- a slice's address and room. -/
def sa10 : Value → Option Addr
  | .slice a _ _ => a
  | _ => none
def sc10 : Value → Nat
  | .slice _ _ c => c
  | _ => 0
theorem rows10f {w : World} {u : Value} {m n : Nat} {S : Nat → Nat → Nat} (h : Lb w u m (fun _ => n) S) (h0 : 1 ≤ m) : ∃ b o cap, ∃ (X : Nat → Option Addr) (CX : Nat → Nat), u = .slice (some ⟨b, o, none⟩) m cap ∧ ∀ y, Below w.heap.size w y → ∀ i, i < m → y.cell? ⟨b, o + i, none⟩ = some (.slice (X i) n (CX i)) ∧ ∀ g, w.heap.size ≤ g → Fk y g n (X i) (S i) := by
  obtain ⟨V, ⟨hnb, a, cap, rfl, -, -, h4⟩, hV⟩ := h
  obtain ⟨b, o, rfl, hbl, hc⟩ := h4 h0
  refine ⟨b, o, cap, fun i => sa10 (V i), fun i => sc10 (V i), rfl, fun y hy i hi => ?_⟩
  obtain ⟨h1, h2, x, cx, e, h3, h5, h6⟩ := hV i hi
  have e' : V i = .slice (sa10 (V i)) n (sc10 (V i)) := by rw [e]; rfl
  have ex : sa10 (V i) = x := by rw [e]; rfl
  refine ⟨by rw [← e', ← hc i hi]; exact hy.cell (p := ⟨b, o + i, none⟩) hbl.1, fun g hg => ⟨h2, fun h0 => ?_⟩⟩
  obtain ⟨bx, ox, e1, hl, hcl⟩ := h6 h0
  exact ⟨bx, ox, ex.trans e1, by omega, Nat.lt_of_lt_of_le hl.1 hy.size, fun j hj => (hy.cell (p := ⟨bx, ox + j, none⟩) hl.1).trans (hcl j hj)⟩
set_option maxHeartbeats 4000000 in
set_option maxRecDepth 100000 in
theorem mul10_yes (u v : Value) (m n k : Nat) (S T : Nat → Nat → Nat) (w : World) (hu : Lb w u m (fun _ => n) S) (hv : Lb w v n (fun _ => k) T) (hm : 1 ≤ m) (hm2 : m ≤ 256) (hn : 1 ≤ n) (hn2 : n ≤ 256) (hk : 1 ≤ k) (hk2 : k ≤ 512) :
    Calls Try.prog 24 #[u, v] w fun e w' => ∃ x, e = .returned (.tuple #[x, .int .i64 0]) ∧ Ans w w' x m k (mm n S T) := by
  have c1 := checkBoth10_yes u v m n (fun _ => n) (fun _ => k) S T w hu hv ⟨hm, hm2, hn, by show n ≤ 512; omega, fun _ _ => rfl⟩ ⟨hn, hn2, hk, hk2, fun _ _ => rfl⟩
  obtain ⟨b, o, cap, X, CX, rfl, hU⟩ := rows10f hu hm
  obtain ⟨b', o', cap', Y, CY, rfl, hV⟩ := rows10f hv hn
  obtain ⟨z0, -⟩ := hU w (Below.refl _ _) 0 hm
  rw [Nat.add_zero] at z0
  have c3 := new_tab w
  have c4 := fun x => zeros10_any m k x (by omega) (by omega)
  have i0 : (0 : Int) < (m : Int) := Int.ofNat_lt.2 hm
  have i1 : (0 : Int) < (n : Int) := Int.ofNat_lt.2 hn
  have z2 : ∀ y, Below w.heap.size w y → ∃ x2 y2, y.cell? ⟨b', o', none⟩ = some (.slice x2 k y2) := fun y hy => by
    obtain ⟨z, -⟩ := hV y hy 0 hn
    rw [Nat.add_zero] at z
    exact ⟨_, _, z⟩
  have HK : Hid (m ≤ 1000 ∧ n ≤ 1000 ∧ m ≤ big ∧ k ≤ big) := ⟨by omega, by omega, by unfold big; omega, by unfold big; omega⟩
  have HU : Hid _ := hU
  have HV : Hid _ := hV
  clear hu hv hm hm2 hn hn2 hk hk2 hU hV
  go_enter Try.func24, Try.ntmps24
  go_wp2_with (first | (go_at_call 57; (with_reducible refine c1.mono ?_); rintro e w9 ⟨rfl, hw9⟩; have hw9 := hw9.symm; subst hw9) | (go_at_call 38; (with_reducible refine c3.mono ?_); rintro e w9 ⟨rfl, w0, hw9, hs0, ht, hb0⟩; subst hw9; obtain ⟨x2, y2, z2⟩ := z2 w0 hb0) | (go_at_call 39; (with_reducible refine (c4 _).mono ?_); rintro e w1 ⟨rfl, hz⟩))
  clear c1 c3 c4 z0 z2 i0 i1
  have hz : Zr w0 w1 m k m := hz
  have hC := hz.cs HK.out.2.2.1 HK.out.2.2.2
  have hb1 := hz.bel
  clear hz
  generalize hB : (fun i => w0.heap.size + 1 + i) = B at hC
  clear hB
  rw [hs0] at hC hb1
  have HT : Hid (∀ x, Below (w.heap.size + 1) w0 x → Tab8 x w.heap.size) := fun x hx => ht.of_heap (hx.block _ (by omega))
  have HB : Hid (∀ x, Below (w.heap.size + 1) w0 x → Below w.heap.size w x) := fun x hx => hb0.trans (hx.mono (Nat.le_succ _))
  have HS : Hid (w0.heap.size = w.heap.size + 1) := hs0
  clear hb0 ht hs0 z2
  go_loopw [36] (fun i wr => ∃ r : Nat, r ≤ m ∧ i = .int .i64 r ∧ Cs (w.heap.size + 1) w1.heap.size wr (.slice (some ⟨w.heap.size + 1, 0, none⟩) m m) m (fun _ => k) (fun _ => k) B (mup n S T r 0) ∧ Below (w.heap.size + 1) w0 wr) (fun i _ => m - (intOf i).toNat)
  case atStart => exact ⟨0, Nat.zero_le _, rfl, hC.congr (fun i _ j _ => by unfold mup; rw [if_neg (Nat.not_lt_zero _)]; split; rfl; rfl), hb1⟩
  case round =>
    obtain ⟨r, hr, rfl, hC', hb'⟩ := hrel
    clear hC hb1
    by_cases hlt : r < m
    · obtain ⟨q1, -⟩ := HU.out wr (HB.out _ hb') r hlt
      have ib : ((r : Nat) : Int) < (m : Int) := Int.ofNat_lt.2 hlt
      have W1 := wrap_lt8 hlt HK.out.1
      go_wp2
      go_loopw [43] (fun j wr2 => ∃ c : Nat, c ≤ n ∧ j = .int .i64 c ∧ Cs (w.heap.size + 1) w1.heap.size wr2 (.slice (some ⟨w.heap.size + 1, 0, none⟩) m m) m (fun _ => k) (fun _ => k) B (mup n S T r c) ∧ Below (w.heap.size + 1) w0 wr2) (fun j _ => n - (intOf j).toNat)
      case atStart => exact ⟨0, Nat.zero_le _, rfl, hC', hb'⟩
      case round =>
        obtain ⟨c, hc, rfl, hC2, hb2⟩ := hrel
        clear hC' hb'
        by_cases hct : c < n
        · obtain ⟨-, hfa⟩ := HU.out wr (HB.out _ hb2) r hlt
          obtain ⟨la, hfa⟩ := hfa _ (Nat.le_refl _)
          obtain ⟨bx, ox, eX, -, hbl, hca⟩ := hfa (Nat.lt_of_le_of_lt (Nat.zero_le _) hct)
          have q3 := hca c hct
          have q2 : wr.drew.cell? ⟨w.heap.size + 1, r, none⟩ = some (.slice (some ⟨B r, 0, none⟩) k k) := hC2.at_ hlt
          obtain ⟨q4, hfb⟩ := HV.out wr.drew (below_drewN (HB.out _ hb2) 1) c hct
          have hC3 : Cs (w.heap.size + 1) w1.heap.size wr.drew (.slice (some ⟨w.heap.size + 1, 0, none⟩) m m) m (fun _ => k) (fun _ => k) B (mup n S T r c) := hC2.drewN 1
          have hbr := (hC3.row r hlt).1
          have c7 := addmul10 w.heap.size (S r c) k (B r) 0 k k k (mup n S T r c r) (T c) (Y c) (CY c) wr.drew (HT.out _ (below_drewN hb2 1)) (Nat.ne_of_lt hbr) (la c hct) (hC3.row r hlt).2.2.2 (Nat.le_refl _) (Nat.le_of_eq (Nat.zero_add k)) (hfb _ (Nat.le_trans (Nat.le_succ _) hbr))
          have HE : Hid (∀ y, Kp (B r) wr.drew y → Rw y (B r) k (pl (mup n S T r c r) 0 k (fun j => mup n S T r c r (0 + j) ^^^ fm 285 (S r c) (T c j))) → Cs (w.heap.size + 1) w1.heap.size y (.slice (some ⟨w.heap.size + 1, 0, none⟩) m m) m (fun _ => k) (fun _ => k) B (mup n S T r (c + 1)) ∧ Below (w.heap.size + 1) w0 y) := fun y h1 h2 =>
            ⟨(hC3.turn1 hlt h1 h2).congr (fun i _ j hj => mup_step n k S T r c i j hj), (below_drewN hb2 1).trans (h1.below hbr (Nat.le_trans (Nat.le_of_eq HS.out.symm) (below_drewN hb2 1).size))⟩
          have jb : ((c : Nat) : Int) < (n : Int) := Int.ofNat_lt.2 hct
          have W2 := wrap_lt8 hct HK.out.2.1
          have HX : Hid (c < n) := hct
          generalize S r c = A0 at q3 c7 HE
          rw [eX]
          clear hC2 hb2 hC3 hbr hfa hfb hca hbl la HU HV hct hc hr
          go_wp2
          refine region_planT (fun w' => w'.cell? ⟨w.heap.size + 1, r, none⟩ = some (.slice (some ⟨B r, 0, none⟩) k k) ∧ w'.cell? ⟨b', o' + c, none⟩ = some (.slice (Y c) k (CY c))) 10 [10] 62 ⟨q2, q4⟩ (by kernel_rfl) (by kernel_rfl) (fun _ a d v _ h => by cases d <;> exact h) ?_
          refine planT_last ?A2x0 rfl (fun w' hS => ?s2x0) rfl ?n2x0
          case s2x0 =>
            obtain ⟨y1, y2⟩ := hS
            simp only [List.take_succ_cons, List.take_zero]
            repeat still_step
            exact rfl
          case n2x0 =>
          simp only [List.drop_succ_cons, List.drop_zero]
          go_wp2_with (go_at_call 58; ((with_reducible refine c7.mono ?_); rintro e w8 ⟨rfl, hk8, hr8⟩; have HF := HE.out w8 hk8 hr8; have HF : Hid _ := HF; clear hk8 hr8 HE c7))
          go_roundw
          case rel => first | exact ⟨c + 1, HX.out, by first | rfl | (rw [W2]; rfl), HF.out.1, HF.out.2⟩ | (rw [W2]; (repeat apply Exists.intro); exact ⟨⟨c + 1, HX.out, rfl, HF.out.1, HF.out.2⟩, rfl⟩)
          case measure => first | exact meas_lt8 HX.out | (rw [W2]; exact meas_lt8 HX.out)
        · have hcn : c = n := Nat.le_antisymm hc (Nat.le_of_not_lt hct)
          subst hcn
          have HC : Hid (Cs (w.heap.size + 1) w1.heap.size wr (.slice (some ⟨w.heap.size + 1, 0, none⟩) m m) m (fun _ => k) (fun _ => k) B (mup c S T (r + 1) 0) ∧ Below (w.heap.size + 1) w0 wr) := ⟨hC2.congr (fun i _ j _ => mup_row c S T r i j), hb2⟩
          clear hC2 hb2
          go_wp2
          go_roundw
          case rel => exact ⟨r + 1, hlt, by first | rfl | (rw [W1]; rfl), HC.out.1, HC.out.2⟩
          case measure => first | exact meas_lt8 hlt | (rw [W1]; exact meas_lt8 hlt)
    · have hrm : r = m := Nat.le_antisymm hr (Nat.le_of_not_lt hlt)
      subst hrm
      go_wp2
      go_ret2
      exact ⟨_, rfl, (hC'.ans (Nat.le_succ _) (HB.out _ hb')).congr (fun i hi j _ => by unfold mup; rw [if_pos hi])⟩
end Go.Proofs.Ytdnhidachdjgaaa
