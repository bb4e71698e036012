import Derived.Test.YtljfpgebekpjgaaWsal
import Derived.Test.YtljfpgebekpjgaaWsae
import Derived.Test.YtljfpgebekpjgaaWsao
namespace Go.Proofs.Ytljfpgebekpjgaa
open Go.RowKit Gf2
set_option linter.unusedVariables false

/-- T in the rows below r and in row r below column c, else S. -/
def fil (T S : Nat → Nat → Nat) (r c : Nat) : Nat → Nat → Nat := fun i j => if i < r ∨ (i = r ∧ j < c) then T i j else S i j
section
variable {lo hi m k : Nat} {w w' : World} {v : Value} {B : Nat → Nat} {S T : Nat → Nat → Nat}
theorem Cs.fil_start (T : Nat → Nat → Nat) (h : Cs lo hi w v m (fun _ => k) (fun _ => k) B S) : Cs lo hi w v m (fun _ => k) (fun _ => k) B (fil T S 0 0) :=
  h.congr (fun i _ j _ => by unfold fil; rw [if_neg (by omega)])
theorem Cs.fil_set {r c : Nat} (h : Cs lo hi w v m (fun _ => k) (fun _ => k) B (fil T S r c)) (hr : r < m) (hx : T r c < 256) : Cs lo hi (w.setCell ⟨B r, c, none⟩ (.int .u8 (T r c : Nat))) v m (fun _ => k) (fun _ => k) B (fil T S r (c + 1)) :=
  (h.set hr c (T r c) hx).congr (fun i _ j _ => by
    unfold st2 fil
    by_cases e : i = r ∧ j = c
    · rw [if_pos e, if_pos (by omega), e.1, e.2]
    · rw [if_neg e]
      by_cases e2 : i < r ∨ i = r ∧ j < c
      · rw [if_pos e2, if_pos (by omega)]
      · rw [if_neg e2, if_neg (by omega)])
theorem Cs.fil_row {r : Nat} (h : Cs lo hi w v m (fun _ => k) (fun _ => k) B (fil T S r k)) : Cs lo hi w v m (fun _ => k) (fun _ => k) B (fil T S (r + 1) 0) :=
  h.congr (fun i _ j hj => by
    unfold fil
    by_cases e2 : i < r ∨ i = r ∧ j < k
    · rw [if_pos e2, if_pos (by omega)]
    · rw [if_neg e2, if_neg (by omega)])
theorem Cs.fil_end (h : Cs lo hi w v m (fun _ => k) (fun _ => k) B (fil T S m 0)) : Cs lo hi w v m (fun _ => k) (fun _ => k) B T :=
  h.congr (fun i hi' j hj => by unfold fil; rw [if_pos (by omega)])
end
/-- a matrix that is answered: new memory, each row of its own. -/
def Ans (w w' : World) (v : Value) (m c : Nat) (S : Nat → Nat → Nat) : Prop := (∃ B, Cs w.heap.size w'.heap.size w' v m (fun _ => c) (fun _ => c) B S) ∧ Below w.heap.size w w'
theorem Cs.ans {lo hi m c : Nat} {w w' : World} {v : Value} {B : Nat → Nat} {S : Nat → Nat → Nat} (h : Cs lo hi w' v m (fun _ => c) (fun _ => c) B S) (hl : w.heap.size ≤ lo) (hb : Below w.heap.size w w') : Ans w w' v m c S :=
  ⟨⟨B, h.wide hl h.hw (Nat.le_refl _)⟩, hb⟩
theorem Ans.congr {m c : Nat} {w w' : World} {v : Value} {S T : Nat → Nat → Nat} (h : Ans w w' v m c S) (e : ∀ i, i < m → ∀ j, j < c → S i j = T i j) : Ans w w' v m c T := by
  obtain ⟨⟨B, h1⟩, h2⟩ := h
  exact ⟨⟨B, h1.congr e⟩, h2⟩
theorem Ans.lb {m c : Nat} {w w' : World} {v : Value} {S : Nat → Nat → Nat} (h : Ans w w' v m c S) : Lb w' v m (fun _ => c) S := by
  obtain ⟨⟨B, h1⟩, h2⟩ := h
  exact h1.lb

/-- a matrix has form. -/
def Fm (m : Nat) (n : Nat → Nat) : Prop := 1 ≤ m ∧ m ≤ 256 ∧ 1 ≤ n 0 ∧ n 0 ≤ 512 ∧ ∀ i, i < m → n i = n 0

set_option maxHeartbeats 400000 in
theorem within10_yes (n most : Int) (w : World) (h : 1 ≤ n) (k : n ≤ most) :
    Calls Try.prog 30 #[.int .i64 n, .int .i64 most] w fun e w' => e = .returned (.bool true) ∧ w' = w := by
  go_enter Try.func30, Try.ntmps30
  go_wp2
  go_ret
  exact ⟨rfl, rfl⟩
set_option maxHeartbeats 400000 in
theorem within10_no (n most : Int) (w : World) (h : n < 1 ∨ most < n) :
    Calls Try.prog 30 #[.int .i64 n, .int .i64 most] w fun e w' => e = .returned (.bool false) ∧ w' = w := by
  rcases Classical.em (1 ≤ n) with h1 | h1
  · have h2 : ¬ n ≤ most := by omega
    go_enter Try.func30, Try.ntmps30
    go_wp2
    go_ret
    exact ⟨rfl, rfl⟩
  · go_enter Try.func30, Try.ntmps30
    go_wp2
    go_ret
    exact ⟨rfl, rfl⟩
end Go.Proofs.Ytljfpgebekpjgaa
namespace Go.Proofs.Ytljfpgebekpjgaa
open Go.RowKit Gf2
set_option linter.unusedVariables false

set_option maxHeartbeats 2000000 in
set_option maxRecDepth 100000 in
theorem check10_any (v : Value) (m : Nat) (n : Nat → Nat) (S : Nat → Nat → Nat) (w : World) (h : Lb w v m n S) :
    Calls Try.prog 34 #[v] w fun e w' => (∃ e0 : Nat, e = .returned (.int .i64 (e0 : Nat)) ∧ (e0 = 0 ∧ Fm m n ∨ e0 = 100 ∧ ¬ Fm m n)) ∧ w' = w := by
  obtain ⟨V, ⟨hn, a, cap, rfl, -, -, h4⟩, hV⟩ := h
  by_cases h1 : 1 ≤ m ∧ m ≤ 256
  case neg =>
    have c1 := fun x => within10_no (m : Int) 256 x (by omega)
    have nF : ¬ Fm m n := fun f => h1 ⟨f.1, f.2.1⟩
    go_enter Try.func34, Try.ntmps34
    go_wp2_with (go_at_call 30; (with_reducible refine (c1 _).mono ?_); rintro e w9 ⟨rfl, hw9⟩; have hw9 := hw9.symm; subst hw9)
    go_ret
    exact ⟨⟨100, rfl, .inr ⟨rfl, nF⟩⟩, rfl⟩
  case pos =>
    have c1 := fun x => within10_yes (m : Int) 256 x (by omega) (by omega)
    obtain ⟨b, o, rfl, hbl, hc⟩ := h4 (by omega)
    clear h4
    have sl : ∀ i, i < m → ∃ x y, w.cell? ⟨b, o + i, none⟩ = some (.slice x (n i) y) := fun i hi => by
      obtain ⟨_, _, x, y, e, _⟩ := hV i hi
      exact ⟨x, y, by rw [hc i hi, e]⟩
    obtain ⟨x0, y0, z0⟩ := sl 0 (by omega)
    rw [Nat.add_zero] at z0
    clear hc hV
    have i0 : (0 : Int) < (m : Int) := by omega
    by_cases h2 : 1 ≤ n 0 ∧ n 0 ≤ 512
    case neg =>
      have c2 := fun x => within10_no (n 0 : Int) 512 x (by omega)
      have nF : ¬ Fm m n := fun f => h2 ⟨f.2.2.1, f.2.2.2.1⟩
      go_enter Try.func34, Try.ntmps34
      go_wp2_with (go_at_call 30; first | ((with_reducible refine (c1 _).mono ?_); rintro e w9 ⟨rfl, hw9⟩; have hw9 := hw9.symm; subst hw9) | ((with_reducible refine (c2 _).mono ?_); rintro e w9 ⟨rfl, hw9⟩; have hw9 := hw9.symm; subst hw9))
      go_ret
      exact ⟨⟨100, rfl, .inr ⟨rfl, nF⟩⟩, rfl⟩
    case pos =>
      have c2 := fun x => within10_yes (n 0 : Int) 512 x (by omega) (by omega)
      go_enter Try.func34, Try.ntmps34
      go_wp2_with (go_at_call 30; first | ((with_reducible refine (c1 _).mono ?_); rintro e w9 ⟨rfl, hw9⟩; have hw9 := hw9.symm; subst hw9) | ((with_reducible refine (c2 _).mono ?_); rintro e w9 ⟨rfl, hw9⟩; have hw9 := hw9.symm; subst hw9))
      clear c1 c2
      go_loopw [19] (fun i wr => ∃ k : Nat, k ≤ m ∧ i = .int .i64 k ∧ (∀ i, i < k → n i = n 0) ∧ wr = w) (fun i _ => m - (intOf i).toNat)
      case atStart => exact ⟨0, Nat.zero_le _, rfl, fun i hi => absurd hi (Nat.not_lt_zero _), rfl⟩
      case round =>
        obtain ⟨k, hk, rfl, hE, rfl⟩ := hrel
        by_cases hlt : k < m
        · obtain ⟨xk, yk, zk⟩ := sl k hlt
          have ib : ((k : Nat) : Int) < (m : Int) := by omega
          have W1 := wrap_succ8 (j := k) (by unfold big; omega)
          have HE : Hid (∀ i, i < k → n i = n 0) := hE
          by_cases hnk : n k = n 0
          · have Hn : Hid (n k = n 0) := hnk
            rw [hnk] at zk
            clear sl hE hnk
            go_wp2
            go_roundw
            case rel =>
              refine ⟨k + 1, hlt, by first | rfl | (rw [W1]; rfl), fun i hi => ?_, by trivial⟩
              by_cases e : i = k
              · rw [e]; exact Hn.out
              · exact HE.out i (by omega)
            case measure => first | exact meas_lt8 hlt | (rw [W1]; exact meas_lt8 hlt)
          · have hI : ¬ ((n k : Nat) : Int) = ((n 0 : Nat) : Int) := by omega
            have nF : ¬ Fm m n := fun f => hnk (f.2.2.2.2 k hlt)
            clear sl hE hnk
            go_wp2
            go_ret
            exact ⟨⟨100, rfl, .inr ⟨rfl, nF⟩⟩, rfl⟩
        · have hkn : k = m := by omega
          subst hkn
          clear sl
          go_wp2
          go_ret
          exact ⟨⟨0, rfl, .inl ⟨rfl, h1.1, h1.2, h2.1, h2.2, hE⟩⟩, rfl⟩
theorem check10_yes (v : Value) (m : Nat) (n : Nat → Nat) (S : Nat → Nat → Nat) (w : World) (h : Lb w v m n S) (hf : Fm m n) :
    Calls Try.prog 34 #[v] w fun e w' => e = .returned (.int .i64 0) ∧ w' = w :=
  (check10_any v m n S w h).mono fun e w' ⟨⟨e0, h1, h2⟩, h3⟩ => ⟨by rcases h2 with ⟨h2, _⟩ | ⟨_, h2⟩; rw [h1, h2]; rfl; exact absurd hf h2, h3⟩
set_option maxHeartbeats 2000000 in
set_option maxRecDepth 100000 in
theorem ident10_yes (n : Nat) (w : World) (h1 : 1 ≤ n) (h2 : n ≤ 256) :
    Calls Try.prog 28 #[.int .i64 (n : Int)] w fun e w' => ∃ v, e = .returned (.tuple #[v, .int .i64 0]) ∧ Ans w w' v n n idm := by
  have c1 := fun x => within10_yes (n : Int) 256 x (by omega) (by omega)
  have c2 := fun x => zeros10_any n n x (by omega) (by omega)
  go_enter Try.func28, Try.ntmps28
  go_wp2_with (first | (go_at_call 30; (with_reducible refine (c1 _).mono ?_); rintro e w9 ⟨rfl, hw9⟩; have hw9 := hw9.symm; subst hw9) | (go_at_call 32; (with_reducible refine (c2 _).mono ?_); rintro e w1 ⟨rfl, hz⟩))
  clear c1 c2
  have hC := hz.cs (by unfold big; omega) (by unfold big; omega)
  have hb := hz.bel
  clear hz
  generalize hB : (fun i => w.heap.size + 1 + i) = B at hC
  clear hB
  go_loopw [14] (fun i wr => ∃ k : Nat, k ≤ n ∧ i = .int .i64 k ∧ Cs w.heap.size w1.heap.size wr (.slice (some ⟨w.heap.size, 0, none⟩) n n) n (fun _ => n) (fun _ => n) B (fun i j => if i < k ∧ i = j then 1 else 0) ∧ Below w.heap.size w wr) (fun i _ => n - (intOf i).toNat)
  case atStart => exact ⟨0, Nat.zero_le _, rfl, hC.congr (fun i _ j _ => (if_neg (by omega)).symm), hb⟩
  case round =>
    obtain ⟨k, hk, rfl, hC', hb'⟩ := hrel
    clear hC hb
    by_cases hlt : k < n
    · have q1 := hC'.at_ hlt
      have q2 := hC'.cell_ hlt (j := k) hlt
      have q3 := hC'.froz hlt k
      have ib : ((k : Nat) : Int) < (n : Int) := by omega
      have W1 := wrap_succ8 (j := k) (by unfold big; omega)
      have HZ : Hid (Cs w.heap.size w1.heap.size (wr.setCell ⟨B k, k, none⟩ (.int .u8 ((1 : Nat) : Int))) (.slice (some ⟨w.heap.size, 0, none⟩) n n) n (fun _ => n) (fun _ => n) B (fun i j => if i < k + 1 ∧ i = j then 1 else 0) ∧ Below w.heap.size w (wr.setCell ⟨B k, k, none⟩ (.int .u8 ((1 : Nat) : Int)))) :=
        ⟨(hC'.set hlt k 1 (by decide)).congr (fun i _ j _ => by
          show (if i = k ∧ j = k then 1 else if i < k ∧ i = j then 1 else 0) = (if i < k + 1 ∧ i = j then 1 else 0)
          by_cases e : i = k ∧ j = k
          · rw [if_pos e, if_pos (by omega)]
          · rw [if_neg e]
            by_cases e2 : i < k ∧ i = j
            · rw [if_pos e2, if_pos (by omega)]
            · rw [if_neg e2, if_neg (by omega)]), hC'.bel hb' hlt k _⟩
      clear hC' hb'
      go_wp2
      go_roundw
      case rel => exact ⟨k + 1, hlt, by first | rfl | (rw [W1]; rfl), HZ.out.1, HZ.out.2⟩
      case measure => first | exact meas_lt8 hlt | (rw [W1]; exact meas_lt8 hlt)
    · have hkn : k = n := by omega
      subst hkn
      go_wp2
      go_ret2
      exact ⟨_, rfl, (hC'.ans (Nat.le_refl _) hb').congr (fun i hi j hj => by
        unfold idm
        by_cases e : i = j
        · rw [if_pos ⟨hi, e⟩, if_pos e]
        · rw [if_neg (fun h => e h.2), if_neg e])⟩
end Go.Proofs.Ytljfpgebekpjgaa
namespace Go.Proofs.Ytljfpgebekpjgaa
open Go.RowKit Gf2
set_option linter.unusedVariables false

/-- the cells of a Vandermonde matrix. -/
def vdm : Nat → Nat → Nat := fun r c => fp 285 r c
/-- the cells of a Cauchy matrix of k columns. -/
def cau (k : Nat) : Nat → Nat → Nat := fun r c => ti ((k + r) ^^^ c)
theorem vdm_lt (r c : Nat) : vdm r c < 256 := fld8.fp_lt r c
theorem vdm_zero (r : Nat) : vdm r 0 = 1 := fld8.fp_zero r
theorem vdm_succ {r : Nat} (h : r < 256) (c : Nat) : fm 285 (vdm r c) r = vdm r (c + 1) := (fld8.fp_succ h c).symm
theorem u8_small {r : Nat} (h : r < 256) : IntKind.u8.wrap (r : Int) = (r : Int) := by
  rw [IntKind.wrap_u8]
  omega

set_option maxHeartbeats 2000000 in
set_option maxRecDepth 100000 in
theorem vander10_yes (m k : Nat) (w : World) (h1 : 1 ≤ m) (h2 : m ≤ 256) (h3 : 1 ≤ k) (h4 : k ≤ 512) :
    Calls Try.prog 10 #[.int .i64 (m : Int), .int .i64 (k : Int)] w fun e w' => ∃ v, e = .returned (.tuple #[v, .int .i64 0]) ∧ Ans w w' v m k vdm := by
  have c1 := fun x => within10_yes (m : Int) 256 x (by omega) (by omega)
  have c2 := fun x => within10_yes (k : Int) 512 x (by omega) (by omega)
  have c3 := new_tab w
  have c4 := fun x => zeros10_any m k x (by omega) (by omega)
  go_enter Try.func10, Try.ntmps10
  go_wp2_with (first | (go_at_call 30; first | ((with_reducible refine (c1 _).mono ?_); rintro e w9 ⟨rfl, hw9⟩; have hw9 := hw9.symm; subst hw9) | ((with_reducible refine (c2 _).mono ?_); rintro e w9 ⟨rfl, hw9⟩; have hw9 := hw9.symm; subst hw9)) | (go_at_call 31; (with_reducible refine c3.mono ?_); rintro e w9 ⟨rfl, w0, hw9, hs0, ht, hb0⟩; subst hw9) | (go_at_call 32; (with_reducible refine (c4 _).mono ?_); rintro e w1 ⟨rfl, hz⟩))
  clear c1 c2 c3 c4
  have hz : Zr w0 w1 m k m := hz
  have hC := hz.cs (by unfold big; omega) (by unfold big; omega)
  have hb1 := hz.bel
  clear hz
  generalize hB : (fun i => w0.heap.size + 1 + i) = B at hC
  clear hB
  rw [hs0] at hC hb1
  have HT : Hid (∀ x, Below (w.heap.size + 1) w0 x → Tab8 x w.heap.size) := fun x hx => ht.of_heap (hx.block _ (by omega))
  have HB : Hid (Below w.heap.size w w0 ∧ w.heap.size ≤ w.heap.size + 1) := ⟨hb0, by omega⟩
  clear hb0 ht
  go_loopw [26] (fun i wr => ∃ r : Nat, r ≤ m ∧ i = .int .i64 r ∧ Cs (w.heap.size + 1) w1.heap.size wr (.slice (some ⟨w.heap.size + 1, 0, none⟩) m m) m (fun _ => k) (fun _ => k) B (fil vdm (fun _ _ => 0) r 0) ∧ Below (w.heap.size + 1) w0 wr) (fun i _ => m - (intOf i).toNat)
  case atStart => exact ⟨0, Nat.zero_le _, rfl, hC.fil_start _, hb1⟩
  case round =>
    obtain ⟨r, hr, rfl, hC', hb'⟩ := hrel
    clear hC hb1
    by_cases hlt : r < m
    · have q1 := hC'.at_ hlt
      have ib : ((r : Nat) : Int) < (m : Int) := by omega
      have W1 := wrap_succ8 (j := r) (by unfold big; omega)
      go_wp2
      go_loopw [10, 33] (fun p j wr => ∃ c : Nat, c ≤ k ∧ p = .int .u8 (vdm r c : Nat) ∧ j = .int .i64 c ∧ Cs (w.heap.size + 1) w1.heap.size wr (.slice (some ⟨w.heap.size + 1, 0, none⟩) m m) m (fun _ => k) (fun _ => k) B (fil vdm (fun _ _ => 0) r c) ∧ Below (w.heap.size + 1) w0 wr) (fun _ j _ => k - (intOf j).toNat)
      case atStart => exact ⟨0, Nat.zero_le _, by rw [vdm_zero]; rfl, rfl, hC', hb'⟩
      case round =>
        obtain ⟨c, hc, rfl, rfl, hC2, hb2⟩ := hrel
        clear hC' hb' q1
        by_cases hct : c < k
        · have q2 := hC2.cell_ hlt (j := c) hct
          have q3 := hC2.froz hlt c
          have jb : ((c : Nat) : Int) < (k : Int) := by omega
          have W2 := wrap_succ8 (j := c) (by unfold big; omega)
          have hC3 := hC2.fil_set hlt (vdm_lt r c)
          have hb3 := hC2.bel hb2 hlt c (.int .u8 (vdm r c : Nat))
          have c5 : Calls Try.prog 33 #[.pointer (some ⟨w.heap.size, 0, none⟩), .int .u8 (vdm r c : Nat), .int .u8 (r : Int)] (wr.setCell ⟨B r, c, none⟩ (.int .u8 (vdm r c : Nat))) fun e w' => e = .returned (.int .u8 (vdm r (c + 1) : Nat)) ∧ ∃ q, w' = (wr.setCell ⟨B r, c, none⟩ (.int .u8 (vdm r c : Nat))).drewN q := by
            have := tmul_nat w.heap.size (vdm r c) r (wr.setCell ⟨B r, c, none⟩ (.int .u8 (vdm r c : Nat))) (HT.out _ hb3) (vdm_lt r c) (by omega)
            rw [vdm_succ (by omega)] at this
            exact this
          have U8 := u8_small (r := r) (by omega)
          have HC : Hid (Cs (w.heap.size + 1) w1.heap.size (wr.setCell ⟨B r, c, none⟩ (.int .u8 (vdm r c : Nat))) (.slice (some ⟨w.heap.size + 1, 0, none⟩) m m) m (fun _ => k) (fun _ => k) B (fil vdm (fun _ _ => 0) r (c + 1)) ∧ Below (w.heap.size + 1) w0 (wr.setCell ⟨B r, c, none⟩ (.int .u8 (vdm r c : Nat)))) := ⟨hC3, hb3⟩
          clear hC2 hb2 hC3 hb3
          go_wp2_with (go_at_call 33; (with_reducible refine c5.mono ?_); rintro e w9 ⟨rfl, q9, rfl⟩)
          go_roundw
          case rel => exact ⟨c + 1, hct, rfl, by first | rfl | (rw [W2]; rfl), HC.out.1.drewN _, below_drewN HC.out.2 _⟩
          case measure => first | exact meas_lt8 hct | (rw [W2]; exact meas_lt8 hct)
        · have hck : c = k := by omega
          subst hck
          have HC : Hid (Cs (w.heap.size + 1) w1.heap.size wr (.slice (some ⟨w.heap.size + 1, 0, none⟩) m m) m (fun _ => c) (fun _ => c) B (fil vdm (fun _ _ => 0) (r + 1) 0) ∧ Below (w.heap.size + 1) w0 wr) := ⟨hC2.fil_row, hb2⟩
          clear hC2 hb2
          go_wp2
          go_roundw
          case rel => exact ⟨r + 1, hlt, by first | rfl | (rw [W1]; rfl), HC.out.1, HC.out.2⟩
          case measure => first | exact meas_lt8 hlt | (rw [W1]; exact meas_lt8 hlt)
    · have hrm : r = m := by omega
      subst hrm
      go_wp2
      go_ret2
      exact ⟨_, rfl, hC'.fil_end.ans HB.out.2 (HB.out.1.trans (hb'.mono (Nat.le_trans HB.out.2 (Nat.le_refl _))))⟩
end Go.Proofs.Ytljfpgebekpjgaa
namespace Go.Proofs.Ytljfpgebekpjgaa
open Go.RowKit Gf2
set_option linter.unusedVariables false

theorem wrap_256 {m k : Nat} (h2 : 1 ≤ k) (h3 : m + k ≤ 256) : wrap64 (256 - (k : Int)) = 256 - (k : Int) := by unfold wrap64; omega
theorem wrap_lt {j b : Nat} (h : j < b) (hb : b ≤ 1000) : wrap64 ((j : Int) + 1) = (j : Int) + 1 := wrap_succ8 (by unfold big; omega)
theorem add_small {a b : Nat} (h : a ≤ 256) (k : b ≤ 256) : wrap64 ((a : Int) + (b : Int)) = ((a + b : Nat) : Int) := by
  unfold wrap64
  omega

theorem cau_facts {m k r c : Nat} (h3 : m + k ≤ 256) (hr : r < m) (hc : c < k) : ∃ x : Nat, x = (k + r) ^^^ c ∧ x < 256 ∧ bits .xor .u8 ((k : Int) + (r : Int)) (c : Int) = (x : Int) ∧ wrap64 ((k : Int) + (r : Int)) = (k : Int) + (r : Int) ∧ IntKind.u8.wrap ((k : Int) + (r : Int)) = (k : Int) + (r : Int) ∧ IntKind.u8.wrap (c : Int) = (c : Int) := by
  have h1 : k + r < 256 := by omega
  have h2 : c < 256 := by omega
  have X := u8_xor_nat (k + r) c h1 h2
  have U1 := u8_small h1
  have U2 := u8_small h2
  have W3 := add_small (a := k) (b := r) (by omega) (by omega)
  rw [Int.natCast_add] at X U1 W3
  exact ⟨(k + r) ^^^ c, rfl, Nat.xor_lt_two_pow (n := 8) h1 h2, X, W3, U1, U2⟩
set_option maxHeartbeats 2000000 in
set_option maxRecDepth 100000 in
theorem cauchy10_yes (m k : Nat) (w : World) (h1 : 1 ≤ m) (h2 : 1 ≤ k) (h3 : m + k ≤ 256) :
    Calls Try.prog 55 #[.int .i64 (m : Int), .int .i64 (k : Int)] w fun e w' => ∃ v, e = .returned (.tuple #[v, .int .i64 0]) ∧ Ans w w' v m k (cau k) := by
  have W := wrap_256 h2 h3
  have c1 := fun x => within10_yes (m : Int) (256 - (k : Int)) x (by omega) (by omega)
  have c3 := new_tab w
  have c4 := fun x => zeros10_any m k x (by omega) (by omega)
  have hk1 : ¬ (k : Int) < 1 := by omega
  have hm1 : m ≤ 1000 := by omega
  have hkk : k ≤ 1000 := by omega
  go_enter Try.func55, Try.ntmps55
  go_wp2_with (first | (go_at_call 30; ((with_reducible refine (c1 _).mono ?_); rintro e w9 ⟨rfl, hw9⟩; have hw9 := hw9.symm; subst hw9)) | (go_at_call 31; (with_reducible refine c3.mono ?_); rintro e w9 ⟨rfl, w0, hw9, hs0, ht, hb0⟩; subst hw9) | (go_at_call 32; (with_reducible refine (c4 _).mono ?_); rintro e w1 ⟨rfl, hz⟩))
  clear c1 c3 c4 W hk1
  have hz : Zr w0 w1 m k m := hz
  have hC := hz.cs (by unfold big; omega) (by unfold big; omega)
  have hb1 := hz.bel
  clear hz
  generalize hB : (fun i => w0.heap.size + 1 + i) = B at hC
  clear hB
  rw [hs0] at hC hb1
  have HT : Hid (∀ x, Below (w.heap.size + 1) w0 x → Tab8 x w.heap.size) := fun x hx => ht.of_heap (hx.block _ (by omega))
  have HB : Hid (Below w.heap.size w w0 ∧ w.heap.size ≤ w.heap.size + 1) := ⟨hb0, by omega⟩
  clear hb0 ht
  go_loopw [26] (fun i wr => ∃ r : Nat, r ≤ m ∧ i = .int .i64 r ∧ Cs (w.heap.size + 1) w1.heap.size wr (.slice (some ⟨w.heap.size + 1, 0, none⟩) m m) m (fun _ => k) (fun _ => k) B (fil (cau k) (fun _ _ => 0) r 0) ∧ Below (w.heap.size + 1) w0 wr) (fun i _ => m - (intOf i).toNat)
  case atStart => exact ⟨0, Nat.zero_le _, rfl, hC.fil_start _, hb1⟩
  case round =>
    obtain ⟨r, hr, rfl, hC', hb'⟩ := hrel
    clear hC hb1
    by_cases hlt : r < m
    · have q1 := hC'.at_ hlt
      have ib : ((r : Nat) : Int) < (m : Int) := Int.ofNat_lt.2 hlt
      have W1 := wrap_lt hlt hm1
      go_wp2
      go_loopw [33] (fun j wr => ∃ c : Nat, c ≤ k ∧ j = .int .i64 c ∧ Cs (w.heap.size + 1) w1.heap.size wr (.slice (some ⟨w.heap.size + 1, 0, none⟩) m m) m (fun _ => k) (fun _ => k) B (fil (cau k) (fun _ _ => 0) r c) ∧ Below (w.heap.size + 1) w0 wr) (fun j _ => k - (intOf j).toNat)
      case atStart => exact ⟨0, Nat.zero_le _, rfl, hC', hb'⟩
      case round =>
        obtain ⟨c, hc, rfl, hC2, hb2⟩ := hrel
        clear hC' hb' q1
        by_cases hct : c < k
        · obtain ⟨x4, ex4, lx, X, W3, U1, U2⟩ := cau_facts h3 hlt hct
          obtain ⟨y2, q2⟩ : ∃ y : Nat, wr.cell? ⟨B r, c, none⟩ = some (.int .u8 (y : Nat)) := ⟨_, hC2.cell_ hlt (j := c) hct⟩
          have q3 := hC2.froz hlt c
          have jb : ((c : Nat) : Int) < (k : Int) := Int.ofNat_lt.2 hct
          have W2 := wrap_lt hct hkk
          have ecau : cau k r c = ti x4 := by unfold cau; rw [ex4]
          have c5 : Calls Try.prog 37 #[.pointer (some ⟨w.heap.size, 0, none⟩), .int .u8 (x4 : Nat)] wr fun e w' => e = .returned (.tuple #[.int .u8 (cau k r c : Nat), .int .i64 (te x4 : Nat)]) ∧ ∃ q, w' = wr.drewN q := by rw [ecau]; exact tinv_all w.heap.size x4 wr (HT.out _ hb2) lx
          have hlx : cau k r c < 256 := by rw [ecau]; exact ti_lt lx
          have hC3 := hC2.fil_set hlt hlx
          have hb3 := hC2.bel hb2 hlt c (.int .u8 (cau k r c : Nat))
          have HC : Hid (Cs (w.heap.size + 1) w1.heap.size (wr.setCell ⟨B r, c, none⟩ (.int .u8 (cau k r c : Nat))) (.slice (some ⟨w.heap.size + 1, 0, none⟩) m m) m (fun _ => k) (fun _ => k) B (fil (cau k) (fun _ _ => 0) r (c + 1)) ∧ Below (w.heap.size + 1) w0 (wr.setCell ⟨B r, c, none⟩ (.int .u8 (cau k r c : Nat)))) := ⟨hC3, hb3⟩
          clear hC3 hb3 hlx
          have HX : Hid (c < k) := hct
          clear hC2 hb2 ecau ex4 lx hct hc hr hlt h1 h2 h3 hm1 hkk hs0 HT HB
          generalize cau k r c = x5 at c5 HC
          generalize te x4 = x6 at c5
          go_wp2_with (go_at_call 37; (with_reducible refine c5.mono ?_); rintro e w9 ⟨rfl, q9, hw9⟩; subst hw9)
          go_roundw
          case rel => exact ⟨c + 1, HX.out, by first | rfl | (rw [W2]; rfl), HC.out.1.drewN _, below_drewN HC.out.2 _⟩
          case measure => first | exact meas_lt8 HX.out | (rw [W2]; exact meas_lt8 HX.out)
        · have hck : c = k := Nat.le_antisymm hc (Nat.le_of_not_lt hct)
          subst hck
          have HC : Hid (Cs (w.heap.size + 1) w1.heap.size wr (.slice (some ⟨w.heap.size + 1, 0, none⟩) m m) m (fun _ => c) (fun _ => c) B (fil (cau c) (fun _ _ => 0) (r + 1) 0) ∧ Below (w.heap.size + 1) w0 wr) := ⟨hC2.fil_row, hb2⟩
          clear hC2 hb2
          go_wp2
          go_roundw
          case rel => exact ⟨r + 1, hlt, by first | rfl | (rw [W1]; rfl), HC.out.1, HC.out.2⟩
          case measure => first | exact meas_lt8 hlt | (rw [W1]; exact meas_lt8 hlt)
    · have hrm : r = m := Nat.le_antisymm hr (Nat.le_of_not_lt hlt)
      subst hrm
      go_wp2
      go_ret2
      exact ⟨_, rfl, hC'.fil_end.ans HB.out.2 (HB.out.1.trans (hb'.mono (Nat.le_trans HB.out.2 (Nat.le_refl _))))⟩
end Go.Proofs.Ytljfpgebekpjgaa
