import Derived.Test.YtfhgamaakkoplaaMvbk
import Derived.Test.YtfhgamaakkoplaaMvbj
import Derived.Test.YtfhgamaakkoplaaMvat
import Derived.Test.YtfhgamaakkoplaaMvbl
import Derived.Test.YtfhgamaakkoplaaMvbd
namespace Go.Proofs.Ytfhgamaakkoplaa
open Go.RowKit Gf2
set_option linter.unusedVariables false

-- culletref10.reduced
/-- behind r rows. -/
structure Rs10 (n : Nat) (S : Nat → Nat → Nat) (w wr : World) (rv pv : Value) (r k : Nat) (B : Nat → Nat) (R : Nat → Nat → Nat) (p : Nat → Nat) : Prop where
  rin : Rin n S r k R p
  rows : Gl8 w.heap.size wr rv k (fun _ => n) (fun _ => n) B R
  piv : Gj w.heap.size wr pv k (fun i => (p i : Int))
  bel : Below w.heap.size w wr
theorem Rs10.form {n r k : Nat} {S : Nat → Nat → Nat} {w wr : World} {rv pv : Value} {B p : Nat → Nat} {R : Nat → Nat → Nat} (h : Rs10 n S w wr rv pv r k B R p) : ∃ ra rc pa pc, rv = .slice ra k rc ∧ pv = .slice pa k pc := by
  obtain ⟨a, c, e, -⟩ := h.rows.list.form
  obtain ⟨a2, c2, e2⟩ := h.piv.form
  exact ⟨a, c, a2, c2, e, e2⟩
/-- the row behind the loop that makes it 1 at its pivot, up to place i. -/
def nrx (V : Nat → Nat) (q i c : Nat) : Nat := if q ≤ c ∧ c < i then fm 285 (V c) (ti (V q)) else V c
theorem nrx_end {R : Nat → Nat → Nat} {p a : Nat → Nat} {k q n : Nat} (hz : ∀ c, c < q → cle R p a k c = 0) (hq0 : cle R p a k q ≠ 0) : ∀ c, c < n → nrx (cle R p a k) q n c = nrmr R p a k q c := fun c hc => by
  have e : ti (cle R p a k q) = fi 285 (cle R p a k q) := by unfold ti; rw [if_neg hq0]
  unfold nrx nrmr
  by_cases h : q ≤ c
  · rw [if_pos ⟨h, hc⟩, e]
  · rw [if_neg (fun x => h x.1), hz c (by omega), fld8.zero_fm]
/-- a region that draws its order and only reads. -/
theorem region_still10 {P : Program} {id : Nat} {Q : Exit → Act → World → Prop} {a : Act} {w : World} {l : List Oper} (hm : P.follows .mixedOrders = true) (hB : Region.lexB .any l.toArray = true)
    (h : wpStill P l.toArray w.drew (fun a' => Q .normal a' w.drew) l a) : (Code.region id l.toArray true).wp P Q a w := wp_region_still_lit hm hB h
/-- a row is made and a list is copied in. -/
theorem seed10 {W : World} {k l cx : Nat} {xa : Option Addr} {F : Nat → Nat} (hk : k ≤ 100000) (h : Rb W (.slice xa l cx) l F) : ∃ w5 z, (Builtin.copy_ #[25, 25] 3 #[.slice (some ⟨W.heap.size, 0, none⟩) k k, .slice xa l cx]).run Try.prog (W.alloc (.cells (madeCells #[.int .u8 0] k) 5)) = .ok (goInt z) w5 ∧ Rw w5 W.heap.size k (fun i => if i < l then F i else 0) ∧ Below W.heap.size W w5 := by
  have r0 := made_rw k (by omega) W
  have b0 : Below W.heap.size W (W.alloc (.cells (madeCells #[.int .u8 0] k) 5)) := (Below.refl _ _).alloc (Nat.le_refl _) _
  obtain ⟨-, hF, a, cap, e, -, -, h4⟩ := h.below b0
  cases e
  obtain ⟨w5, h1, h2, h3⟩ := copy8_min (W.alloc (.cells (madeCells #[.int .u8 0] k) 5)) (g := W.heap.size) (o := 0) (dl := k) (cap := k) r0 (a := xa) (m := l) (n := Nat.min l k) (cap' := cx) (S := F) (fun i hi => hF i (Nat.lt_of_lt_of_le hi (Nat.min_le_left _ _))) (fun h0 => by
    obtain ⟨b, o, e, -, hc⟩ := h4 (Nat.lt_of_lt_of_le h0 (Nat.min_le_left _ _))
    exact ⟨b, o, e, fun i hi => hc i (Nat.lt_of_lt_of_le hi (Nat.min_le_left _ _))⟩) (by omega) (Nat.min_le_right _ _) (Nat.min_le_left _ _) rfl
  refine ⟨w5, _, h1, h2.congr (fun i hi => ?_), b0.trans ((h3.below (B := W.heap.size) (Nat.le_refl _)))⟩
  unfold pl
  by_cases e : i < l
  · rw [if_pos e, if_pos (by have : i < Nat.min l k := Nat.lt_min.2 ⟨e, hi⟩; omega)]
    rfl
  · rw [if_neg e, if_neg (fun h9 => by have h8 : i < Nat.min l k := by omega
                                       exact e (Nat.lt_of_lt_of_le h8 (Nat.min_le_left _ _)))]
theorem nrx_at {V : Nat → Nat} {q i : Nat} : nrx V q i i = V i := by unfold nrx; rw [if_neg (by omega)]
theorem nrx_step {V : Nat → Nat} {q i : Nat} (hq : q ≤ i) : ∀ c, (if c = i then fm 285 (V i) (ti (V q)) else nrx V q i c) = nrx V q (i + 1) c := fun c => by
  unfold nrx
  by_cases e : c = i
  · subst e; rw [if_pos rfl, if_pos ⟨hq, by omega⟩]
  · rw [if_neg e]
    by_cases e2 : q ≤ c ∧ c < i
    · rw [if_pos e2, if_pos ⟨e2.1, by omega⟩]
    · rw [if_neg e2, if_neg (fun x => e2 ⟨x.1, by omega⟩)]
theorem Rs10.skip {n r k : Nat} {S : Nat → Nat → Nat} {w wr w2 : World} {rv pv : Value} {B p : Nat → Nat} {R : Nat → Nat → Nat} (h : Rs10 n S w wr rv pv r k B R p) (hb : Below wr.heap.size wr w2) (hz : ∀ c, c < n → cle R p (S r) k c = 0) : Rs10 n S w w2 rv pv (r + 1) k B R p :=
  ⟨h.rin.skip hz, h.rows.below hb, h.piv.below hb, h.bel.trans (hb.mono h.bel.size)⟩
theorem Rs10.put {n r k q i gl cl gp cp : Nat} {S : Nat → Nat → Nat} {w wr w2 : World} {rv pv : Value} {B p : Nat → Nat} {R : Nat → Nat → Nat} (h : Rs10 n S w wr rv pv r k B R p) (hS : ∀ x c, S x c < 256) (hq : q < n) (hz : ∀ c, c < q → cle R p (S r) k c = 0) (hq0 : cle R p (S r) k q ≠ 0) (hi : i ≤ k) (h1 : i = 0 ∨ ¬ q < p (i - 1))
    (hb : Bub w.heap.size n k i q w2 gl cl gp cp p (insr R p (S r) k q)) (h2 : Below w.heap.size w w2) : ∃ B', Rs10 n S w w2 (.slice (some ⟨gl, 0, none⟩) (k + 1) cl) (.slice (some ⟨gp, 0, none⟩) (k + 1) cp) (r + 1) (k + 1) B' (fun j => insr R p (S r) k q (sg k i j)) (fun j => inspr p k q (sg k i j)) := by
  obtain ⟨B', hB⟩ := hb.rows
  refine ⟨B', h.rin.put hS hq hz hq0 hi ?_ hb.up, hB, hb.piv, h2⟩
  rcases h1 with h1 | h1
  · exact .inl h1
  · by_cases e : i = 0
    · exact .inl e
    · have := h.rin.ne hS hq0 (i - 1) (by omega)
      exact .inr (by omega)
set_option maxHeartbeats 16000000 in
set_option maxRecDepth 100000 in
theorem reduced10 (m n : Nat) (S : Nat → Nat → Nat) (aS : Option Addr) (cS : Nat) (w : World) (h : Lb w (.slice aS m cS) m (fun _ => n) S) (hm : m ≤ 256) (hn : n ≤ 600) (hS : ∀ x c, S x c < 256) :
    Calls Try.prog 60 #[.slice aS m cS] w fun e w' => ∃ rv pv, e = .returned (.tuple #[rv, pv]) ∧ ∃ k B R p, Rs10 n S w w' rv pv m k B R p := by
  have HH : Hid (Lb w (.slice aS m cS) m (fun _ => n) S ∧ m ≤ 256 ∧ n ≤ 600 ∧ ∀ x c, S x c < 256) := ⟨h, hm, hn, hS⟩
  have hmk := make_u8 n (by omega)
  clear h hm hn hS
  go_enter Try.func60, Try.ntmps60
  go_wp2
  go_loopw [4, 5, 6] (fun rv pv s wr => ∃ r k B R p, r ≤ m ∧ s = .int .i64 ((r : Nat) : Int) ∧ Rs10 n S w wr rv pv r k B R p) (fun _ _ s _ => m - (intOf s).toNat)
  case atStart => exact ⟨0, 0, fun _ => 0, fun _ _ => 0, fun _ => 0, Nat.zero_le _, rfl, ⟨Rin.start _ _ _ _, Gl8.start _ _ _ _ _ _, Gj.start _ _ _, Below.refl _ _⟩⟩
  case round =>
    rename World => w1
    obtain ⟨r, k, B, R, p, hr, rfl, hX⟩ := hrel
    obtain ⟨ra, rc, pa, pc, rfl, rfl⟩ := hX.form
    by_cases hlt : r < m
    · have ib : ((r : Nat) : Int) < (m : Int) := Int.ofNat_lt.2 hlt
      have HW1 : Hid (wrap64 (((r : Nat) : Int) + 1) = ((r : Nat) : Int) + 1) := wrap_lt8 (j := r) (b := m) hlt (by have := HH.out; omega)
      obtain ⟨xa, xc, x1, x2⟩ := lb_open19 (HH.out.1.below hX.bel)
      obtain ⟨b, o, ea, q1⟩ := x1 r hlt
      subst ea
      obtain ⟨w5, zc, hrun, r5, b5⟩ := seed10 (k := n) (by have := HH.out; omega) (x2 r hlt)
      have q1a := (((Below.refl w1.heap.size w1).alloc (Nat.le_refl _) (.cells (madeCells #[.int .u8 0] n) 5)).cell (cell_lt5 q1)).trans q1
      obtain ⟨g, hg⟩ : ∃ g, Hid (w1.heap.size = g) := ⟨_, rfl⟩
      have HX : Hid (Rs10 n S w w1 (.slice ra k rc) (.slice pa k pc) r k B R p ∧ r < m ∧ Below w1.heap.size w1 w5 ∧ Rw w5 g n (S r) ∧ k ≤ 256) := ⟨hX, hlt, b5, by
        rw [← hg.out]
        exact r5.congr (fun c hc => if_pos hc), by have := hX.rin.le; have := HH.out; omega⟩
      clear hX hlt hr x1 x2 r5 b5
      go_wp2
      rw [hg.out]
      clear hrun q1 q1a ib hmk
      go_loopw [8] (fun s w6 => ∃ i : Nat, i ≤ k ∧ s = .int .i64 ((i : Nat) : Int) ∧ Below w1.heap.size w1 w6 ∧ Rw w6 g n (cle R p (S r) i)) (fun s _ => k - (intOf s).toNat)
      case atStart => exact ⟨0, Nat.zero_le _, rfl, HX.out.2.2.1, HX.out.2.2.2.1⟩
      case round =>
        rename World => w6
        obtain ⟨i, hi, rfl, hb6, h6⟩ := hrel
        by_cases hik : i < k
        · have ik : ((i : Nat) : Int) < (k : Int) := Int.ofNat_lt.2 hik
          obtain ⟨gl, c, gp, cp, e1, e2, c1, c2, c3, hp, c5⟩ := red_l1 HX.out.1.rows HX.out.1.piv HX.out.1.rin.rdu (fun c => HH.out.2.2.2 r c) hik hb6 h6 (by have := hg.out; omega)
          cases e1
          cases e2
          have W2 := wrap_lt8 (j := i) (b := k) hik (by have := HX.out.2.2.2.2; omega)
          have HC : Hid (i < k ∧ Below w1.heap.size w1 w6) := ⟨hik, hb6⟩
          have ip : ((p i : Nat) : Int) < (n : Int) := Int.ofNat_lt.2 hp
          generalize cle R p (S r) i (p i) = V at c3 c5
          generalize p i = pi at c2 c3 ip
          clear hb6 h6 hik hi hp
          go_upto_region 11 with (fail)
          refine region_tail8 12 (by kernel_rfl) (by kernel_rfl) ?_
          simp only [List.take_succ_cons, List.take_zero, List.drop_succ_cons, List.drop_zero]
          repeat still_step
          refine wpStill_nil ?_
          go_wp2_with (go_at_call 69; (with_reducible refine c5.mono ?_); rintro e w9 ⟨rfl, k9, r9⟩; clear c5)
          have HR : Hid (Below w1.heap.size w1 w9 ∧ Rw w9 g n (cle R p (S r) (i + 1))) := ⟨HC.out.2.trans (k9.below (by have := hg.out; omega) HC.out.2.size), r9⟩
          clear k9 r9
          go_roundw
          case rel => exact ⟨i + 1, HC.out.1, by first | rfl | (rw [W2]; rfl), HR.out.1, HR.out.2⟩
          case measure => first | exact meas_lt8 HC.out.1 | (rw [W2]; exact meas_lt8 HC.out.1)
        · have ik : ¬ ((i : Nat) : Int) < (k : Int) := by omega
          have hik2 : i = k := by omega
          subst hik2
          obtain ⟨V, hV⟩ : ∃ V, Hid (cle R p (S r) i = V) := ⟨_, rfl⟩
          rw [hV.out] at h6
          have H6 : Hid (Below w1.heap.size w1 w6 ∧ Rw w6 g n V) := ⟨hb6, h6⟩
          clear hb6 hik hi h6
          go_wp2
          go_loopw [9] (fun s w7 => ∃ q : Nat, q ≤ n ∧ s = .int .i64 ((q : Nat) : Int) ∧ Hid (∀ c, c < q → V c = 0) ∧ w7 = w6) (fun s _ => n - (intOf s).toNat)
          case atStart => exact ⟨0, Nat.zero_le _, rfl, fun c hc => absurd hc (Nat.not_lt_zero _), rfl⟩
          case round =>
            obtain ⟨q, hq, rfl, hz, hw⟩ := hrel
            have hw := hw.symm
            subst hw
            by_cases hqn : q < n
            · have iq : ((q : Nat) : Int) < (n : Int) := Int.ofNat_lt.2 hqn
              have q1 := H6.out.2.2.2.cell hqn
              by_cases h0 : V q = 0
              · rw [h0] at q1
                have W2 := wrap_lt8 (j := q) (b := n) hqn (by have := HH.out; omega)
                have HC : Hid (q < n ∧ ∀ c, c < q + 1 → V c = 0) := ⟨hqn, fun c hc => by
                  by_cases e : c = q
                  · rw [e]; exact h0
                  · exact hz.out c (by omega)⟩
                clear hz hqn hq h0
                go_wp2
                go_roundw
                case rel => exact ⟨q + 1, HC.out.1, by first | rfl | (rw [W2]; rfl), HC.out.2, trivial⟩
                case measure => first | exact meas_lt8 HC.out.1 | (rw [W2]; exact meas_lt8 HC.out.1)
              · have T0 : (((V q : Nat) : Int) == 0) = false := by simp; omega
                have lV : V q < 256 := H6.out.2.2.1 q hqn
                obtain ⟨d, hd⟩ : ∃ d, Hid (ti (V q) = d) := ⟨_, rfl⟩
                have c6 := refInv_nat (V q) w6 lV
                rw [hd.out] at c6
                have ld : d < 256 := by rw [← hd.out]; exact ti_lt lV
                have HQ : Hid (q < n ∧ V q ≠ 0 ∧ (∀ c, c < q → V c = 0)) := ⟨hqn, h0, hz.out⟩
                have HQZ : Hid ((∀ c, c < q → cle R p (S r) i c = 0) ∧ cle R p (S r) i q ≠ 0) := ⟨fun c hc => by rw [hV.out]; exact hz.out c hc, by rw [hV.out]; exact h0⟩
                have r6 : Hid (Rw w6 g n (nrx V q q)) := H6.out.2.congr (fun c _ => by unfold nrx; rw [if_neg (by omega)])
                generalize te (V q) = ee at c6
                clear hz hqn hq h0
                go_wp2_with (go_at_call 58; (with_reducible refine c6.mono ?_); rintro e w9 ⟨rfl, hw9⟩; have hw9 := hw9.symm; subst hw9; clear c6)
                clear q1 T0 iq
                go_loopw [12] (fun s w7 => ∃ i : Nat, q ≤ i ∧ i ≤ n ∧ s = .int .i64 ((i : Nat) : Int) ∧ Below w1.heap.size w1 w7 ∧ Rw w7 g n (nrx V q i)) (fun s _ => n - (intOf s).toNat)
                case atStart => exact ⟨q, Nat.le_refl _, Nat.le_of_lt HQ.out.1, rfl, H6.out.1, r6.out⟩
                case round =>
                  rename World => w7
                  obtain ⟨j, hqj, hj, rfl, hb7, h7⟩ := hrel
                  clear r6
                  by_cases hjn : j < n
                  · have q1 : w7.cell? ⟨g, j, none⟩ = some (.int .u8 ((V j : Nat) : Int)) := (h7.2.2.cell hjn).trans (by rw [nrx_at])
                    have q3 := h7.2.2.frozen j
                    have c7 := refMul_nat (V j) d w7 (H6.out.2.2.1 j hjn) ld
                    have HC : Hid (j < n ∧ q ≤ j ∧ Below w1.heap.size w1 (w7.setCell ⟨g, j, none⟩ (.int .u8 ((fm 285 (V j) d : Nat) : Int))) ∧ Rw (w7.setCell ⟨g, j, none⟩ (.int .u8 ((fm 285 (V j) d : Nat) : Int))) g n (nrx V q (j + 1))) := ⟨hjn, hqj, hb7.setCell (show w1.heap.size ≤ g by have := hg.out; omega) _, (h7.set j _ (fm8_lt _ _)).congr (fun c _ => by rw [← hd.out]; exact nrx_step hqj c)⟩
                    have ij : ((j : Nat) : Int) < (n : Int) := Int.ofNat_lt.2 hjn
                    have W2 := wrap_lt8 (j := j) (b := n) hjn (by have := HH.out; omega)
                    generalize fm 285 (V j) d = M at c7 HC
                    generalize V j = A0 at q1 c7
                    clear h7 hb7 hjn hj hqj
                    go_wp2_with (go_at_call 39; (with_reducible refine c7.mono ?_); rintro e w9 ⟨rfl, hw9⟩; have hw9 := hw9.symm; subst hw9; clear c7)
                    go_roundw
                    case rel => exact ⟨j + 1, by have := HC.out; omega, HC.out.1, by first | rfl | (rw [W2]; rfl), HC.out.2.2.1, HC.out.2.2.2⟩
                    case measure => first | exact meas_lt8 HC.out.1 | (rw [W2]; exact meas_lt8 HC.out.1)
                  · have ij : ¬ ((j : Nat) : Int) < (n : Int) := by omega
                    have hjn2 : j = n := by omega
                    rw [hjn2] at h7
                    have HN : Hid (∀ x, x < i → B x ≠ g) := fun x hx e => by have := (HX.out.1.rows.rows x hx).2.2.lt; have := hg.out; omega
                    have H8 : Hid (Gl8 w.heap.size w7 (.slice ra i rc) i (fun _ => n) (fun _ => n) B (fun j => if j < 0 then insr R p (S r) i q j else R j) ∧ Gj w.heap.size w7 (.slice pa i pc) i (fun i => (p i : Int)) ∧ Rw w7 g n (nrmr R p (S r) i q) ∧ Below w.heap.size w w7) :=
                      ⟨(HX.out.1.rows.below hb7).cong (fun r _ => ⟨rfl, rfl, rfl, fun x _ => by rw [if_neg (Nat.not_lt_zero _)]⟩), HX.out.1.piv.below hb7, h7.congr (fun c hc => by
                        have h9 := nrx_end (n := n) HQZ.out.1 HQZ.out.2 c hc
                        rw [hV.out] at h9
                        exact h9), HX.out.1.bel.trans (hb7.mono HX.out.1.bel.size)⟩
                    clear h7 hb7 hjn hj hqj ld lV hjn2
                    go_wp2
                    go_loopw [13] (fun s w8 => ∃ y : Nat, y ≤ i ∧ s = .int .i64 ((y : Nat) : Int) ∧ Gl8 w.heap.size w8 (.slice ra i rc) i (fun _ => n) (fun _ => n) B (fun j => if j < y then insr R p (S r) i q j else R j) ∧ Gj w.heap.size w8 (.slice pa i pc) i (fun i => (p i : Int)) ∧ Rw w8 g n (nrmr R p (S r) i q) ∧ Below w.heap.size w w8) (fun s _ => i - (intOf s).toNat)
                    case atStart => exact ⟨0, Nat.zero_le _, rfl, H8.out⟩
                    case round =>
                      rename World => w8
                      obtain ⟨y, hy, rfl, hG, hP, hV8, hb8⟩ := hrel
                      clear H8 ij
                      by_cases hyi : y < i
                      · have iy : ((y : Nat) : Int) < (i : Int) := Int.ofNat_lt.2 hyi
                        have iq : ((q : Nat) : Int) < (n : Int) := Int.ofNat_lt.2 HQ.out.1
                        obtain ⟨gl, c, e1, c1, c2, c5⟩ := red_l4 hG hP HX.out.1.rin.rdu HQ.out.1 hyi hV8 HN.out
                        cases e1
                        have W2 := wrap_lt8 (j := y) (b := i) hyi (by have := HX.out.2.2.2.2; omega)
                        have HC : Hid (y < i ∧ Below w.heap.size w w8 ∧ w.heap.size ≤ B y) := ⟨hyi, hb8, (hG.rows y hyi).1⟩
                        generalize R y q = Z at c2 c5
                        clear hG hP hV8 hb8 hyi hy
                        go_upto_region 24 with (fail)
                        refine region_tail8 12 (by kernel_rfl) (by kernel_rfl) ?_
                        simp only [List.take_succ_cons, List.take_zero, List.drop_succ_cons, List.drop_zero]
                        repeat still_step
                        refine wpStill_nil ?_
                        go_wp2_with (go_at_call 69; (with_reducible refine c5.mono ?_); rintro e w9 ⟨rfl, k9, g9, j9, r9⟩; clear c5)
                        have HR : Hid (Gl8 w.heap.size w9 (.slice (some ⟨gl, 0, none⟩) i rc) i (fun _ => n) (fun _ => n) B (fun j => if j < y + 1 then insr R p (S r) i q j else R j) ∧ Gj w.heap.size w9 (.slice pa i pc) i (fun i => (p i : Int)) ∧ Rw w9 g n (nrmr R p (S r) i q) ∧ Below w.heap.size w w9) := ⟨g9, j9, r9, HC.out.2.1.trans (k9.below HC.out.2.2 HC.out.2.1.size)⟩
                        clear k9 r9 g9 j9
                        go_roundw
                        case rel => exact ⟨y + 1, HC.out.1, by first | rfl | (rw [W2]; rfl), HR.out⟩
                        case measure => first | exact meas_lt8 HC.out.1 | (rw [W2]; exact meas_lt8 HC.out.1)
                      · have iy : ¬ ((y : Nat) : Int) < (i : Int) := by omega
                        have hyi2 : y = i := by omega
                        rw [hyi2] at hG
                        obtain ⟨v', wa, u1, wb, u', u2, B', hG2, hJ2, hb2⟩ := red_ap hG hP hV8 HN.out hb8.size (by have := hg.out; have := HX.out.1.bel.size; omega) (by have := HX.out.2.2.2.2; omega)
                        obtain ⟨gl, cl, e, -⟩ := hG2.head (Nat.succ_pos _)
                        subst e
                        obtain ⟨gp, cp, e, -⟩ := hJ2.head (Nat.succ_pos _)
                        subst e
                        have H9 : Hid (Bub w.heap.size n i i q wb gl cl gp cp p (insr R p (S r) i q) ∧ Below w.heap.size w wb) := ⟨⟨⟨B', hG2⟩, hJ2, fun j h1 h2 => absurd h2 (by omega)⟩, hb8.trans hb2⟩
                        obtain ⟨K, hK⟩ : ∃ K, Hid (i + 1 = K) := ⟨_, rfl⟩
                        rw [hK.out] at u1 u2
                        have WK : wrap64 (((K : Nat) : Int) - 1) = ((i : Nat) : Int) := by have := hK.out; have := HX.out.2.2.2.2; unfold wrap64; omega
                        clear hG2 hJ2 hb2 hG hP hV8 hb8 hyi hy hyi2
                        go_wp2_with (first | (at_builtin; refine Lib.wpList_append_run _ rfl _ _ _ _ rfl _ _ rfl rfl _ _ u1 ?_; clear u1) | (at_builtin; refine Lib.wpList_append_run _ rfl _ _ _ _ rfl _ _ rfl rfl _ _ u2 ?_; clear u2))
                        go_loopw [14] (fun s w9 => ∃ y : Nat, y ≤ i ∧ s = .int .i64 ((y : Nat) : Int) ∧ Bub w.heap.size n i y q w9 gl cl gp cp p (insr R p (S r) i q) ∧ Below w.heap.size w w9) (fun s _ => (intOf s).toNat)
                        case atStart => exact ⟨i, Nat.le_refl _, by first | rfl | (rw [WK]), H9.out⟩
                        case round =>
                          rename World => w9
                          obtain ⟨y, hy, rfl, hU, hb9⟩ := hrel
                          clear H9 iy
                          have PUT : Hid (∀ z, z ≤ i → (z = 0 ∨ ¬ q < p (z - 1)) → ∀ w2, Bub w.heap.size n i z q w2 gl cl gp cp p (insr R p (S r) i q) → Below w.heap.size w w2 → ∃ k' B' R' p', Rs10 n S w w2 (.slice (some ⟨gl, 0, none⟩) K cl) (.slice (some ⟨gp, 0, none⟩) K cp) (r + 1) k' B' R' p') := fun z h1 h2 w2 h3 h4 => by
                            obtain ⟨B', h⟩ := HX.out.1.put HH.out.2.2.2 HQ.out.1 HQZ.out.1 HQZ.out.2 h1 h2 h3 h4
                            rw [hK.out] at h
                            exact ⟨_, _, _, _, h⟩
                          have HM : Hid (r < m) := HX.out.2.1
                          have W9 := HW1.out
                          by_cases hy0 : y = 0
                          · have i0 : ¬ (0 : Int) < ((y : Nat) : Int) := by omega
                            have i0N : ¬ 0 < y := by omega
                            have i0Z : y = 0 := hy0
                            have HE : Hid (∃ k' B' R' p', Rs10 n S w w9 (.slice (some ⟨gl, 0, none⟩) K cl) (.slice (some ⟨gp, 0, none⟩) K cp) (r + 1) k' B' R' p') := PUT.out y hy (.inl hy0) w9 hU hb9
                            have HE2 : Hid (∃ k' B' R' p', Rs10 n S w w9.drew (.slice (some ⟨gl, 0, none⟩) K cl) (.slice (some ⟨gp, 0, none⟩) K cp) (r + 1) k' B' R' p') := PUT.out y hy (.inl hy0) w9.drew (hU.below below_drew0) (hb9.trans below_drew0)
                            clear HE
                            have HE := HE2
                            clear HE2 hU hb9 hy hy0 PUT HX
                            go_upto_region 28 with (fail)
                            refine region_still10 (by kernel_rfl) (by kernel_rfl) ?_
                            repeat ((with_reducible refine wpStill_step (fun K' hK' => ?_)); go_simp; (with_reducible refine hK' _ ?_); clear hK' K')
                            (with_reducible refine wpStill_nil ?_)
                            go_wp2
                            go_roundw
                            case rel =>
                              obtain ⟨k', B', R', p', h⟩ := HE.out
                              exact ⟨r + 1, k', B', R', p', HM.out, by first | rfl | (rw [W9]; rfl), h⟩
                            case measure => first | exact meas_lt8 HM.out | (rw [W9]; exact meas_lt8 HM.out)
                          · obtain ⟨y1, hy1⟩ : ∃ y1, Hid (y = y1 + 1) := ⟨y - 1, by show _ = _; omega⟩
                            have i0 : (0 : Int) < ((y : Nat) : Int) := by omega
                            have i0N : 0 < y := by omega
                            have i0Z : ¬ y = 0 := hy0
                            have HU1 : Hid (Bub w.heap.size n i (y1 + 1) q w9 gl cl gp cp p (insr R p (S r) i q)) := by rw [← hy1.out]; exact hU
                            have b1 := hU.at_ hy
                            have b2 := HU1.out.at0 (by have := hy1.out; omega)
                            have W3 : wrap64 (((y : Nat) : Int) - 1) = ((y1 : Nat) : Int) := by have := hy1.out; have := HX.out.2.2.2.2; unfold wrap64; omega
                            have W4 : IntKind.i64.wrap (((y : Nat) : Int) - 1) = ((y1 : Nat) : Int) := (IntKind.wrap_i64 _).trans (by have := hy1.out; have := HX.out.2.2.2.2; omega)
                            have k1 : ((y : Nat) : Int) < (K : Int) := by have := hK.out; omega
                            have k2 : ((y1 : Nat) : Int) < (K : Int) := by have := hK.out; have := hy1.out; omega
                            by_cases hqp : q < p y1
                            · have T1 : ((q : Nat) : Int) < ((p y1 : Nat) : Int) := by omega
                              have HS1 : Hid (∀ W, w9.drew.drew = W → ∃ V U : Nat, W.cell? ⟨gl, y, none⟩ = some (.slice (some ⟨V, 0, none⟩) n n) ∧ W.cell? ⟨gl, y1, none⟩ = some (.slice (some ⟨U, 0, none⟩) n n) ∧ W.frozen? ⟨gl, y, none⟩ = false ∧ (W.setCell ⟨gl, y, none⟩ (.slice (some ⟨U, 0, none⟩) n n)).cell? ⟨gl, y1, none⟩ = some (.slice (some ⟨U, 0, none⟩) n n) ∧ (W.setCell ⟨gl, y, none⟩ (.slice (some ⟨U, 0, none⟩) n n)).frozen? ⟨gl, y1, none⟩ = false ∧ ∀ X, ((W.setCell ⟨gl, y, none⟩ (.slice (some ⟨U, 0, none⟩) n n)).setCell ⟨gl, y1, none⟩ (.slice (some ⟨V, 0, none⟩) n n)).drew = X → Bm w.heap.size n i y1 q X gl cl gp cp p (insr R p (S r) i q) ∧ Below w.heap.size w X) := fun W hW => by
                                have h9 : Bub w.heap.size n i (y1 + 1) q W gl cl gp cp p (insr R p (S r) i q) := hW ▸ HU1.out.below (below_drew0.trans below_drew0)
                                have b9 : Below w.heap.size w W := hW ▸ hb9.trans (below_drew0.trans below_drew0)
                                have hyi : y1 + 1 ≤ i := by have := hy1.out; omega
                                obtain ⟨V, U, f1, f2, f3, f4, f5, f6, f7⟩ := h9.s1 hyi
                                rw [← hy1.out] at f1 f3 f4 f5 f6 f7
                                exact ⟨V, U, f1, f2, f3, f4, f5, fun X hX => ⟨hX ▸ f6.below below_drew0, hX ▸ (b9.trans f7).trans below_drew0⟩⟩
                              have HS2 : Hid (∀ X, Bm w.heap.size n i y1 q X gl cl gp cp p (insr R p (S r) i q) → Below w.heap.size w X → X.cell? ⟨gp, y, none⟩ = some (.int .i64 (q : Nat)) ∧ X.cell? ⟨gp, y1, none⟩ = some (.int .i64 (p y1 : Nat)) ∧ X.frozen? ⟨gp, y, none⟩ = false ∧ (X.setCell ⟨gp, y, none⟩ (.int .i64 (p y1 : Nat))).cell? ⟨gp, y1, none⟩ = some (.int .i64 (p y1 : Nat)) ∧ (X.setCell ⟨gp, y, none⟩ (.int .i64 (p y1 : Nat))).frozen? ⟨gp, y1, none⟩ = false ∧ Hid (Bub w.heap.size n i y1 q ((X.setCell ⟨gp, y, none⟩ (.int .i64 (p y1 : Nat))).setCell ⟨gp, y1, none⟩ (.int .i64 (q : Nat))) gl cl gp cp p (insr R p (S r) i q) ∧ Below w.heap.size w ((X.setCell ⟨gp, y, none⟩ (.int .i64 (p y1 : Nat))).setCell ⟨gp, y1, none⟩ (.int .i64 (q : Nat))))) := fun X hX hb => by
                                have hyi : y1 + 1 ≤ i := by have := hy1.out; omega
                                obtain ⟨f1, f2, f3, f4, f5, f6, f7⟩ := hX.s2 hyi hqp
                                rw [← hy1.out] at f1 f3 f4 f5 f6 f7
                                exact ⟨f1, f2, f3, f4, f5, f6, hb.trans f7⟩
                              have HY : Hid (y1 ≤ i ∧ y1 < y) := ⟨by have := hy1.out; omega, by have := hy1.out; omega⟩
                              clear hU hb9 hy hy0 PUT HX HU1 hqp HM W9
                              generalize p y1 = py at b2 T1 HS2
                              go_upto_region 28 with (fail)
                              refine region_still10 (by kernel_rfl) (by kernel_rfl) ?_
                              repeat ((with_reducible refine wpStill_step (fun K' hK' => ?_)); go_simp; (with_reducible refine hK' _ ?_); clear hK' K')
                              (with_reducible refine wpStill_nil ?_)
                              go_upto_region 30 with (fail)
                              obtain ⟨V, U, f1, f2, f3, f4, f5, f6⟩ := HS1.out _ rfl
                              have HS3 : Hid (∀ X, ((w9.drew.drew.setCell ⟨gl, y, none⟩ (.slice (some ⟨U, 0, none⟩) n n)).setCell ⟨gl, y1, none⟩ (.slice (some ⟨V, 0, none⟩) n n)).drew = X → Bm w.heap.size n i y1 q X gl cl gp cp p (insr R p (S r) i q) ∧ Below w.heap.size w X) := f6
                              clear f6 HS1 b1 b2
                              refine region_planF (fun w' => w'.cell? ⟨gl, y1, none⟩ = some (.slice (some ⟨U, 0, none⟩) n n) ∧ w'.cell? ⟨gl, y, none⟩ = some (.slice (some ⟨V, 0, none⟩) n n)) 14 5 173 [2, 3, 4] ?A1a ?A2a ⟨f2, f1⟩ (by kernel_rfl) (by kernel_rfl) rfl (fun _ a d v _ h => by cases d <;> exact h) (fun w' => ?s1a) ?z1a (fun w' hS => ?s2a) ?n3a
                              case s1a =>
                                simp only [List.take_succ_cons, List.take_zero]
                                repeat still_step
                                exact rfl
                              case z1a => exact rfl
                              case s2a =>
                                obtain ⟨g1, g2⟩ := hS
                                simp only [List.take_succ_cons, List.take_zero, List.drop_succ_cons, List.drop_zero]
                                repeat still_step
                                exact rfl
                              case n3a =>
                              simp only [List.drop_succ_cons, List.drop_zero]
                              generalize w9.drew.drew = Wx at f1 f2 f3 f4 f5 HS3 ⊢
                              go_upto_region 31 with (fail)
                              clear f1 f2 f3 f4 f5
                              obtain ⟨m1, m2⟩ := HS3.out _ rfl
                              obtain ⟨f1, f2, f3, f4, f5, HF⟩ := HS2.out _ m1 m2
                              clear HS3 HS2 m1 m2
                              refine region_planF (fun w' => w'.cell? ⟨gp, y1, none⟩ = some (.int .i64 ((py : Nat) : Int)) ∧ w'.cell? ⟨gp, y, none⟩ = some (.int .i64 ((q : Nat) : Int))) 14 5 173 [2, 3, 4] ?A1b ?A2b ⟨f2, f1⟩ (by kernel_rfl) (by kernel_rfl) rfl (fun _ a d v _ h => by cases d <;> exact h) (fun w' => ?s1b) ?z1b (fun w' hS => ?s2b) ?n3b
                              case s1b =>
                                simp only [List.take_succ_cons, List.take_zero]
                                repeat still_step
                                exact rfl
                              case z1b => exact rfl
                              case s2b =>
                                obtain ⟨g1, g2⟩ := hS
                                simp only [List.take_succ_cons, List.take_zero, List.drop_succ_cons, List.drop_zero]
                                repeat still_step
                                exact rfl
                              case n3b =>
                              simp only [List.drop_succ_cons, List.drop_zero]
                              generalize ((Wx.setCell ⟨gl, y, none⟩ (.slice (some ⟨U, 0, none⟩) n n)).setCell ⟨gl, y1, none⟩ (.slice (some ⟨V, 0, none⟩) n n)).drew = Wy at f1 f2 f3 f4 f5 HF ⊢
                              go_wp2
                              clear f1 f2 f3 f4 f5
                              go_roundw
                              case rel => exact ⟨y1, HY.out.1, by first | rfl | (rw [W3]), HF.out⟩
                              case measure => first | (rw [W3]; show (((y1 : Nat) : Int)).toNat < (((y : Nat) : Int)).toNat; have := HY.out; omega) | (show (((y1 : Nat) : Int)).toNat < (((y : Nat) : Int)).toNat; have := HY.out; omega)
                            · have T1 : ¬ ((q : Nat) : Int) < ((p y1 : Nat) : Int) := by omega
                              have HE : Hid (∃ k' B' R' p', Rs10 n S w w9 (.slice (some ⟨gl, 0, none⟩) K cl) (.slice (some ⟨gp, 0, none⟩) K cp) (r + 1) k' B' R' p') := PUT.out y hy (.inr (by have := hy1.out; rw [this, Nat.add_sub_cancel]; exact hqp)) w9 hU hb9
                              have HE2 : Hid (∃ k' B' R' p', Rs10 n S w w9.drew (.slice (some ⟨gl, 0, none⟩) K cl) (.slice (some ⟨gp, 0, none⟩) K cp) (r + 1) k' B' R' p') := PUT.out y hy (.inr (by have := hy1.out; rw [this, Nat.add_sub_cancel]; exact hqp)) w9.drew (hU.below below_drew0) (hb9.trans below_drew0)
                              clear HE
                              have HE := HE2
                              clear HE2 hU hb9 hy hy0 PUT HX HU1 hqp
                              generalize p y1 = py at b2 T1
                              go_upto_region 28 with (fail)
                              refine region_still10 (by kernel_rfl) (by kernel_rfl) ?_
                              repeat ((with_reducible refine wpStill_step (fun K' hK' => ?_)); go_simp; (with_reducible refine hK' _ ?_); clear hK' K')
                              (with_reducible refine wpStill_nil ?_)
                              go_wp2
                              go_roundw
                              case rel =>
                                obtain ⟨k', B', R', p', h⟩ := HE.out
                                exact ⟨r + 1, k', B', R', p', HM.out, by first | rfl | (rw [W9]; rfl), h⟩
                              case measure => first | exact meas_lt8 HM.out | (rw [W9]; exact meas_lt8 HM.out)
            · have iq : ¬ ((q : Nat) : Int) < (n : Int) := by omega
              have hqn2 : q = n := by omega
              subst hqn2
              have HE : Hid (Rs10 q S w w6 (.slice ra i rc) (.slice pa i pc) (r + 1) i B R p) := HX.out.1.skip H6.out.1 (fun c hc => by rw [hV.out]; exact hz.out c hc)
              have HM : Hid (r < m) := HX.out.2.1
              have W9 := HW1.out
              clear hz hqn hq HX
              go_wp2
              go_roundw
              case rel => exact ⟨r + 1, i, B, R, p, HM.out, by first | rfl | (rw [W9]; rfl), HE.out⟩
              case measure => first | exact meas_lt8 HM.out | (rw [W9]; exact meas_lt8 HM.out)
    · have hrm : r = m := by omega
      subst hrm
      have ib : ¬ ((r : Nat) : Int) < (r : Int) := by omega
      have HX : Hid (Rs10 n S w w1 (.slice ra k rc) (.slice pa k pc) r k B R p) := hX
      clear hX hlt hr
      go_wp2
      go_ret2
      exact ⟨_, _, rfl, k, B, R, p, HX.out⟩
end Go.Proofs.Ytfhgamaakkoplaa
namespace Go.Proofs.Ytfhgamaakkoplaa
open Go.RowKit Gf2
set_option linter.unusedVariables false

-- layer 19: the errors of a column, in the program and in the document's answer
theorem ite_skip {c : Prop} [Decidable c] {A B : Prop} (h : ¬ c) (hb : B) : if c then A else B := by
  rw [if_neg h]
  exact hb
/-- point i is one of an element, above the one ahead of it. -/
def Pg19 (F : Nat → Int) (i : Nat) : Prop := 0 ≤ F i ∧ F i ≤ 255 ∧ (0 < i → F (i - 1) < F i)
/-- the error of a column. -/
def Cd19 (k : Int) (n n2 : Nat) (F : Nat → Int) (c : Nat) : Prop :=
  ((k < 1 ∨ 256 < k ∨ 256 < n) ∧ c = 4) ∨ ((1 ≤ k ∧ k ≤ 256 ∧ n ≤ 256) ∧ ((¬ (∀ i, i < n → Pg19 F i)) ∧ c = 110 ∨ (∀ i, i < n → Pg19 F i) ∧ (n2 ≠ n ∧ c = 6 ∨ n2 = n ∧ ((n : Int) < k ∧ c = 9 ∨ k ≤ n ∧ c = 0))))
theorem cd_ex19 (k : Int) (n n2 : Nat) (F : Nat → Int) : ∃ c, Cd19 k n n2 F c := by
  by_cases h1 : k < 1 ∨ 256 < k ∨ 256 < n
  · exact ⟨4, .inl ⟨h1, rfl⟩⟩
  · have h2 : 1 ≤ k ∧ k ≤ 256 ∧ n ≤ 256 := by omega
    by_cases h3 : ∀ i, i < n → Pg19 F i
    · by_cases h4 : n2 = n
      · by_cases h5 : (n : Int) < k
        · exact ⟨9, .inr ⟨h2, .inr ⟨h3, .inr ⟨h4, .inl ⟨h5, rfl⟩⟩⟩⟩⟩
        · exact ⟨0, .inr ⟨h2, .inr ⟨h3, .inr ⟨h4, .inr ⟨by omega, rfl⟩⟩⟩⟩⟩
      · exact ⟨6, .inr ⟨h2, .inr ⟨h3, .inl ⟨h4, rfl⟩⟩⟩⟩
    · exact ⟨110, .inr ⟨h2, .inl ⟨h3, rfl⟩⟩⟩
/-- a column without an error: what it is. -/
theorem Cd19.fit {k : Int} {n n2 : Nat} {F : Nat → Int} (h : Cd19 k n n2 F 0) : ∃ (kk : Nat) (p : Nat → Nat), k = (kk : Int) ∧ n2 = n ∧ 1 ≤ kk ∧ kk ≤ n ∧ n ≤ 256 ∧ (∀ i, i < n → F i = (p i : Int)) ∧ (∀ i, i < n → p i < 256) ∧ Up8 n p := by
  rcases h with ⟨-, h⟩ | ⟨h2, ⟨-, h⟩ | ⟨h3, ⟨-, h⟩ | ⟨h4, ⟨-, h⟩ | ⟨h5, -⟩⟩⟩⟩
  · cases h
  · cases h
  · cases h
  · cases h
  · have e : ∀ i, i < n → F i = ((F i).toNat : Int) := fun i hi => by have := (h3 i hi).1; omega
    have up : ∀ d i, i + d + 1 < n → F i < F (i + d + 1) := fun d => by
      induction d with
      | zero => intro i hi; have := (h3 (i + 1) hi).2.2 (by omega); rwa [Nat.add_sub_cancel] at this
      | succ d ih =>
        intro i hi
        have a := ih i (by omega)
        have b := (h3 (i + d + 1 + 1) (by omega)).2.2 (by omega)
        rw [Nat.add_sub_cancel] at b
        show F i < F (i + d + 1 + 1)
        omega
    refine ⟨k.toNat, fun i => (F i).toNat, by omega, h4, by omega, by omega, h2.2.2, e, fun i hi => by
      have := (h3 i hi).2.1
      have := (h3 i hi).1
      show (F i).toNat < 256
      omega, fun i j hij hj => ?_⟩
    have a := up (j - i - 1) i (by omega)
    rw [show i + (j - i - 1) + 1 = j by omega] at a
    have b := (h3 i (by omega)).1
    show (F i).toNat < (F j).toNat
    omega
set_option maxHeartbeats 8000000 in
set_option maxRecDepth 100000 in
theorem checked_any19 (v u : Value) (k : Int) (n n2 c : Nat) (F : Nat → Int) (w : World) (h : Qi w v n F) (hu : ∃ a cc, u = .slice a n2 cc) (hc : Cd19 k n n2 F c) :
    Calls Try.prog 19 #[.int .i64 k, v, u] w fun e w' => e = .returned (.int .i64 (c : Nat)) ∧ Below w.heap.size w w' := by
  obtain ⟨ua, uc, rfl⟩ := hu
  obtain ⟨hnb, -, a, cap, rfl, -, -, h4⟩ := h
  rcases hc with ⟨h1, rfl⟩ | ⟨h1, h2⟩
  · by_cases i1 : k < 1
    · clear h4 h1
      go_enter Try.func19, Try.ntmps19
      go_wp2
      go_ret
      exact ⟨rfl, Below.refl _ _⟩
    · by_cases i2 : 256 < k
      · clear h4 h1
        go_enter Try.func19, Try.ntmps19
        go_wp2
        go_ret
        exact ⟨rfl, Below.refl _ _⟩
      · have i3 : (256 : Int) < (n : Int) := by omega
        have i3N : 256 < n := by omega
        clear h4 h1
        go_enter Try.func19, Try.ntmps19
        go_wp2
        go_ret
        exact ⟨rfl, Below.refl _ _⟩
  · have i1 : ¬ k < 1 := by omega
    have i2 : ¬ 256 < k := by omega
    have i3 : ¬ (256 : Int) < (n : Int) := by omega
    have i3N : ¬ 256 < n := by omega
    have HC : Hid (n ≤ 256 ∧ ((¬ (∀ i, i < n → Pg19 F i)) ∧ c = 110 ∨ (∀ i, i < n → Pg19 F i) ∧ (n2 ≠ n ∧ c = 6 ∨ n2 = n ∧ ((n : Int) < k ∧ c = 9 ∨ k ≤ n ∧ c = 0)))) := ⟨h1.2.2, h2⟩
    clear h1 h2
    go_enter Try.func19, Try.ntmps19
    go_wp2
    clear i1 i2 i3 i3N
    go_loopw [7] (fun s wr => ∃ i : Nat, i ≤ n ∧ s = .int .i64 ((i : Nat) : Int) ∧ Hid (∀ x, x < i → Pg19 F x) ∧ Below w.heap.size w wr) (fun s _ => n - (intOf s).toNat)
    case atStart => exact ⟨0, Nat.zero_le _, rfl, fun x hx => absurd hx (Nat.not_lt_zero _), Below.refl _ _⟩
    case round =>
      obtain ⟨i, hi, rfl, hg, hb⟩ := hrel
      by_cases hin : i < n
      · obtain ⟨b, o, rfl, hbl, hcell⟩ := h4 (by omega)
        have ii : ((i : Nat) : Int) < (n : Int) := Int.ofNat_lt.2 hin
        have q1 := (hb.cell (p := ⟨b, o + i, none⟩) hbl).trans (hcell i hin)
        have HB9 : Hid (Below w.heap.size w wr.drew) := hb.trans below_drew0
        have HBAD : Hid (¬ Pg19 F i → c = 110) := fun hn => by
          rcases HC.out.2 with ⟨-, h⟩ | ⟨h, -⟩
          · exact h
          · exact absurd (h i hin) hn
        have HGO : Hid (i < n ∧ (Pg19 F i → ∀ x, x < i + 1 → Pg19 F x)) := ⟨hin, fun h x hx => by
          by_cases e : x = i
          · rw [e]; exact h
          · exact hg.out x (by omega)⟩
        have HW3 : Hid (wrap64 (((i : Nat) : Int) + 1) = ((i : Nat) : Int) + 1) := wrap_lt8 (j := i) (b := n) hin (by have := HC.out; omega)
        by_cases z1 : F i < 0
        · have hc : c = 110 := HBAD.out (fun h => by have := h.1; omega)
          subst hc
          generalize F i = z at q1 z1
          clear HBAD HGO HW3 hg hb hcell hi hin
          go_upto_region 6 with (fail)
          refine region_still10 (by kernel_rfl) (by kernel_rfl) ?_
          repeat ((with_reducible refine wpStill_step (fun K' hK' => ?_)); (first | (go_simp; (with_reducible refine hK' _ ?_)) | (go_simp; refine ite_skip (fun h => nomatch (show (none : Option Bool) = some true from h)) ?_; (with_reducible refine hK' _ ?_))); clear hK' K')
          (with_reducible refine wpStill_nil ?_)
          go_wp2
          go_ret
          exact ⟨rfl, HB9.out⟩
        · by_cases z2 : 255 < F i
          · have hc : c = 110 := HBAD.out (fun h => by have := h.2.1; omega)
            subst hc
            generalize F i = z at q1 z1 z2
            clear HBAD HGO HW3 hg hb hcell hi hin
            go_upto_region 6 with (fail)
            refine region_still10 (by kernel_rfl) (by kernel_rfl) ?_
            repeat ((with_reducible refine wpStill_step (fun K' hK' => ?_)); (first | (go_simp; (with_reducible refine hK' _ ?_)) | (go_simp; refine ite_skip (fun h => nomatch (show (none : Option Bool) = some true from h)) ?_; (with_reducible refine hK' _ ?_))); clear hK' K')
            (with_reducible refine wpStill_nil ?_)
            go_wp2
            go_ret
            exact ⟨rfl, HB9.out⟩
          · by_cases z3 : i = 0
            · subst z3
              rw [Nat.add_zero] at q1
              have i0N : ¬ 0 < 0 := by omega
              have HN : Hid (0 < n ∧ ∀ x, x < 0 + 1 → Pg19 F x) := ⟨hin, HGO.out.2 ⟨by omega, by omega, fun h => absurd h i0N⟩⟩
              generalize F 0 = z at q1 z1 z2
              clear HBAD HGO hg hb hcell hi hin
              have W3 := HW3.out
              go_upto_region 6 with (fail)
              refine region_still10 (by kernel_rfl) (by kernel_rfl) ?_
              repeat ((with_reducible refine wpStill_step (fun K' hK' => ?_)); (first | (go_simp; (with_reducible refine hK' _ ?_)) | (go_simp; refine ite_skip (fun h => nomatch (show (none : Option Bool) = some true from h)) ?_; (with_reducible refine hK' _ ?_))); clear hK' K')
              (with_reducible refine wpStill_nil ?_)
              go_wp2
              go_roundw
              case rel => exact ⟨0 + 1, HN.out.1, by first | rfl | (rw [W3]; rfl), HN.out.2, HB9.out⟩
              case measure => first | exact meas_lt8 HN.out.1 | (rw [W3]; exact meas_lt8 HN.out.1)
            · obtain ⟨i1, hi1⟩ : ∃ i1, Hid (i = i1 + 1) := ⟨i - 1, by show _ = _; omega⟩
              have i0 : (0 : Int) < ((i : Nat) : Int) := by omega
              have i0N : 0 < i := by omega
              have ii1 : ((i1 : Nat) : Int) < (n : Int) := by have := hi1.out; omega
              have q2 := (hb.cell (p := ⟨b, o + i1, none⟩) hbl).trans (hcell i1 (by have := hi1.out; omega))
              have HW4 : Hid (IntKind.i64.wrap (((i : Nat) : Int) - 1) = ((i1 : Nat) : Int)) := (IntKind.wrap_i64 _).trans (by have := hi1.out; have := HC.out; omega)
              have e1 : i - 1 = i1 := by have := hi1.out; omega
              by_cases z4 : F i ≤ F i1
              · have hc : c = 110 := HBAD.out (fun h => by have := h.2.2 i0N; rw [e1] at this; omega)
                subst hc
                generalize F i = z at q1 z1 z2 z4
                generalize F i1 = z' at q2 z4
                clear HBAD HGO HW3 hg hb hcell hi hin e1
                have W4 := HW4.out
                go_upto_region 6 with (fail)
                refine region_still10 (by kernel_rfl) (by kernel_rfl) ?_
                repeat ((with_reducible refine wpStill_step (fun K' hK' => ?_)); (first | (go_simp; (with_reducible refine hK' _ ?_)) | (go_simp; refine ite_skip (fun h => nomatch (show (none : Option Bool) = some true from h)) ?_; (with_reducible refine hK' _ ?_))); clear hK' K')
                (with_reducible refine wpStill_nil ?_)
                go_wp2
                go_ret
                exact ⟨rfl, HB9.out⟩
              · have HN : Hid (i < n ∧ ∀ x, x < i + 1 → Pg19 F x) := ⟨hin, HGO.out.2 ⟨by omega, by omega, fun h => by rw [e1]; omega⟩⟩
                generalize F i = z at q1 z1 z2 z4
                generalize F i1 = z' at q2 z4
                clear HBAD HGO hg hb hcell hi hin e1
                have W4 := HW4.out
                have W3 := HW3.out
                go_upto_region 6 with (fail)
                refine region_still10 (by kernel_rfl) (by kernel_rfl) ?_
                repeat ((with_reducible refine wpStill_step (fun K' hK' => ?_)); (first | (go_simp; (with_reducible refine hK' _ ?_)) | (go_simp; refine ite_skip (fun h => nomatch (show (none : Option Bool) = some true from h)) ?_; (with_reducible refine hK' _ ?_))); clear hK' K')
                (with_reducible refine wpStill_nil ?_)
                go_wp2
                go_roundw
                case rel => exact ⟨i + 1, HN.out.1, by first | rfl | (rw [W3]; rfl), HN.out.2, HB9.out⟩
                case measure => first | exact meas_lt8 HN.out.1 | (rw [W3]; exact meas_lt8 HN.out.1)
      · have hin2 : i = n := by omega
        have ii : ¬ ((i : Nat) : Int) < (n : Int) := by omega
        have hall : ∀ x, x < n → Pg19 F x := fun x hx => hg.out x (by omega)
        have h9 : n2 ≠ n ∧ c = 6 ∨ n2 = n ∧ ((n : Int) < k ∧ c = 9 ∨ k ≤ n ∧ c = 0) := by
          rcases HC.out.2 with ⟨h, -⟩ | ⟨-, h⟩
          · exact absurd hall h
          · exact h
        have HB9 : Hid (Below w.heap.size w wr) := hb
        clear hall hg hb h4 hi hin hin2
        rcases h9 with ⟨g1, rfl⟩ | ⟨g1, ⟨g2, rfl⟩ | ⟨g2, rfl⟩⟩
        · have T1 : (((n2 : Nat) : Int) == ((n : Nat) : Int)) = false := by simp; omega
          have T2 : ¬ ((n2 : Nat) : Int) = ((n : Nat) : Int) := by omega
          go_wp2
          go_ret
          exact ⟨rfl, HB9.out⟩
        · subst g1
          go_wp2
          go_ret
          exact ⟨rfl, HB9.out⟩
        · subst g1
          have g3 : ¬ ((n2 : Nat) : Int) < k := by omega
          go_wp2
          go_ret
          exact ⟨rfl, HB9.out⟩
end Go.Proofs.Ytfhgamaakkoplaa
