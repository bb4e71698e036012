import Derived.Test.YtddpdmggccpclaaMtbm
import Derived.Deep.Cut
namespace Go.Proofs.Ytddpdmggccpclaa
open Go.RowKit Gf2
set_option linter.unusedVariables false

-- layer 19: the laws' work
theorem work_wrap19 {n L : Nat} (hn : n ≤ 1024) (hL : L ≤ 65536) : ∃ p q r : Nat, wrap64 ((n : Int) + 1) = (p : Int) ∧ wrap64 ((p : Int) * (p : Int)) = (q : Int) ∧ wrap64 ((q : Int) * (L : Int)) = (r : Int) := by
  have h1 : (n + 1) * (n + 1) ≤ 1025 * 1025 := Nat.mul_le_mul (by omega) (by omega)
  have h2 : (n + 1) * (n + 1) * L ≤ 1025 * 1025 * 65536 := Nat.mul_le_mul h1 hL
  refine ⟨n + 1, (n + 1) * (n + 1), (n + 1) * (n + 1) * L, by unfold wrap64; omega, ?_, ?_⟩
  · rw [show (((n + 1 : Nat) : Int) * ((n + 1 : Nat) : Int)) = (((n + 1) * (n + 1) : Nat) : Int) from (Int.natCast_mul _ _).symm]
    generalize (n + 1) * (n + 1) = q at *
    unfold wrap64
    omega
  · rw [show (((((n + 1) * (n + 1) : Nat)) : Int) * (L : Int)) = (((n + 1) * (n + 1) * L : Nat) : Int) from (Int.natCast_mul _ _).symm]
    generalize (n + 1) * (n + 1) * L = r at *
    unfold wrap64
    omega
set_option maxHeartbeats 4000000 in
set_option maxRecDepth 100000 in
theorem work19 (f k m : Int) (v : Value) (c : Nat) (n : Nat → Nat) (w : World) (h : Ln w v c n) :
    Calls Try.prog 6 #[.agg #[.int .i64 f, .int .i64 k, .int .i64 m, v]] w fun e w' => ∃ z : Int, e = .returned (.int .i64 z) ∧ (z ≤ 4194304 → c ≤ 1024 ∧ ∀ i, i < c → n i ≤ 65536) ∧ Below w.heap.size w w' := by
  obtain ⟨h1, h2, a, cap, rfl, h4, h5, h6⟩ := h
  obtain ⟨w1, hw1⟩ : ∃ w1, w1 = w.alloc (.cells #[.int .i64 f, .int .i64 k, .int .i64 m, .slice a c cap] 24) := ⟨_, rfl⟩
  have b1 : Below w.heap.size w w1 := by rw [hw1]; exact (Below.refl _ _).alloc (Nat.le_refl _) _
  have hblk : w1.heap[w.heap.size]? = some (.cells #[.int .i64 f, .int .i64 k, .int .i64 m, .slice a c cap] 24 (0, 0)) := by rw [hw1]; exact heap_alloc_new _ _
  have z3 : w1.cell? ⟨w.heap.size, 3, none⟩ = some (.slice a c cap) := by rw [cell_of_row _ _ 3 _ _ _ hblk]; rfl
  have HH : Hid (c ≤ 281474976710656 ∧ Below w.heap.size w w1 ∧ ∀ i, i < c → ∃ b o x y, a = some ⟨b, o, none⟩ ∧ w1.cell? ⟨b, o + i, none⟩ = some (.slice x (n i) y)) := ⟨h1, b1, fun i hi => by
    obtain ⟨b, o, e, hl, hc⟩ := h6 (by omega)
    obtain ⟨x, y, z⟩ := hc i hi
    exact ⟨b, o, x, y, e, (b1.cell (p := ⟨b, o + i, none⟩) hl).trans z⟩⟩
  have HW : Hid (w1 = w.alloc (.cells #[.int .i64 f, .int .i64 k, .int .i64 m, .slice a c cap] 24)) := hw1
  clear h1 h2 h4 h5 h6 b1 hblk hw1
  by_cases hc : 1024 < c
  · have i1 : (1024 : Int) < (c : Int) := by omega
    go_enter Try.func6, Try.ntmps6
    rw [HW.out] at z3
    go_wp2
    go_ret
    refine ⟨_, rfl, fun h => absurd h (by decide), ?_⟩
    rw [← HW.out]
    exact HH.out.2.1
  have i1 : ¬ (1024 : Int) < (c : Int) := by omega
  have HC : Hid (c ≤ 1024) := by show _ ≤ _; omega
  clear hc
  rw [HW.out] at z3
  go_enter Try.func6, Try.ntmps6
  go_wp2
  rw [← HW.out] at z3 ⊢
  go_loopw [4, 5] (fun s z wr => ∃ i L : Nat, i ≤ c ∧ s = .int .i64 (L : Int) ∧ z = .int .i64 (i : Int) ∧ (∀ j, j < i → n j ≤ L) ∧ wr = w1) (fun _ z _ => c - (intOf z).toNat)
  case atStart => exact ⟨0, 0, Nat.zero_le _, rfl, rfl, fun j hj => absurd hj (Nat.not_lt_zero _), rfl⟩
  case round =>
    obtain ⟨i, L, hi, rfl, rfl, hL, hw⟩ := hrel
    have hw := hw.symm
    subst hw
    by_cases hlt : i < c
    · have ib : ((i : Nat) : Int) < (c : Int) := Int.ofNat_lt.2 hlt
      obtain ⟨b, o, x, y, ea, q1⟩ := HH.out.2.2 i hlt
      subst ea
      have W1 := wrap_succ8 (j := i) (by have := HC.out; unfold big; omega)
      by_cases hg : L < n i
      · have ig : (L : Int) < (n i : Int) := by omega
        have HE : Hid (i < c ∧ ∀ j, j < i + 1 → n j ≤ n i) := ⟨hlt, fun j hj => by
          by_cases e : j = i
          · rw [e]; exact Nat.le_refl _
          · have := hL j (by omega); omega⟩
        generalize n i = ni at q1 ig HE
        clear hi hL hlt hg
        go_wp2
        go_roundw
        case rel => exact ⟨i + 1, ni, HE.out.1, rfl, by first | rfl | (rw [W1]; rfl), HE.out.2, by trivial⟩
        case measure => first | exact meas_lt8 HE.out.1 | (rw [W1]; exact meas_lt8 HE.out.1)
      · have ig : ¬ (L : Int) < (n i : Int) := by omega
        have HE : Hid (i < c ∧ ∀ j, j < i + 1 → n j ≤ L) := ⟨hlt, fun j hj => by
          by_cases e : j = i
          · rw [e]; omega
          · exact hL j (by omega)⟩
        generalize n i = ni at q1 ig
        clear hi hL hlt hg
        go_wp2
        go_roundw
        case rel => exact ⟨i + 1, L, HE.out.1, rfl, by first | rfl | (rw [W1]; rfl), HE.out.2, by trivial⟩
        case measure => first | exact meas_lt8 HE.out.1 | (rw [W1]; exact meas_lt8 HE.out.1)
    · have ib : ¬ ((i : Nat) : Int) < (c : Int) := by omega
      have hic : i = c := by omega
      rw [hic] at hL
      by_cases hg : 65536 < L
      · have ig : (65536 : Int) < (L : Int) := by omega
        clear hi hlt hic hL hg
        go_wp2
        go_ret
        exact ⟨_, rfl, fun h => absurd h (by decide), HH.out.2.1⟩
      · have ig : ¬ (65536 : Int) < (L : Int) := by omega
        obtain ⟨p, q, r, W2, W3, W4⟩ := work_wrap19 (n := c) (L := L) HC.out (by omega)
        have HL : Hid (c ≤ 1024 ∧ ∀ i, i < c → n i ≤ 65536) := ⟨HC.out, fun i hi => by have := hL i hi; omega⟩
        clear hi hlt hic hL hg
        go_wp2
        go_ret
        exact ⟨_, rfl, fun _ => HL.out, HH.out.2.1⟩
end Go.Proofs.Ytddpdmggccpclaa
namespace Go.Proofs.Ytddpdmggccpclaa
open Go.RowKit Gf2
set_option linter.unusedVariables false

-- layer 19: MendTells: what stands fast behind Shards
set_option maxHeartbeats 2000000 in
set_option maxRecDepth 100000 in
theorem valid19 (f k m : Nat) (w : World) (hf : f ≤ 1) (h1 : 1 ≤ k) (h2 : 1 ≤ m) (h3 : k + m ≤ 256) :
    Calls Try.prog 10 #[.int .i64 (f : Int), .int .i64 (k : Int), .int .i64 (m : Int)] w fun e w' => e = .returned (.bool true) ∧ w' = w := by
  have i1 : (1 : Int) ≤ (k : Int) := by omega
  have i2 : (1 : Int) ≤ (m : Int) := by omega
  have i3 : (k : Int) ≤ 256 := by omega
  have i4 : (m : Int) ≤ 256 := by omega
  have i5 : (k : Int) + (m : Int) ≤ 256 := by omega
  have W0 : wrap64 ((k : Int) + (m : Int)) = (k : Int) + (m : Int) := by unfold wrap64; omega
  rcases (show f = 0 ∨ f = 1 by omega) with rfl | rfl
  · clear hf h1 h2 h3
    go_enter Try.func10, Try.ntmps10
    go_wp2
    go_ret
    exact ⟨rfl, rfl⟩
  · clear hf h1 h2 h3
    go_enter Try.func10, Try.ntmps10
    go_wp2
    go_ret
    exact ⟨rfl, rfl⟩
/-- behind Shards: the box bx of the law's argument, the list sb, the rows; V x z what stands at z in shard x now. -/
structure Tl19 (w W : World) (bx sb n L : Nat) (f k m : Int) (aS : Option Addr) (cS : Nat) (ln R C : Nat → Nat) (xa : Nat → Option Addr) (xc : Nat → Nat) (S V : Nat → Nat → Nat) : Prop where
  z0 : W.cell? ⟨bx, 0, none⟩ = some (.int .i64 f)
  z1 : W.cell? ⟨bx, 1, none⟩ = some (.int .i64 k)
  z2 : W.cell? ⟨bx, 2, none⟩ = some (.int .i64 m)
  z3 : W.cell? ⟨bx, 3, none⟩ = some (.slice aS n cS)
  lst : ∀ x, x < n → W.cell? ⟨sb, x, none⟩ = some (.slice (some ⟨R x, 0, none⟩) L (C x))
  byt : ∀ x, x < n → Rb W (.slice (some ⟨R x, 0, none⟩) L (C x)) L (V x)
  arg : ∀ x, x < n → ∃ b o, aS = some ⟨b, o, none⟩ ∧ W.cell? ⟨b, o + x, none⟩ = some (.slice (xa x) (ln x) (xc x))
  arb : ∀ x, x < n → Rb W (.slice (xa x) (ln x) (xc x)) (ln x) (S x)
  bel : Below w.heap.size w W
theorem Tl19.below {w W W' : World} {bx sb n L : Nat} {f k m : Int} {aS : Option Addr} {cS : Nat} {ln R C : Nat → Nat} {xa : Nat → Option Addr} {xc : Nat → Nat} {S V : Nat → Nat → Nat} (h : Tl19 w W bx sb n L f k m aS cS ln R C xa xc S V) (hb : Below W.heap.size W W') : Tl19 w W' bx sb n L f k m aS cS ln R C xa xc S V :=
  ⟨(hb.cell (cell_lt5 h.z0)).trans h.z0, (hb.cell (cell_lt5 h.z1)).trans h.z1, (hb.cell (cell_lt5 h.z2)).trans h.z2, (hb.cell (cell_lt5 h.z3)).trans h.z3, fun x hx => (hb.cell (cell_lt5 (h.lst x hx))).trans (h.lst x hx), fun x hx => (h.byt x hx).below hb, fun x hx => by
    obtain ⟨b, o, e, q⟩ := h.arg x hx
    exact ⟨b, o, e, (hb.cell (cell_lt5 q)).trans q⟩, fun x hx => (h.arb x hx).below hb, h.bel.trans (hb.mono h.bel.size)⟩
/-- a byte of a present shard as it came in. -/
theorem Tl19.at_ {w W : World} {bx sb n L : Nat} {f k m : Int} {aS : Option Addr} {cS : Nat} {ln R C : Nat → Nat} {xa : Nat → Option Addr} {xc : Nat → Nat} {S V : Nat → Nat → Nat} (h : Tl19 w W bx sb n L f k m aS cS ln R C xa xc S V) {x z : Nat} (hx : x < n) (hz : z < ln x) : ∃ b o, xa x = some ⟨b, o, none⟩ ∧ W.cell? ⟨b, o + z, none⟩ = some (.int .u8 (S x z : Nat)) := by
  obtain ⟨-, -, a, cap, e, -, -, h4⟩ := h.arb x hx
  cases e
  obtain ⟨b, o, e, -, hc⟩ := h4 (by omega)
  exact ⟨b, o, e, hc z hz⟩
theorem Tl19.new {w W : World} {bx sb n L : Nat} {f k m : Int} {aS : Option Addr} {cS : Nat} {ln R C : Nat → Nat} {xa : Nat → Option Addr} {xc : Nat → Nat} {S V : Nat → Nat → Nat} (h : Tl19 w W bx sb n L f k m aS cS ln R C xa xc S V) {x z : Nat} (hx : x < n) (hz : z < L) : W.cell? ⟨R x, z, none⟩ = some (.int .u8 (V x z : Nat)) := by
  obtain ⟨-, -, a, cap, e, -, -, h4⟩ := h.byt x hx
  cases e
  obtain ⟨b, o, e, -, hc⟩ := h4 (by omega)
  cases e
  have := hc z hz
  rwa [Nat.zero_add] at this
theorem lb_open19 {w : World} {aS : Option Addr} {n cS : Nat} {ln : Nat → Nat} {S : Nat → Nat → Nat} (h : Lb w (.slice aS n cS) n ln S) : ∃ (xa : Nat → Option Addr) (xc : Nat → Nat), (∀ x, x < n → ∃ b o, aS = some ⟨b, o, none⟩ ∧ w.cell? ⟨b, o + x, none⟩ = some (.slice (xa x) (ln x) (xc x))) ∧ ∀ x, x < n → Rb w (.slice (xa x) (ln x) (xc x)) (ln x) (S x) := by
  obtain ⟨V, ⟨hn, a, cap, e, -, -, h4⟩, hV⟩ := h
  cases e
  have hx : ∀ x, ∃ p : Option Addr × Nat, x < n → V x = .slice p.1 (ln x) p.2 := fun x => by
    by_cases hx : x < n
    · obtain ⟨_, _, y, z, e, _⟩ := hV x hx
      exact ⟨(y, z), fun _ => e⟩
    · exact ⟨(none, 0), fun h => absurd h hx⟩
  refine ⟨fun x => (Classical.choose (hx x)).1, fun x => (Classical.choose (hx x)).2, fun x hxn => ?_, fun x hxn => ?_⟩
  · obtain ⟨b, o, e, -, hc⟩ := h4 (by omega)
    refine ⟨b, o, e, ?_⟩
    rw [hc x hxn, Classical.choose_spec (hx x) hxn]
  · have := (hV x hxn).rb
    rw [Classical.choose_spec (hx x) hxn] at this
    exact this
theorem lb_ln19 {w : World} {aS : Option Addr} {n cS : Nat} {ln : Nat → Nat} {S : Nat → Nat → Nat} (h : Lb w (.slice aS n cS) n ln S) (hn : n ≤ 281474976710656) : Ln w (.slice aS n cS) n ln := by
  obtain ⟨V, ⟨hnb, a, cap, e, h2, h3, h4⟩, hV⟩ := h
  cases e
  refine ⟨hn, fun i hi => (hV i hi).1, _, _, rfl, h2, h3, fun h0 => ?_⟩
  obtain ⟨b, o, e, hl, hc⟩ := h4 h0
  refine ⟨b, o, e, hl.1, fun i hi => ?_⟩
  obtain ⟨_, _, y, z, e, _⟩ := hV i hi
  exact ⟨y, z, by rw [hc i hi, e]⟩
/-- sameBytes, its answer told. -/
theorem sb_dec19 (u v : Value) (n : Nat) (F G : Nat → Nat) (w : World) (h : Rb w u n F) (k : Rb w v n G) (P : Bool) (hP : P = true ↔ ∃ z, z < n ∧ F z ≠ G z) :
    Calls Try.prog 11 #[u, v] w fun e w' => e = .returned (.bool (!P)) ∧ ∃ m, w' = w.drewN m :=
  (sb19 u v n n F G w h k).mono fun _ w' ⟨b, h1, h2, h3⟩ => by
    refine ⟨?_, h3⟩
    rw [h1]
    congr 2
    cases hb : b with
    | true =>
      have h4 := (h2.1 hb).2
      cases hp : P with
      | true => obtain ⟨z, hz, hne⟩ := hP.1 hp; exact absurd (h4 z hz) hne
      | false => rfl
    | false =>
      cases hp : P with
      | true => rfl
      | false =>
        have h5 : b = true := h2.2 ⟨rfl, fun i hi => Classical.byContradiction fun h9 => by rw [hP.2 ⟨i, hi, h9⟩] at hp; cases hp⟩
        rw [hb] at h5
        cases h5
end Go.Proofs.Ytddpdmggccpclaa
namespace Go.Proofs.Ytddpdmggccpclaa
open Go.RowKit Gf2
set_option linter.unusedVariables false

-- layer 19: MendTells: the calls ahead of its loops
/-- what Shards' answer tells. -/
structure Tf19 (f k m n L : Nat) (ln : Nat → Nat) (S F : Nat → Nat → Nat) (P : Nat → Bool) : Prop where
  val : f ≤ 1 ∧ 1 ≤ k ∧ 1 ≤ m ∧ n = k + m ∧ n ≤ 256 ∧ 1 ≤ L ∧ L ≤ 65536
  lens : ∀ x, x < n → ln x = L ∨ ln x = 0
  few : cnb (emp ln) n ≤ m
  cnt : ∀ z, z < L → 2 * cnb (fun x => pre19 n ln x && decide (cv19 f k (F z) x ≠ S x z)) n ≤ m - cnb (emp ln) n
  cw : ∀ z, z < L → Cw19 f k n (cv19 f k (F z))
  told : ∀ x, x < n → (P x = true ↔ ln x ≠ 0 ∧ ∃ z, z < L ∧ S x z ≠ cv19 f k (F z) x)
/-- behind Shards, where it answers OK. -/
def Tg19 (w w4 : World) (bx sb n : Nat) (f k m : Int) (aS : Option Addr) (cS : Nat) (ln : Nat → Nat) (S : Nat → Nat → Nat) (v : Value) : Prop :=
  ∃ (f' k' m' L : Nat) (F : Nat → Nat → Nat) (P : Nat → Bool) (R C : Nat → Nat) (xa : Nat → Option Addr) (xc : Nat → Nat), f = f' ∧ k = k' ∧ m = m' ∧ Tf19 f' k' m' n L ln S F P ∧ Tl19 w w4 bx sb n L f k m aS cS ln R C xa xc S (fun x z => cv19 f' k' (F z) x) ∧ Gj w.heap.size w4 v (cnb P n) (fsel P (fun j => j) n)
/-- behind Shards, where it refuses. -/
def Th19 (w w4 : World) (bx sb n : Nat) (aS : Option Addr) (cS : Nat) : Prop :=
  w4.cell? ⟨bx, 3, none⟩ = some (.slice aS n cS) ∧ Below w.heap.size w w4 ∧ Calls Try.prog 9 #[.slice (some ⟨sb, 0, none⟩) n n, .slice aS n cS] w4 fun e w5 => e = .returned (.bool true) ∧ ∃ q, w5 = w4.drewN q
theorem cv_cw19 {f k n : Nat} {F : Nat → Nat} (hf : f ≤ 1) (hk : k ≤ n) (hn : n ≤ 256) (eF : Gf2.El 8 F) (dF : Dg F k) : Cw19 f k n (cv19 f k F) := poly_cw19 hf hk hn eF dF (fun x => by unfold cv19; rfl)
set_option maxHeartbeats 1000000 in
theorem ok_tg19 {w w3 w4 : World} {bx sb n : Nat} {f k m L : Nat} {aS : Option Addr} {cS : Nat} {ln B C : Nat → Nat} {S T F : Nat → Nat → Nat} {v : Value} (hO : Ok19 w3 w4 v f k m n L sb B ln C T F) (b3 : Below w.heap.size w w3)
    (z : w3.cell? ⟨bx, 0, none⟩ = some (.int .i64 (f : Int)) ∧ w3.cell? ⟨bx, 1, none⟩ = some (.int .i64 (k : Int)) ∧ w3.cell? ⟨bx, 2, none⟩ = some (.int .i64 (m : Int)) ∧ w3.cell? ⟨bx, 3, none⟩ = some (.slice aS n cS)) (hS : Lb w3 (.slice aS n cS) n ln S) (hT : ∀ x, x < n → ∀ j, j < ln x → T x j = S x j) (hlo : ∀ x, x < n → w.heap.size ≤ B x ∧ bx ≠ B x) (hsb : w.heap.size ≤ sb) (hbx : bx ≠ sb)
    (hold : ∀ W, Ke (fun x => x = sb ∨ ∃ y, y < n ∧ x = B y) w3 W → Lb W (.slice aS n cS) n ln S) (hbel : ∀ W, Ke (fun x => x = sb ∨ ∃ y, y < n ∧ x = B y) w3 W → Below w.heap.size w W) (hL6 : ∀ x, x < n → ln x ≤ 65536) : Tg19 w w4 bx sb n f k m aS cS ln S v := by
  obtain ⟨P, hP1, hP2⟩ := hO.told
  obtain ⟨R', C', G', hLw, hR⟩ := hO.list
  obtain ⟨xa, xc, x1, x2⟩ := lb_open19 (hold w4 hO.ke)
  have hE : ¬ (fun x => x = sb ∨ ∃ y, y < n ∧ x = B y) bx := by
    rintro (e | ⟨y, hy, e⟩)
    · exact hbx e
    · exact (hlo y hy).2 e
  have hTS : ∀ z, z < L → ∀ x, x < n → ln x ≠ 0 → T x z = S x z := fun z hz x hx h0 => hT x hx z (by rw [(hO.lens x hx).resolve_right h0]; exact hz)
  obtain ⟨v1, v2, v3, v4, v5, v6⟩ := hO.val
  have hL7 : L ≤ 65536 := by
    have hs := pre_emp19 n ln
    have h0 : 0 < cnb (pre19 n ln) n := by have := hO.few; omega
    obtain ⟨a1, a2, -, -⟩ := pk19_get h0
    have h3 := hL6 _ a1
    rw [(hO.lens _ a1).resolve_right (pre19_iff.1 a2).2] at h3
    exact h3
  refine ⟨f, k, m, L, F, P, R', C', xa, xc, rfl, rfl, rfl, ⟨⟨v1, v2, v3, v4, v5, v6, hL7⟩, hO.lens, hO.few, fun z hz => ?_, fun z hz => cv_cw19 v1 (by omega) v5 (hO.pol z hz).1 (hO.pol z hz).2.1, fun x hx => ?_⟩, ⟨?_, ?_, ?_, ?_, fun x hx => hLw.row.cell hx, fun x hx => ?_, x1, x2, hbel w4 hO.ke⟩, ?_⟩
  · have h9 : cnb (fun x => pre19 n ln x && decide (cv19 f k (F z) x ≠ S x z)) n = cnb (fun x => pre19 n ln x && decide (cv19 f k (F z) x ≠ T x z)) n := by
      refine cnb_congr (fun x hx => ?_)
      (try dsimp only)
      cases hp : pre19 n ln x with
      | false => rw [Bool.false_and, Bool.false_and]
      | true => rw [hTS z hz x hx (pre19_iff.1 hp).2]
    rw [h9]
    exact (hO.pol z hz).2.2
  · rw [hP2 x hx]
    constructor
    · rintro ⟨h0, z, hz, h9⟩
      exact ⟨h0, z, hz, fun e => h9 (by rw [hTS z hz x hx h0]; exact e.symm)⟩
    · rintro ⟨h0, z, hz, h9⟩
      exact ⟨h0, z, hz, fun e => h9 (by rw [← hTS z hz x hx h0]; exact e.symm)⟩
  · rw [hO.ke.cell (cell_lt5 z.1) hE]; exact z.1
  · rw [hO.ke.cell (cell_lt5 z.2.1) hE]; exact z.2.1
  · rw [hO.ke.cell (cell_lt5 z.2.2.1) hE]; exact z.2.2.1
  · rw [hO.ke.cell (cell_lt5 z.2.2.2) hE]; exact z.2.2.2
  · exact ((hLw.rows x hx).rb0.cut8 (hLw.le x hx)).congr (fun z hz => (hR x hx).1 z hz)
  · rcases hP1 with h | ⟨g, c, H, a1, a2, a3, a4, a5⟩
    · exact .inl h
    · exact .inr ⟨g, c, H, a1, a2, Nat.le_trans b3.size a3, a4, a5⟩
theorem tells_a19 (f k m : Int) (bx n : Nat) (aS : Option Addr) (cS : Nat) (ln : Nat → Nat) (S : Nat → Nat → Nat) (w w2 : World) (hk : I64 k) (hS : Lb w (.slice aS n cS) n ln S) (b2 : Below w.heap.size w w2) (hn : n ≤ 1024) (hl : ∀ i, i < n → ln i ≤ 65536) (hbx : bx < w2.heap.size)
    (z : w2.cell? ⟨bx, 0, none⟩ = some (.int .i64 f) ∧ w2.cell? ⟨bx, 1, none⟩ = some (.int .i64 k) ∧ w2.cell? ⟨bx, 2, none⟩ = some (.int .i64 m) ∧ w2.cell? ⟨bx, 3, none⟩ = some (.slice aS n cS)) :
    Calls Try.prog 7 #[.slice aS n cS] w2 fun e w3 => ∃ sb, e = .returned (.slice (some ⟨sb, 0, none⟩) n n) ∧ (w3.cell? ⟨bx, 0, none⟩ = some (.int .i64 f) ∧ w3.cell? ⟨bx, 1, none⟩ = some (.int .i64 k) ∧ w3.cell? ⟨bx, 2, none⟩ = some (.int .i64 m)) ∧
    Calls Try.prog 8 #[.int .i64 f, .int .i64 k, .int .i64 m, .slice (some ⟨sb, 0, none⟩) n n] w3 fun e w4 => ∃ v y, e = .returned (.tuple #[v, .int .i64 y]) ∧ (y = 0 → Tg19 w w4 bx sb n f k m aS cS ln S v) ∧ (y ≠ 0 → v = .slice none 0 0 ∧ Th19 w w4 bx sb n aS cS) := by
  refine (twin19 _ n ln S w2 (hS.below b2) (by omega) (fun i hi => by have := hl i hi; omega)).mono ?_
  rintro e w3 ⟨C, B, T, rfl, hF, hT⟩
  have b23 := hF.bel
  have hc : ∀ {p : Addr} {v : Value}, p.block < w2.heap.size → w2.cell? p = some v → w3.cell? p = some v := fun h e => (b23.cell h).trans e
  have z' : w3.cell? ⟨bx, 0, none⟩ = some (.int .i64 f) ∧ w3.cell? ⟨bx, 1, none⟩ = some (.int .i64 k) ∧ w3.cell? ⟨bx, 2, none⟩ = some (.int .i64 m) ∧ w3.cell? ⟨bx, 3, none⟩ = some (.slice aS n cS) := ⟨hc hbx z.1, hc hbx z.2.1, hc hbx z.2.2.1, hc hbx z.2.2.2⟩
  have b3 : Below w.heap.size w w3 := b2.trans (b23.mono b2.size)
  have hB : ∀ x, x < n → w2.heap.size ≤ B x := fun x hx => (hF.rows x hx).1
  refine ⟨w2.heap.size, rfl, ⟨z'.1, z'.2.1, z'.2.2.1⟩, (shards_any19 f k m n w2.heap.size n B ln C T w3 hk hF.lw19 (Nat.le_refl _) (by unfold big; omega) (by omega) (fun x hx => by have := hl x hx; omega)).mono ?_⟩
  have kbel : ∀ W, Ke (fun x => x = w2.heap.size ∨ ∃ y, y < n ∧ x = B y) w3 W → Below w.heap.size w W := fun W hW => by
    have h1 : Below w2.heap.size w3 W := Ke.below hW (fun x e => by
      rcases e with e | ⟨y, hy, e⟩
      · omega
      · have := hB y hy; omega) b23.size
    exact b2.trans ((b23.trans (h1.mono (Nat.le_refl _))).mono b2.size)
  rintro e w4 (⟨f', k', m', L, v, F, rfl, rfl, rfl, rfl, hO⟩ | ⟨y, hy, rfl, hb⟩)
  · refine ⟨v, 0, rfl, fun _ => ?_, fun h => absurd rfl h⟩
    exact ok_tg19 hO b3 z' (hS.below b3) hT (fun x hx => ⟨Nat.le_trans b2.size (hB x hx), by have := hB x hx; omega⟩) b2.size (by omega) (fun W hW => hS.below (kbel W hW)) kbel hl
  · refine ⟨_, y, rfl, fun h => absurd h hy, fun _ => ⟨rfl, (hb.cell (cell_lt5 z'.2.2.2)).trans z'.2.2.2, b3.trans (hb.mono b3.size), ?_⟩⟩
    exact sm19_true _ _ n ln T S w4 ((hF.lw19.below hb).lb (Nat.le_refl _) (by unfold big; omega)) (hS.below (b3.trans (hb.mono b3.size))) hT
end Go.Proofs.Ytddpdmggccpclaa
namespace Go.Proofs.Ytddpdmggccpclaa
open Go.RowKit Gf2
set_option linter.unusedVariables false

set_option maxHeartbeats 8000000 in
set_option maxRecDepth 100000 in
theorem tells19 (f k m : Int) (aS : Option Addr) (cS n : Nat) (ln : Nat → Nat) (S : Nat → Nat → Nat) (w : World) (hk : I64 k) (hn : n ≤ 281474976710656) (hS : Lb w (.slice aS n cS) n ln S) :
    Calls Try.prog 3 #[.agg #[.int .i64 f, .int .i64 k, .int .i64 m, .slice aS n cS]] w fun e w' => e = .returned (.bool true) ∧ Below w.heap.size w w' := by
  have bW : Below w.heap.size w (w.alloc (.cells #[.int .i64 f, .int .i64 k, .int .i64 m, .slice aS n cS] 24)) := (Below.refl _ _).alloc (Nat.le_refl _) _
  have hblk : (w.alloc (.cells #[.int .i64 f, .int .i64 k, .int .i64 m, .slice aS n cS] 24)).heap[w.heap.size]? = some (.cells #[.int .i64 f, .int .i64 k, .int .i64 m, .slice aS n cS] 24 (0, 0)) := heap_alloc_new _ _
  have HZ : Hid (∀ W, Below (w.alloc (.cells #[.int .i64 f, .int .i64 k, .int .i64 m, .slice aS n cS] 24)).heap.size (w.alloc (.cells #[.int .i64 f, .int .i64 k, .int .i64 m, .slice aS n cS] 24)) W → W.cell? ⟨w.heap.size, 0, none⟩ = some (.int .i64 f) ∧ W.cell? ⟨w.heap.size, 1, none⟩ = some (.int .i64 k) ∧ W.cell? ⟨w.heap.size, 2, none⟩ = some (.int .i64 m) ∧ W.cell? ⟨w.heap.size, 3, none⟩ = some (.slice aS n cS) ∧ Below w.heap.size w W ∧ w.heap.size < W.heap.size) := fun W hW => by
    have h := (hW.block _ (Array.getElem?_eq_some_iff.1 hblk).1).trans hblk
    have b := bW.trans (hW.mono bW.size)
    exact ⟨by rw [cell_of_row _ _ 0 _ _ _ h]; rfl, by rw [cell_of_row _ _ 1 _ _ _ h]; rfl, by rw [cell_of_row _ _ 2 _ _ _ h]; rfl, by rw [cell_of_row _ _ 3 _ _ _ h]; rfl, b, (Array.getElem?_eq_some_iff.1 h).1⟩
  have c1 := awake19 (w.alloc (.cells #[.int .i64 f, .int .i64 k, .int .i64 m, .slice aS n cS] 24))
  have HS : Hid (I64 k ∧ Lb w (.slice aS n cS) n ln S ∧ Ln w (.slice aS n cS) n ln) := ⟨hk, hS, lb_ln19 hS hn⟩
  clear bW hblk hS hk hn
  go_enter Try.func3, Try.ntmps3
  go_upto_region 3 with (go_at_call 5; (with_reducible refine c1.mono ?_); rintro e w1 ⟨rfl, hb1⟩; clear c1; obtain ⟨z0, z1, z2, z3, hbw, hsz⟩ := HZ.out w1 hb1)
  have c2 := work19 f k m (.slice aS n cS) n ln w1 (HS.out.2.2.below hbw)
  have HB : Hid (Below (w.alloc (.cells #[.int .i64 f, .int .i64 k, .int .i64 m, .slice aS n cS] 24)).heap.size (w.alloc (.cells #[.int .i64 f, .int .i64 k, .int .i64 m, .slice aS n cS] 24)) w1) := hb1
  clear hb1 hbw hsz
  go_upto_region 5 with (go_at_call 6; (with_reducible refine c2.mono ?_); rintro e w2 ⟨zz, rfl, hzz, hb2⟩; have HQ : Hid _ := hzz; have HB2 : Hid _ := hb2; clear c2 hzz hb2)
  · go_ret
    exact ⟨rfl, (HZ.out w1 HB.out).2.2.2.2.1.trans (HB2.out.mono (HZ.out w1 HB.out).2.2.2.2.1.size)⟩
  have hq := HQ.out (by assumption)
  have B2 := HB.out.trans (HB2.out.mono HB.out.size)
  clear z0 z1 z2 z3
  obtain ⟨z0, z1, z2, z3, hbw, hsz⟩ := HZ.out w2 B2
  have c3 := tells_a19 f k m w.heap.size n aS cS ln S w w2 HS.out.1 HS.out.2.1 hbw hq.1 hq.2 hsz ⟨z0, z1, z2, z3⟩
  clear HQ HB HB2 B2 hbw hsz hq HZ z0 z1 z2
  go_upto_region 7 with (first
    | (go_at_call 7; (with_reducible refine c3.mono ?_); rintro e w3 ⟨sb, rfl, ⟨z0, z1, z2⟩, c4⟩; clear c3 z3)
    | (go_at_call 8; (with_reducible refine c4.mono ?_); rintro e w4 ⟨v, y, rfl, hOK, hNO⟩; have HOK : Hid _ := hOK; have HNO : Hid _ := hNO; clear c4 z0 z1 z2 hOK hNO))
  clear HS
  by_cases hy : y = 0
  case neg =>
    obtain ⟨rfl, z3, hb4, c5⟩ := HNO.out hy
    have hyb : (y != 0) = true := by simpa using hy
    have HB4 : Hid _ := hb4
    clear HNO HOK hb4 hy
    go_wp2_with (go_at_call 9; (with_reducible refine c5.mono ?_); rintro e w5 ⟨rfl, q, rfl⟩; clear c5)
    go_ret
    exact ⟨rfl, below_drewN HB4.out q⟩
  subst hy
  obtain ⟨f', k', m', L, F, P, R, C, xa, xc, rfl, rfl, rfl, hf, hl, hG⟩ := HOK.out rfl
  have HF : Hid (Tf19 f' k' m' n L ln S F P) := hf
  have HL : Hid (∀ W, Below w4.heap.size w4 W → Tl19 w W w.heap.size sb n L f' k' m' aS cS ln R C xa xc S (fun x z => cv19 f' k' (F z) x) ∧ Gj w.heap.size W v (cnb P n) (fsel P (fun j => j) n)) := fun W hW => ⟨hl.below hW, hG.below hW⟩
  have z0 := hl.z0
  have z1 := hl.z1
  have z2 := hl.z2
  have z3 := hl.z3
  have c5 := valid19 f' k' m' w4 hf.val.1 hf.val.2.1 hf.val.2.2.1 (by have := hf.val; omega)
  have Wn : wrap64 ((k' : Int) + (m' : Int)) = (n : Int) := by have := hf.val; unfold wrap64; omega
  have HN : Hid (1 ≤ L ∧ 2 ≤ n ∧ n ≤ 256 ∧ L ≤ 65536) := by have := hf.val; exact ⟨by omega, by omega, by omega, by omega⟩
  clear HOK HNO hf hl hG
  go_wp2_with (go_at_call 10; (with_reducible refine c5.mono ?_); rintro e w9 ⟨rfl, hw9⟩; have hw9 := hw9.symm; subst hw9; clear c5)
  clear Wn z0 z1 z2 z3
  go_loopw [6, 7, 8] (fun mi l s wr => ∃ i : Nat, i ≤ n ∧ s = .int .i64 (i : Int) ∧ mi = .int .i64 ((cnb (emp ln) i : Nat) : Int) ∧ Gj w4.heap.size wr l (cnb P i) (fsel P (fun j => j) i) ∧ Below w4.heap.size w4 wr) (fun _ _ s _ => n - (intOf s).toNat)
  case atStart => exact ⟨0, Nat.zero_le _, rfl, rfl, Gj.start _ _ _, Below.refl _ _⟩
  case round =>
    obtain ⟨i, hi, rfl, rfl, hG, hb⟩ := hrel
    by_cases hlt : i < n
    · obtain ⟨hl, -⟩ := HL.out wr hb
      have q1 := hl.lst i hlt
      have q0 := hl.lst 0 (by omega)
      obtain ⟨b, o, ea, -⟩ := hl.arg i hlt
      subst ea
      have ib : ((i : Nat) : Int) < (n : Int) := Int.ofNat_lt.2 hlt
      have n0 : (0 : Int) < (n : Int) := by omega
      have n0N : 0 < n := by omega
      have L0 : (((L : Nat) : Int) == 0) = false := by have := HN.out; simp; omega
      have L0N : ¬ L = 0 := by have := HN.out; omega
      have HR : Hid (i < n ∧ Gj w4.heap.size wr u7 (cnb P i) (fsel P (fun j => j) i) ∧ Below w4.heap.size w4 wr) := ⟨hlt, hG, hb⟩
      have HW1 : Hid (wrap64 ((i : Int) + 1) = (i : Int) + 1) := wrap_lt8 (j := i) (b := n) hlt (by have := HN.out; omega)
      clear hl hG hb hi hlt
      go_upto_region 16 with (fail)
      go_quiet (fail)
      go_upto_region 18 with (fail)
      clear q0 q1
      obtain ⟨wa, hwa⟩ : ∃ wa, wa = wr.drewN nq := ⟨_, rfl⟩
      rw [← hwa]
      have HA : Hid (i < n ∧ Gj w4.heap.size wa u7 (cnb P i) (fsel P (fun j => j) i) ∧ Below w4.heap.size w4 wa) := ⟨HR.out.1, by rw [hwa]; exact HR.out.2.1.below (below_drewN (Below.refl _ _) _), by rw [hwa]; exact below_drewN HR.out.2.2 nq⟩
      clear hwa HR
      obtain ⟨hl, -⟩ := HL.out wa HA.out.2.2
      have z3 := hl.z3
      obtain ⟨b', o', ea, q2⟩ := hl.arg i HA.out.1
      cases ea
      have q1 := hl.lst i HA.out.1
      by_cases h0 : ln i = 0
      · rw [h0] at q2
        have hp : P i = false := by
          cases e : P i with
          | false => rfl
          | true => exact absurd h0 ((HF.out.told i HA.out.1).1 e).1
        have he : emp ln i = true := by show (ln i == 0) = true; simp [h0]
        have HE : Hid (i < n ∧ cnb (emp ln) (i + 1) = cnb (emp ln) i + 1 ∧ Gj w4.heap.size wa u7 (cnb P (i + 1)) (fsel P (fun j => j) (i + 1)) ∧ Below w4.heap.size w4 wa) := ⟨HA.out.1, cnb_yes he, by rw [cnb_no hp, fsel_no hp]; exact HA.out.2.1, HA.out.2.2⟩
        have hci : cnb (emp ln) i ≤ 256 := Nat.le_trans (cnb_le19 _ _) (by have := HN.out; have := HA.out.1; omega)
        generalize cnb (emp ln) i = ci at *
        have W2 := wrap_succ8 (j := ci) (by unfold big; omega)
        have W1 := HW1.out
        clear hl hp he h0 hci HA
        go_wp2
        go_roundw
        case rel => exact ⟨i + 1, HE.out.1, by first | rfl | (rw [W1]; rfl), by rw [HE.out.2.1]; first | rfl | (rw [W2]; rfl), HE.out.2.2.1, HE.out.2.2.2⟩
        case measure => first | exact meas_lt8 HE.out.1 | (rw [W1]; exact meas_lt8 HE.out.1)
      · have hL := (HF.out.lens i HA.out.1).resolve_right h0
        rw [hL] at q2
        clear hl
        go_upto_region 20 with (fail)
        go_quiet (fail)
        go_upto_region 22 with (fail)
        clear q1 q2 z3
        obtain ⟨wb, hwb⟩ : ∃ wb, wb = wa.drewN nq := ⟨_, rfl⟩
        rw [← hwb]
        have HB : Hid (i < n ∧ Gj w4.heap.size wb u7 (cnb P i) (fsel P (fun j => j) i) ∧ Below w4.heap.size w4 wb) := ⟨HA.out.1, by rw [hwb]; exact HA.out.2.1.below (below_drewN (Below.refl _ _) _), by rw [hwb]; exact below_drewN HA.out.2.2 nq⟩
        clear hwb HA
        obtain ⟨hl, -⟩ := HL.out wb HB.out.2.2
        have z3 := hl.z3
        obtain ⟨b', o', ea, q2⟩ := hl.arg i HB.out.1
        cases ea
        have q1 := hl.lst i HB.out.1
        have hr := hl.arb i HB.out.1
        rw [hL] at q2 hr
        have c6 : ∀ q, Calls Try.prog 11 #[.slice (xa i) L (xc i), .slice (some ⟨R i, 0, none⟩) L (C i)] (wb.drewN q) fun e w' => e = .returned (.bool (!P i)) ∧ ∃ m, w' = (wb.drewN q).drewN m := fun q => sb_dec19 _ _ L _ _ _ (hr.drewN q) ((hl.byt i HB.out.1).drewN q) (P i) (by
          rw [HF.out.told i HB.out.1]
          exact ⟨fun h => h.2, fun h => ⟨h0, h⟩⟩)
        have he : emp ln i = false := by show (ln i == 0) = false; simp [h0]
        have HC : Hid (cnb (emp ln) (i + 1) = cnb (emp ln) i) := cnb_no he
        clear hl hr hL h0 he
        cases hp : P i with
        | false =>
          rw [hp] at c6
          have HE : Hid (∀ q, i < n ∧ Gj w4.heap.size (wb.drewN q) u7 (cnb P (i + 1)) (fsel P (fun j => j) (i + 1)) ∧ Below w4.heap.size w4 (wb.drewN q)) := fun q => ⟨HB.out.1, by rw [cnb_no hp, fsel_no hp]; exact HB.out.2.1.below (below_drewN (Below.refl _ _) q), below_drewN HB.out.2.2 q⟩
          generalize cnb (emp ln) i = ci at *
          clear hp HB
          go_quiet ((go_at_call 11; with_reducible exact Calls.quiet_of (c6 _)))
          clear c6
          have W1 := HW1.out
          go_wp2
          go_roundw
          case rel => exact ⟨i + 1, (HE.out 0).1, by first | rfl | (rw [W1]; rfl), by rw [HC.out], (HE.out _).2.1, (HE.out _).2.2⟩
          case measure => first | exact meas_lt8 (HE.out 0).1 | (rw [W1]; exact meas_lt8 (HE.out 0).1)
        | true =>
          rw [hp] at c6
          go_quiet ((go_at_call 11; with_reducible exact Calls.quiet_of (c6 _)))
          clear c6 q1 q2 z3
          obtain ⟨wc, hwc⟩ : ∃ wc, wc = wb.drewN nq := ⟨_, rfl⟩
          rw [← hwc]
          have hGc : Gj w4.heap.size wc u7 (cnb P i) (fsel P (fun j => j) i) := by rw [hwc]; exact HB.out.2.1.below (below_drewN (Below.refl _ _) _)
          have hbc : Below w4.heap.size w4 wc := by rw [hwc]; exact below_drewN HB.out.2.2 nq
          obtain ⟨w', v', hrun, hG2, hb2⟩ := app_gj hGc hbc.size ((i : Nat) : Int) (by have := cnb_le19 P i; have := HB.out.1; have := HN.out; omega)
          have HE : Hid (i < n ∧ Gj w4.heap.size w' v' (cnb P (i + 1)) (fsel P (fun j => j) (i + 1)) ∧ Below w4.heap.size w4 w') := ⟨HB.out.1, by rw [cnb_yes hp, fsel_yes hp]; exact hG2, hbc.trans (hb2.mono (Nat.le_refl _))⟩
          generalize cnb (emp ln) i = ci at *
          clear hp HB hwc hGc hbc hG2 hb2
          have W1 := HW1.out
          go_wp2_with (at_builtin; refine Lib.wpList_append_run _ rfl _ _ _ _ rfl _ _ rfl rfl _ _ hrun ?_)
          go_roundw
          case rel => exact ⟨i + 1, HE.out.1, by first | rfl | (rw [W1]; rfl), by rw [HC.out], HE.out.2.1, HE.out.2.2⟩
          case measure => first | exact meas_lt8 HE.out.1 | (rw [W1]; exact meas_lt8 HE.out.1)
    · have ib : ¬ ((i : Nat) : Int) < (n : Int) := by omega
      have hin : i = n := by omega
      rw [hin] at hG
      rw [hin]
      obtain ⟨hl, hGv⟩ := HL.out wr hb
      have z2 := hl.z2
      have c7 := si19_true v u7 (cnb P n) _ _ wr hGv.qi hG.qi (fun _ _ => rfl)
      have HB : Hid (Below w4.heap.size w4 wr) := hb
      have hfew : ¬ ((m' : Nat) : Int) < ((cnb (emp ln) n : Nat) : Int) := by have := HF.out.few; omega
      clear hl hGv hG hb hi hlt hin ib
      have ib : ¬ ((n : Nat) : Int) < (n : Int) := by omega
      go_wp2_with (go_at_call 12; (with_reducible refine c7.mono ?_); rintro e w5 ⟨rfl, q5, hw5⟩; have HB5 : Hid (Below w4.heap.size w4 w5) := (by rw [hw5]; exact below_drewN HB.out q5); clear c7 hw5 z2; have z2 := (HL.out w5 HB5.out).1.z2)
      obtain ⟨ms, hms⟩ : ∃ ms, Hid (cnb (emp ln) n = ms) := ⟨_, rfl⟩
      rw [hms.out]
      clear z2 hfew HB ib
      go_loopw [9] (fun s wr => ∃ t : Nat, t ≤ L ∧ s = .int .i64 (t : Int) ∧ Below w4.heap.size w4 wr) (fun s _ => L - (intOf s).toNat)
      case atStart => exact ⟨0, Nat.zero_le _, rfl, HB5.out⟩
      case round =>
        obtain ⟨t, ht, rfl, hb⟩ := hrel
        clear HB5
        obtain ⟨hl, -⟩ := HL.out wr hb
        have q0 := hl.lst 0 (by have := HN.out; omega)
        have n0 : (0 : Int) < (n : Int) := by have := HN.out; omega
        have n0N : 0 < n := by have := HN.out; omega
        by_cases htl : t < L
        · have ib : ((t : Nat) : Int) < (L : Int) := Int.ofNat_lt.2 htl
          have hmk := make_u8 n (by have := HN.out; omega)
          have r0 := made_rw n (by have := HN.out; omega) wr
          have bd : Below wr.heap.size wr (wr.alloc (.cells (madeCells #[.int .u8 0] n) 5)) := (Below.refl _ _).alloc (Nat.le_refl _) _
          obtain ⟨wd, hwd⟩ : ∃ wd, Hid (wr.alloc (.cells (madeCells #[.int .u8 0] n) 5) = wd) := ⟨_, rfl⟩
          rw [hwd.out] at r0 bd
          obtain ⟨gc, hgc⟩ : ∃ gc, Hid (wr.heap.size = gc) := ⟨_, rfl⟩
          rw [hgc.out] at r0
          have HT : Hid (t < L ∧ Below w4.heap.size w4 wr ∧ w4.heap.size ≤ gc) := ⟨htl, hb, by rw [← hgc.out]; exact hb.size⟩
          have HD : Hid (Rw wd gc n (fun _ => 0) ∧ Below w4.heap.size w4 wd) := ⟨r0, hb.trans (bd.mono hb.size)⟩
          have ibt : ((t : Nat) : Int) < (L : Int) := ib
          clear hl hb ht htl r0 bd
          go_wp2
          rw [hwd.out, hgc.out]
          clear hwd hmk q0 n0 n0N
          obtain ⟨D, hD⟩ : ∃ D : Nat → Bool, Hid (D = fun x => pre19 n ln x && decide (cv19 f' k' (F t) x ≠ S x t)) := ⟨_, rfl⟩
          go_loopw [11, 12] (fun c s wr => ∃ i : Nat, i ≤ n ∧ s = .int .i64 (i : Int) ∧ c = .int .i64 ((cnb D i : Nat) : Int) ∧ Rw wr gc n (fun x => if x < i then cv19 f' k' (F t) x else 0) ∧ Below w4.heap.size w4 wr) (fun _ s _ => n - (intOf s).toNat)
          case atStart => exact ⟨0, Nat.zero_le _, rfl, rfl, HD.out.1.congr (fun x _ => (if_neg (Nat.not_lt_zero _)).symm), HD.out.2⟩
          case round =>
            obtain ⟨i, hi, rfl, rfl, hr, hb⟩ := hrel
            clear HD
            obtain ⟨hl, -⟩ := HL.out wr hb
            by_cases hlt : i < n
            · have ib : ((i : Nat) : Int) < (n : Int) := Int.ofNat_lt.2 hlt
              have q1 := hl.lst i hlt
              have q3 := hl.new hlt HT.out.1
              have q4 := hr.2.2.cell hlt
              have q5 := hr.2.2.frozen i
              have hcl : cv19 f' k' (F t) i < 256 := fm8_lt _ _
              have r2 := (hr.set i (cv19 f' k' (F t) i) hcl).congr (G := fun x => if x < i + 1 then cv19 f' k' (F t) x else 0) (fun x _ => upd_19 (V := fun x => cv19 f' k' (F t) x))
              have b2 : Below w4.heap.size w4 (wr.setCell ⟨gc, i, none⟩ (.int .u8 (cv19 f' k' (F t) i : Nat))) := hb.setCell HT.out.2.2 _
              obtain ⟨we, hwe⟩ : ∃ we, Hid (wr.setCell ⟨gc, i, none⟩ (.int .u8 (cv19 f' k' (F t) i : Nat)) = we) := ⟨_, rfl⟩
              rw [hwe.out] at r2 b2
              obtain ⟨hl2, -⟩ := HL.out we b2
              have q6 : we.cell? ⟨gc, i, none⟩ = some (.int .u8 ((cv19 f' k' (F t) i : Nat) : Int)) := (r2.2.2.cell hlt).trans (by dsimp only; rw [if_pos (show i < i + 1 by omega)])
              have z3 := hl2.z3
              obtain ⟨b, o, ea, q2⟩ := hl2.arg i hlt
              subst ea
              have HW1 : Hid (wrap64 ((i : Int) + 1) = (i : Int) + 1) := wrap_lt8 (j := i) (b := n) hlt (by have := HN.out; omega)
              have HX : Hid (∀ q, i < n ∧ Rw (we.drewN q) gc n (fun x => if x < i + 1 then cv19 f' k' (F t) x else 0) ∧ Below w4.heap.size w4 (we.drewN q)) := fun q => ⟨hlt, r2.drewN q, below_drewN b2 q⟩
              generalize hcv : cv19 f' k' (F t) i = cvi at *
              by_cases h0 : ln i = 0
              · have hDi : D i = false := by
                  rw [hD.out]
                  show (pre19 n ln i && _) = false
                  cases e : pre19 n ln i with
                  | false => rfl
                  | true => exact absurd h0 (pre19_iff.1 e).2
                have HC : Hid (cnb D (i + 1) = cnb D i) := cnb_no hDi
                rw [h0] at q2
                clear hl hl2 hr hb hi hlt r2 b2 h0 hDi hcv hcl
                go_upto_region 35 with (fail)
                rw [hwe.out]
                clear q1 q3 q4 q5
                go_quiet (fail)
                have W1 := HW1.out
                go_wp2
                go_roundw
                case rel => exact ⟨i + 1, (HX.out 0).1, by first | rfl | (rw [W1]; rfl), by rw [HC.out], (HX.out _).2.1, (HX.out _).2.2⟩
                case measure => first | exact meas_lt8 (HX.out 0).1 | (rw [W1]; exact meas_lt8 (HX.out 0).1)
              · have hL := (HF.out.lens i hlt).resolve_right h0
                obtain ⟨xb, xo, ex, q7⟩ := hl2.at_ hlt (z := t) (by rw [hL]; exact HT.out.1)
                have L0 : (0 : Int) < (L : Int) := by have := HN.out; omega
                have L0N : 0 < L := by have := HN.out; omega
                have L0d : decide ((0 : Int) < (L : Int)) = true := decide_eq_true L0
                have L0e : decide (0 < L) = true := decide_eq_true L0N
                have hpi : pre19 n ln i = true := pre19_iff.2 ⟨hlt, h0⟩
                rw [hL, ex] at q2
                by_cases hv : S i t = cvi
                · have hDi : D i = false := by
                    rw [hD.out]
                    show (pre19 n ln i && decide (cv19 f' k' (F t) i ≠ S i t)) = false
                    rw [hcv, hv]
                    simp
                  have HC : Hid (cnb D (i + 1) = cnb D i) := cnb_no hDi
                  rw [hv] at q7
                  clear hl hl2 hr hb hi hlt r2 b2 h0 hDi hcv hcl hpi hL ex hv
                  go_upto_region 35 with (fail)
                  rw [hwe.out]
                  clear q1 q3 q4 q5
                  go_quiet (fail)
                  have W1 := HW1.out
                  go_wp2
                  go_roundw
                  case rel => exact ⟨i + 1, (HX.out 0).1, by first | rfl | (rw [W1]; rfl), by rw [HC.out], (HX.out _).2.1, (HX.out _).2.2⟩
                  case measure => first | exact meas_lt8 (HX.out 0).1 | (rw [W1]; exact meas_lt8 (HX.out 0).1)
                · have hDi : D i = true := by
                    rw [hD.out]
                    show (pre19 n ln i && decide (cv19 f' k' (F t) i ≠ S i t)) = true
                    rw [hcv, hpi]
                    simp
                    exact fun e => hv e.symm
                  have HC : Hid (cnb D (i + 1) = cnb D i + 1) := cnb_yes hDi
                  have hne : (((S i t : Nat) : Int) != ((cvi : Nat) : Int)) = true := by simp; omega
                  have hci : cnb D i ≤ 256 := Nat.le_trans (cnb_le19 _ _) (by have := HN.out; omega)
                  generalize S i t = si at *
                  generalize cnb D i = ci at *
                  have HW2 : Hid (wrap64 ((ci : Int) + 1) = (ci : Int) + 1) := wrap_succ8 (j := ci) (by unfold big; omega)
                  clear hl hl2 hr hb hi hlt r2 b2 h0 hDi hcv hcl hpi hL ex hci
                  go_upto_region 35 with (fail)
                  rw [hwe.out]
                  clear q1 q3 q4 q5
                  go_quiet (fail)
                  have W1 := HW1.out
                  have W2 := HW2.out
                  go_wp2
                  go_roundw
                  case rel => exact ⟨i + 1, (HX.out 0).1, by first | rfl | (rw [W1]; rfl), by rw [HC.out]; first | rfl | (rw [W2]; rfl), (HX.out _).2.1, (HX.out _).2.2⟩
                  case measure => first | exact meas_lt8 (HX.out 0).1 | (rw [W1]; exact meas_lt8 (HX.out 0).1)
            · have hin : i = n := by omega
              rw [hin] at hr
              rw [hin]
              have z0 := hl.z0
              have z1 := hl.z1
              have z2 := hl.z2
              have hRb : Rb wr (.slice (some ⟨gc, 0, none⟩) n n) n (cv19 f' k' (F t)) := hr.rb0.congr (fun x hx => if_pos hx)
              have c8 := isColumn19 f' k' m' n _ _ wr hRb HF.out.val.1 HF.out.val.2.1 HF.out.val.2.2.2.1 HF.out.val.2.2.2.2.1 (HF.out.cw t HT.out.1)
              have hcnt := HF.out.cnt t HT.out.1
              have hfew := HF.out.few
              rw [← hD.out, hms.out] at hcnt
              rw [hms.out] at hfew
              have hm9 : m' ≤ 256 := by have := HF.out.val; omega
              have hD9 : cnb D n ≤ 256 := Nat.le_trans (cnb_le19 _ _) HN.out.2.2.1
              generalize cnb D n = cD at *
              obtain ⟨c2, hc2⟩ : ∃ c2, c2 = 2 * cD := ⟨_, rfl⟩
              obtain ⟨d, hd⟩ : ∃ d, d = m' - ms := ⟨_, rfl⟩
              have ile : ¬ (d : Int) < (c2 : Int) := by omega
              have HW3 : Hid (wrap64 (2 * (cD : Int)) = (c2 : Int)) := by show _ = _; unfold wrap64; omega
              have HW4 : Hid (wrap64 ((m' : Int) - (ms : Int)) = (d : Int)) := by show _ = _; clear HW3; unfold wrap64; omega
              have HW5 : Hid (wrap64 ((t : Int) + 1) = (t : Int) + 1) := wrap_succ8 (j := t) (by have := HT.out.1; have := HN.out; unfold big; omega)
              have HB : Hid (Below w4.heap.size w4 wr) := hb
              clear hl hr hb hi hlt hin hRb hcnt hfew hm9 hD9 hc2 hd
              have ib : ¬ ((n : Nat) : Int) < (n : Int) := by omega
              have W3 := HW3.out
              have W4 := HW4.out
              go_wp2_with (go_at_call 13; (with_reducible refine c8.mono ?_); rintro e w9 ⟨rfl, hw9⟩; have hw9 := hw9.symm; subst hw9; clear c8 W3 W4; have W5 := HW5.out)
              go_roundw
              case rel => exact ⟨t + 1, HT.out.1, by first | rfl | (rw [W5]; rfl), HB.out⟩
              case measure => first | exact meas_lt8 HT.out.1 | (rw [W5]; exact meas_lt8 HT.out.1)
        · have ib : ¬ ((t : Nat) : Int) < (L : Int) := by omega
          have HB : Hid (Below w.heap.size w wr) := hl.bel
          clear hl hb ht htl
          go_wp2
          go_ret
          exact ⟨rfl, HB.out⟩
end Go.Proofs.Ytddpdmggccpclaa
