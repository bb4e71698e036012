import Derived.Test.YtjoaagkhanbhiaaSlz
namespace Go.Proofs.Ytjoaagkhanbhiaa
open Go.RowKit Gf2
set_option linter.unusedVariables false

set_option maxHeartbeats 2000000 in
set_option maxRecDepth 100000 in
theorem same7_true (u v : Value) (n : Nat) (F : Nat → Nat) (w : World) (h : Rb w u n F) (k : Rb w v n F) :
    Calls Try.prog 8 #[u, v] w fun e w' => e = .returned (.bool true) ∧ ∃ m, w' = w.drewN m := by
  obtain ⟨hn, hF, a, cap, rfl, -, -, h4⟩ := h
  obtain ⟨-, -, c, cap', rfl, -, -, k4⟩ := k
  go_enter Try.func8, Try.ntmps8
  go_wp2
  go_loopw [5] (fun i wr => ∃ k m : Nat, k ≤ n ∧ i = .int .i64 k ∧ wr = w.drewN m) (fun i _ => n - (intOf i).toNat)
  case atStart => exact ⟨0, 0, Nat.zero_le _, rfl, rfl⟩
  case round =>
    obtain ⟨k, m, hk, rfl, hw⟩ := hrel
    by_cases hlt : k < n
    · obtain ⟨b, o, rfl, -, hc⟩ := h4 (by omega)
      obtain ⟨b', o', rfl, -, hc'⟩ := k4 (by omega)
      have q1 : wr.cell? ⟨b, o + k, none⟩ = some (.int .u8 (F k : Nat)) := by rw [hw]; exact hc k hlt
      have q2 : wr.cell? ⟨b', o' + k, none⟩ = some (.int .u8 (F k : Nat)) := by rw [hw]; exact hc' k hlt
      have HW : Hid (wr = w.drewN m) := hw
      have ib : ((k : Nat) : Int) < (n : Int) := by omega
      have W1 := wrap_succ8 (j := k) (by omega)
      have HN : Hid (n ≤ big) := hn
      clear hc hc' hw h4 k4 hF hn
      go_wp2
      go_quiet (fail)
      go_wp2
      go_roundw
      case rel => exact ⟨k + 1, m + nq, hlt, by first | rfl | (rw [W1]; rfl), by rw [HW.out, World.drewN_drewN]⟩
      case measure => first | exact meas_lt8 hlt | (rw [W1]; exact meas_lt8 hlt)
    · have hk5 : k = n := by omega
      subst hk5
      subst hw
      go_wp2
      go_ret
      exact ⟨rfl, _, rfl⟩


theorem sk_below {W W' : World} {p : Addr} {lo hi : Nat} (h : Sk W p lo hi) (hb : Below W.heap.size W W') : Sk W' p lo hi :=
  h.keep (Nat.le_trans h.hi hb.size) (fun b h1 h2 => hb.block b (by have := h.hi; omega))
theorem sk_kp {W W' : World} {p : Addr} {lo hi g : Nat} (h : Sk W p lo hi) (ho : Kp g W W') (hg : g < lo ∨ hi ≤ g) : Sk W' p lo hi :=
  h.keep (Nat.le_trans h.hi ho.size) (fun b h1 h2 => ho.2 b (by have := h.hi; omega) (by omega))
theorem pl_head (F S : Nat → Nat) {n i : Nat} (h : i < n) : pl F 0 n S i = S i := by
  have := pl_in (F := F) (o := 0) (S := S) h
  rwa [Nat.zero_add] at this

theorem rb_cap {w : World} {x : Option Addr} {n m cx : Nat} {S : Nat → Nat} (h : Rb w (.slice x n cx) m S) : n ≤ cx := by
  obtain ⟨_, _, a, c, e, h1, _, _⟩ := h
  cases e
  exact h1
section
variable {W0 W : World} {K : Nat} {N B : Nat → Nat} {G : Nat → Nat → Nat} {p : Addr} {lo hi : Nat}
theorem Ow.sk (h : Ow W0 K N B G W) (hk : Sk W0 p lo hi) : Sk W p lo hi := sk_below hk h.1
/-- row t becomes c times a list apart from it. -/
theorem sw_mul (h : Ow W0 K N B G W) (hk : Sk W0 p lo hi) (t c n : Nat) {b : Nat} (ca cx : Nat) (hca : n ≤ ca) (hcx : n ≤ cx) {x : Option Addr} {S : Nat → Nat} (hb : b = B t) (ht : t < K) (nt : N t = n) (hc : c < 256) (hv : Fk W (B t) n x S) :
    Calls Try.prog 18 #[.pointer (some p), .int .u8 (c : Int), .slice (some ⟨b, 0, none⟩) n ca, .slice x n cx] W fun e w' => e = .returned (.int .i64 0) ∧ Ow W0 K N B (upn G t (fun i => fm 285 c (S i))) w' ∧ Kp b W w' := by
  subst hb
  have hr := h.row ht
  have hl := h.lo ht
  have hh := hk.hi
  refine (smul_far p lo hi c n (B t) 0 n (G t) S _ x ca cx hca hcx W (h.sk hk) hc (nt ▸ hr.1) (.inr (by omega)) (nt ▸ hr) (fun _ => rfl) (by omega) hv).mono fun e w' ⟨a1, a2, a3⟩ => ⟨a1, h.turn ht a2 ?_, a2⟩
  rw [nt]
  exact a3.congr (fun i hi => pl_head _ _ hi)
theorem sw_add (h : Ow W0 K N B G W) (hk : Sk W0 p lo hi) (t c n : Nat) {b : Nat} (ca cx : Nat) (hca : n ≤ ca) (hcx : n ≤ cx) {x : Option Addr} {S : Nat → Nat} (hb : b = B t) (ht : t < K) (nt : N t = n) (hc : c < 256) (hv : Fk W (B t) n x S) :
    Calls Try.prog 20 #[.pointer (some p), .int .u8 (c : Int), .slice (some ⟨b, 0, none⟩) n ca, .slice x n cx] W fun e w' => e = .returned (.int .i64 0) ∧ Ow W0 K N B (upn G t (fun i => G t i ^^^ fm 285 c (S i))) w' ∧ Kp b W w' := by
  subst hb
  have hr := h.row ht
  have hl := h.lo ht
  have hh := hk.hi
  refine (sadd_far p lo hi c n (B t) 0 n (G t) S _ x ca cx hca hcx W (h.sk hk) hc (nt ▸ hr.1) (.inr (by omega)) (nt ▸ hr) (fun _ => rfl) (by omega) hv).mono fun e w' ⟨a1, a2, a3⟩ => ⟨a1, h.turn ht a2 ?_, a2⟩
  rw [nt]
  exact a3.congr (fun i hi => by rw [pl_head _ _ hi, Nat.zero_add])
/-- row t in its place. -/
theorem sw_same (h : Ow W0 K N B G W) (hk : Sk W0 p lo hi) (t c n : Nat) {b : Nat} (ca cx : Nat) (hca : n ≤ ca) (hcx : n ≤ cx) (hb : b = B t) (ht : t < K) (nt : N t = n) (hc : c < 256) :
    Calls Try.prog 18 #[.pointer (some p), .int .u8 (c : Int), .slice (some ⟨b, 0, none⟩) n ca, .slice (some ⟨b, 0, none⟩) n cx] W fun e w' => e = .returned (.int .i64 0) ∧ Ow W0 K N B (upn G t (fun i => fm 285 c (G t i))) w' ∧ Kp b W w' := by
  subst hb
  have hr := h.row ht
  have hl := h.lo ht
  have hh := hk.hi
  refine (smul_same p lo hi c n (B t) 0 n (G t) _ ca cx hca hcx W (h.sk hk) hc (nt ▸ hr.1) (.inr (by omega)) (nt ▸ hr) (fun _ => rfl) (by omega)).mono fun e w' ⟨a1, a2, a3⟩ => ⟨a1, h.turn ht a2 ?_, a2⟩
  rw [nt]
  exact a3.congr (fun i hi => by rw [pl_head _ _ hi, Nat.zero_add])
theorem sw_equal (h : Ow W0 K N B G W) {u v : Value} (n : Nat) {S T : Nat → Nat} (hu : Rb W u n S) (hv : Rb W v n T) (he : ∀ i, i < n → S i = T i) :
    Calls Try.prog 8 #[u, v] W fun e w' => e = .returned (.bool true) ∧ Ow W0 K N B G w' :=
  (same7_true u v n T W (hu.congr he) hv).mono fun e w' ⟨a1, m, a2⟩ => ⟨a1, by subst a2; exact h.drewN m⟩
theorem Ow.lit7 (h : Ow W0 K N B G W) (l : List Nat) (hl : ∀ x ∈ l, x < 256) (hn : l.length ≤ 1000) :
    Ow W0 (K + 1) (upn N K l.length) (upn B K W.heap.size) (upn G K (fun i => l.getD i 0)) (W.alloc (.cells (l.map (fun n : Nat => Value.int .u8 (n : Int))).toArray 5)) :=
  h.more ((Below.refl _ _).alloc (Nat.le_refl _) _) (Nat.le_refl _) (lit_rw l W hl hn)
theorem Ow.made7 (h : Ow W0 K N B G W) (n : Nat) (hn : n ≤ 140737488355328) :
    Ow W0 (K + 1) (upn N K n) (upn B K W.heap.size) (upn G K (fun _ => 0)) (W.alloc (.cells (madeCells #[.int .u8 0] n) 5)) :=
  h.more ((Below.refl _ _).alloc (Nat.le_refl _) _) (Nat.le_refl _) (made_rw n hn W)
end
end Go.Proofs.Ytjoaagkhanbhiaa
