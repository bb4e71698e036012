import Derived.Test.YtdnjddnjaekgeaaNbb
import Derived.Test.YtdnjddnjaekgeaaNkz
namespace Go.Proofs.Ytdnjddnjaekgeaa
open Go.RowKit Gf2
set_option linter.unusedVariables false

theorem nk_below {W W' : World} {p : Addr} {lo hi : Nat} (h : Nk W p lo hi) (hb : Below W.heap.size W W') : Nk W' p lo hi :=
  h.keep (Nat.le_trans h.hi hb.size) (fun b h1 h2 => hb.block b (by have := h.hi; omega))
theorem nk_kp {W W' : World} {p : Addr} {lo hi g : Nat} (h : Nk W p lo hi) (ho : Kp g W W') (hg : g < lo ∨ hi ≤ g) : Nk W' p lo hi :=
  h.keep (Nat.le_trans h.hi ho.size) (fun b h1 h2 => ho.2 b (by have := h.hi; omega) (by omega))

section
variable {W0 W : World} {K : Nat} {N B : Nat → Nat} {G : Nat → Nat → Nat} {p : Addr} {lo hi : Nat}
theorem Ow.nk (h : Ow W0 K N B G W) (hk : Nk W0 p lo hi) : Nk W p lo hi := nk_below hk h.1
/-- row t becomes c times a list apart from it. -/
theorem ow_mul (h : Ow W0 K N B G W) (hk : Nk W0 p lo hi) (t c n : Nat) {b : Nat} (ca cx : Nat) {x : Option Addr} {S : Nat → Nat} (hb : b = B t) (ht : t < K) (nt : N t = n) (hc : c < 256) (hv : Fk W (B t) n x S) :
    Calls Try.prog 14 #[.pointer (some p), .int .u8 (c : Int), .slice (some ⟨b, 0, none⟩) n ca, .slice x n cx] W fun e w' => e = .returned (.int .i64 0) ∧ Ow W0 K N B (upn G t (fun i => fm 285 c (S i))) w' := by
  subst hb
  have hr := h.row ht
  have hl := h.lo ht
  have hh := hk.hi
  refine (nmul_gen p lo hi c n (B t) 0 n (G t) (fun _ => S) _ x ca cx W (h.nk hk) hc (nt ▸ hr.1) (.inr (by omega)) (nt ▸ hr) (fun _ => ⟨rfl, by omega⟩) (fun h0 => hv.reads h0)).mono fun e w' ⟨a1, a2, a3⟩ => ⟨a1, h.turn ht a2 ?_⟩
  rw [nt]
  exact a3.congr (fun i hi => by rw [goes_far]; have := pl_in (F := G t) (o := 0) (S := fun i => fm 285 c (S i)) hi; rwa [Nat.zero_add] at this)
theorem ow_add (h : Ow W0 K N B G W) (hk : Nk W0 p lo hi) (t c n : Nat) {b : Nat} (ca cx : Nat) {x : Option Addr} {S : Nat → Nat} (hb : b = B t) (ht : t < K) (nt : N t = n) (hc : c < 256) (hv : Fk W (B t) n x S) :
    Calls Try.prog 16 #[.pointer (some p), .int .u8 (c : Int), .slice (some ⟨b, 0, none⟩) n ca, .slice x n cx] W fun e w' => e = .returned (.int .i64 0) ∧ Ow W0 K N B (upn G t (fun i => G t i ^^^ fm 285 c (S i))) w' := by
  subst hb
  have hr := h.row ht
  have hl := h.lo ht
  have hh := hk.hi
  refine (nadd_gen p lo hi c n (B t) 0 n (G t) (fun _ => S) _ x ca cx W (h.nk hk) hc (nt ▸ hr.1) (.inr (by omega)) (nt ▸ hr) (fun _ => ⟨rfl, by omega⟩) (fun h0 => hv.reads h0)).mono fun e w' ⟨a1, a2, a3⟩ => ⟨a1, h.turn ht a2 ?_⟩
  rw [nt]
  exact a3.congr (fun i hi => by rw [goes_far]; have := pl_in (F := G t) (o := 0) (S := fun i => G t (0 + i) ^^^ fm 285 c (S i)) hi; simp only [Nat.zero_add] at this ⊢; exact this)
/-- the same, and what lies apart from row t stays. -/
theorem ow_mulk (h : Ow W0 K N B G W) (hk : Nk W0 p lo hi) (t c n : Nat) {b : Nat} (ca cx : Nat) {x : Option Addr} {S : Nat → Nat} (hb : b = B t) (ht : t < K) (nt : N t = n) (hc : c < 256) (hv : Fk W (B t) n x S) :
    Calls Try.prog 14 #[.pointer (some p), .int .u8 (c : Int), .slice (some ⟨b, 0, none⟩) n ca, .slice x n cx] W fun e w' => e = .returned (.int .i64 0) ∧ Ow W0 K N B (upn G t (fun i => fm 285 c (S i))) w' ∧ Kp b W w' := by
  subst hb
  have hr := h.row ht
  have hl := h.lo ht
  have hh := hk.hi
  refine (nmul_gen p lo hi c n (B t) 0 n (G t) (fun _ => S) _ x ca cx W (h.nk hk) hc (nt ▸ hr.1) (.inr (by omega)) (nt ▸ hr) (fun _ => ⟨rfl, by omega⟩) (fun h0 => hv.reads h0)).mono fun e w' ⟨a1, a2, a3⟩ => ⟨a1, h.turn ht a2 ?_, a2⟩
  rw [nt]
  exact a3.congr (fun i hi => by rw [goes_far]; have := pl_in (F := G t) (o := 0) (S := fun i => fm 285 c (S i)) hi; rwa [Nat.zero_add] at this)
theorem ow_addk (h : Ow W0 K N B G W) (hk : Nk W0 p lo hi) (t c n : Nat) {b : Nat} (ca cx : Nat) {x : Option Addr} {S : Nat → Nat} (hb : b = B t) (ht : t < K) (nt : N t = n) (hc : c < 256) (hv : Fk W (B t) n x S) :
    Calls Try.prog 16 #[.pointer (some p), .int .u8 (c : Int), .slice (some ⟨b, 0, none⟩) n ca, .slice x n cx] W fun e w' => e = .returned (.int .i64 0) ∧ Ow W0 K N B (upn G t (fun i => G t i ^^^ fm 285 c (S i))) w' ∧ Kp b W w' := by
  subst hb
  have hr := h.row ht
  have hl := h.lo ht
  have hh := hk.hi
  refine (nadd_gen p lo hi c n (B t) 0 n (G t) (fun _ => S) _ x ca cx W (h.nk hk) hc (nt ▸ hr.1) (.inr (by omega)) (nt ▸ hr) (fun _ => ⟨rfl, by omega⟩) (fun h0 => hv.reads h0)).mono fun e w' ⟨a1, a2, a3⟩ => ⟨a1, h.turn ht a2 ?_, a2⟩
  rw [nt]
  exact a3.congr (fun i hi => by rw [goes_far]; have := pl_in (F := G t) (o := 0) (S := fun i => G t (0 + i) ^^^ fm 285 c (S i)) hi; simp only [Nat.zero_add] at this ⊢; exact this)
/-- row t below the kernel or above it. -/
theorem ow_mulg (h : Ow W0 K N B G W) (hk : Nk W p lo hi) (t c n : Nat) {b : Nat} (ca cx : Nat) {x : Option Addr} {S : Nat → Nat} (hb : b = B t) (hg : b < lo ∨ hi ≤ b) (ht : t < K) (nt : N t = n) (hc : c < 256) (hv : Fk W (B t) n x S) :
    Calls Try.prog 14 #[.pointer (some p), .int .u8 (c : Int), .slice (some ⟨b, 0, none⟩) n ca, .slice x n cx] W fun e w' => e = .returned (.int .i64 0) ∧ Ow W0 K N B (upn G t (fun i => fm 285 c (S i))) w' ∧ Kp b W w' := by
  subst hb
  have hr := h.row ht
  refine (nmul_gen p lo hi c n (B t) 0 n (G t) (fun _ => S) _ x ca cx W hk hc (nt ▸ hr.1) hg (nt ▸ hr) (fun _ => ⟨rfl, by omega⟩) (fun h0 => hv.reads h0)).mono fun e w' ⟨a1, a2, a3⟩ => ⟨a1, h.turn ht a2 ?_, a2⟩
  rw [nt]
  exact a3.congr (fun i hi => by rw [goes_far]; have := pl_in (F := G t) (o := 0) (S := fun i => fm 285 c (S i)) hi; rwa [Nat.zero_add] at this)
/-- row t in its place. -/
theorem ow_mul_same (h : Ow W0 K N B G W) (hk : Nk W0 p lo hi) (t c n : Nat) {b : Nat} (ca cx : Nat) (hb : b = B t) (ht : t < K) (nt : N t = n) (hc : c < 256) :
    Calls Try.prog 14 #[.pointer (some p), .int .u8 (c : Int), .slice (some ⟨b, 0, none⟩) n ca, .slice (some ⟨b, 0, none⟩) n cx] W fun e w' => e = .returned (.int .i64 0) ∧ Ow W0 K N B (upn G t (fun i => fm 285 c (G t i))) w' := by
  subst hb
  have hr := h.row ht
  have hl := h.lo ht
  have hh := hk.hi
  refine (nmul_gen p lo hi c n (B t) 0 n (G t) (fun F i => F (0 + i)) _ _ ca cx W (h.nk hk) hc (nt ▸ hr.1) (.inr (by omega)) (nt ▸ hr) (fun _ => ⟨rfl, by omega⟩) (fun h0 => Rdk.row rfl (by omega))).mono fun e w' ⟨a1, a2, a3⟩ => ⟨a1, h.turn ht a2 ?_⟩
  rw [nt]
  exact a3.congr (fun i hi => by rw [goes_same]; have := pl_in (F := G t) (o := 0) (S := fun i => fm 285 c (G t (0 + i))) hi; simp only [Nat.zero_add] at this ⊢; exact this)
end

theorem Ow.lit {W0 W : World} {K : Nat} {N B : Nat → Nat} {G : Nat → Nat → Nat} (h : Ow W0 K N B G W) (l : List Nat) (hl : ∀ x ∈ l, x < 256) (hn : l.length ≤ 1000) :
    Ow W0 (K + 1) (upn N K l.length) (upn B K W.heap.size) (upn G K (fun i => l.getD i 0)) (W.alloc (.cells (l.map (fun n : Nat => Value.int .u8 (n : Int))).toArray 5)) :=
  h.more ((Below.refl _ _).alloc (Nat.le_refl _) _) (Nat.le_refl _) (lit_rw l W hl hn)
/-- what fixed has made. -/
def Fx (w1 W : World) : Prop := ∃ N B G, Ow w1 2 N B G W ∧ B 0 = w1.heap.size ∧ N 0 = 3 ∧ ∀ i, i < 3 → G 0 i = [3, 2, 0].getD i 0
theorem fix_mul (w1 : World) (p : Addr) (lo : Nat) (hk : Nk w1 p lo w1.heap.size) :
    Calls Try.prog 14 #[.pointer (some p), .int .u8 2, .slice (some ⟨w1.heap.size, 0, none⟩) 3 3, .slice (some ⟨w1.heap.size + 1, 0, none⟩) 3 3]
      ((w1.alloc (.cells #[.int .u8 9, .int .u8 9, .int .u8 9] 5)).alloc (.cells #[.int .u8 143, .int .u8 1, .int .u8 0] 5)) fun e w' => e = .returned (.int .i64 0) ∧ Fx w1 w' := by
  have o1 := (Ow.start w1 (fun _ => 0) (fun _ => 0) (fun _ _ => 0)).lit [9, 9, 9] (by decide) (by decide)
  have o2 := o1.lit [143, 1, 0] (by decide) (by decide)
  refine (ow_mul o2 hk 0 2 3 3 3 rfl (by decide) rfl (by decide) (o2.farRow 1 0 3 (by simp [upn]) (by decide) (by decide) (by decide) (Nat.le_refl _))).mono fun e w' ⟨h1, h2⟩ => ⟨h1, _, _, _, h2, rfl, rfl, fun i hi => ?_⟩
  match i, hi with
  | 0, _ => decide +kernel
  | 1, _ => decide +kernel
  | 2, _ => decide +kernel
  | i + 3, h => exact absurd h (by show ¬ i + 3 < 3; omega)
theorem fix_eq (w1 W : World) (h : Fx w1 W) :
    Calls Try.prog 12 #[.slice (some ⟨w1.heap.size, 0, none⟩) 3 3, .slice (some ⟨W.heap.size, 0, none⟩) 3 3] (W.alloc (.cells #[.int .u8 3, .int .u8 2, .int .u8 0] 5)) fun e w' => e = .returned (.bool true) ∧ Below w1.heap.size w1 w' := by
  obtain ⟨N, B, G, ho, hB, hN, hG⟩ := h
  have o2 := ho.lit [3, 2, 0] (by decide) (by decide)
  exact (ow_equal o2 3 (o2.own 0 3 3 (by rw [upn_other _ _ (by decide), hB]) (by decide) (by rw [upn_other _ _ (by decide), hN]) (by decide) (by decide)) (o2.own 2 3 3 (by rw [upn_same]) (by decide) rfl (by decide) (by decide)) (fun i hi => by rw [upn_other _ _ (by decide), upn_same]; exact hG i hi)).mono fun e w' ⟨h1, h2⟩ => ⟨h1, h2.1⟩

set_option maxHeartbeats 2000000 in
set_option maxRecDepth 100000 in
theorem fixed6_any (w : World) :
    Calls Try.prog 11 #[] w fun e w' => e = .returned (.bool true) ∧ Below w.heap.size w w' := by
  have c1 := nnew_any w
  go_enter Try.func11, Try.ntmps11
  go_wp2_with (first | (go_at_call 13; ((with_reducible refine (c1).mono ?_); (rintro e w1 ⟨p, rfl, hk1, hb1⟩))) | (go_at_call 14; ((with_reducible refine (fix_mul w1 p _ hk1).mono ?_); (rintro e w2 ⟨rfl, hW2⟩))) | (go_at_call 12; ((with_reducible refine (fix_eq w1 w2 hW2).mono ?_); (rintro e w3 ⟨rfl, hW3⟩))))
  go_ret
  exact ⟨rfl, hb1.trans (hW3.mono hb1.size)⟩
end Go.Proofs.Ytdnjddnjaekgeaa
