import Derived.Test.YtefhlnplegagfabEbk
namespace Go.Proofs.Ytefhlnplegagfab
open Go.RowKit Gf2
set_option linter.unusedVariables false

theorem goes_out (f : Nat → Nat → Nat) (o : Nat) (rd : (Nat → Nat) → Nat → Nat) (F : Nat → Nat) : ∀ k i, (i < o ∨ o + k ≤ i) → goes f o rd F k i = F i
  | 0, i, _ => rfl
  | k + 1, i, h => by
    unfold goes
    rw [if_neg (by omega)]
    exact goes_out f o rd F k i (by omega)
theorem goes_far (f : Nat → Nat → Nat) (o : Nat) (S F : Nat → Nat) : ∀ k i, goes f o (fun _ => S) F k i = pl F o k (fun j => f (F (o + j)) (S j)) i
  | 0, i => (pl_out (by omega)).symm
  | k + 1, i => by
    unfold goes
    by_cases e : i = o + k
    · rw [if_pos e, e, pl_in (Nat.lt_succ_self _), goes_out f o _ F k (o + k) (by omega)]
    · rw [if_neg e, goes_far f o S F k i]
      unfold pl
      by_cases e2 : o ≤ i ∧ i < o + k
      · rw [if_pos e2, if_pos (by omega)]
      · rw [if_neg e2, if_neg (by omega)]
theorem goes_same (f : Nat → Nat → Nat) (o : Nat) (F : Nat → Nat) : ∀ k i, goes f o (fun G j => G (o + j)) F k i = pl F o k (fun j => f (F (o + j)) (F (o + j))) i
  | 0, i => (pl_out (by omega)).symm
  | k + 1, i => by
    unfold goes
    by_cases e : i = o + k
    · rw [if_pos e, e, pl_in (Nat.lt_succ_self _), goes_out f o _ F k (o + k) (by omega)]
    · rw [if_neg e, goes_same f o F k i]
      unfold pl
      by_cases e2 : o ≤ i ∧ i < o + k
      · rw [if_pos e2, if_pos (by omega)]
      · rw [if_neg e2, if_neg (by omega)]

/-- a list that lies apart from block g. -/
def Far (w : World) (g n : Nat) (x : Option Addr) (S : Nat → Nat) : Prop := (∀ i, i < n → S i < 256) ∧ (0 < n → ∃ h q, x = some ⟨h, q, none⟩ ∧ h ≠ g ∧ ∀ i, i < n → w.cell? ⟨h, q + i, none⟩ = some (.int .u8 (S i : Nat)))
theorem Far.reads {w : World} {g N n : Nat} {x : Option Addr} {S : Nat → Nat} (h : Far w g n x S) (h0 : 0 < n) : Reads w g N n x (fun _ => S) := by
  obtain ⟨b, q, e, hne, hc⟩ := h.2 h0
  refine ⟨b, q, e, fun w' F ho hr i hi => ⟨h.1 i hi, ?_⟩⟩
  rw [← hc i hi]
  unfold World.cell?
  rw [ho.2.2 b hne]
theorem Reads.row {w : World} {g N n q : Nat} {x : Option Addr} (e : x = some ⟨g, q, none⟩) (hq : q + n ≤ N) : Reads w g N n x (fun F i => F (q + i)) :=
  ⟨g, q, e, fun w' F ho hr i hi => ⟨hr.2.1 _ (by omega), hr.2.2.cell (i := q + i) (by omega)⟩⟩
theorem kmul_far (p : Addr) (lo hi c n g o N : Nat) (F S : Nat → Nat) (a x : Option Addr) (ca cx : Nat) (w : World) (hk : Ker w p lo hi) (hc : c < 256) (hn : n ≤ big) (hg : g < lo ∨ hi ≤ g) (hR : Rw w g N F) (hd : 0 < n → a = some ⟨g, o, none⟩ ∧ o + n ≤ N) (hx : Far w g n x S) :
    Calls Try.prog 13 #[.pointer (some p), .int .u8 (c : Int), .slice a n ca, .slice x n cx] w fun e w' => e = .returned (.int .i64 0) ∧ Only g w w' ∧ Rw w' g N (pl F o n (fun i => fm 285 c (S i))) :=
  (kmul_gen p lo hi c n g o N F (fun _ => S) a x ca cx w hk hc hn hg hR hd (fun h => hx.reads h)).mono fun e w' ⟨h1, h2, h3⟩ => ⟨h1, h2, h3.congr (fun i _ => goes_far _ _ _ _ _ _)⟩
theorem kadd_far (p : Addr) (lo hi c n g o N : Nat) (F S : Nat → Nat) (a x : Option Addr) (ca cx : Nat) (w : World) (hk : Ker w p lo hi) (hc : c < 256) (hn : n ≤ big) (hg : g < lo ∨ hi ≤ g) (hR : Rw w g N F) (hd : 0 < n → a = some ⟨g, o, none⟩ ∧ o + n ≤ N) (hx : Far w g n x S) :
    Calls Try.prog 14 #[.pointer (some p), .int .u8 (c : Int), .slice a n ca, .slice x n cx] w fun e w' => e = .returned (.int .i64 0) ∧ Only g w w' ∧ Rw w' g N (pl F o n (fun i => F (o + i) ^^^ fm 285 c (S i))) :=
  (kadd_gen p lo hi c n g o N F (fun _ => S) a x ca cx w hk hc hn hg hR hd (fun h => hx.reads h)).mono fun e w' ⟨h1, h2, h3⟩ => ⟨h1, h2, h3.congr (fun i _ => goes_far _ _ _ _ _ _)⟩
theorem kmul_same (p : Addr) (lo hi c n g o N : Nat) (F : Nat → Nat) (a : Option Addr) (ca cx : Nat) (w : World) (hk : Ker w p lo hi) (hc : c < 256) (hn : n ≤ big) (hg : g < lo ∨ hi ≤ g) (hR : Rw w g N F) (hd : 0 < n → a = some ⟨g, o, none⟩ ∧ o + n ≤ N) :
    Calls Try.prog 13 #[.pointer (some p), .int .u8 (c : Int), .slice a n ca, .slice a n cx] w fun e w' => e = .returned (.int .i64 0) ∧ Only g w w' ∧ Rw w' g N (pl F o n (fun i => fm 285 c (F (o + i)))) :=
  (kmul_gen p lo hi c n g o N F (fun G i => G (o + i)) a a ca cx w hk hc hn hg hR hd (fun h => Reads.row (hd h).1 (hd h).2)).mono fun e w' ⟨h1, h2, h3⟩ => ⟨h1, h2, h3.congr (fun i _ => goes_same _ _ _ _ _)⟩
theorem kadd_same (p : Addr) (lo hi c n g o N : Nat) (F : Nat → Nat) (a : Option Addr) (ca cx : Nat) (w : World) (hk : Ker w p lo hi) (hc : c < 256) (hn : n ≤ big) (hg : g < lo ∨ hi ≤ g) (hR : Rw w g N F) (hd : 0 < n → a = some ⟨g, o, none⟩ ∧ o + n ≤ N) :
    Calls Try.prog 14 #[.pointer (some p), .int .u8 (c : Int), .slice a n ca, .slice a n cx] w fun e w' => e = .returned (.int .i64 0) ∧ Only g w w' ∧ Rw w' g N (pl F o n (fun i => F (o + i) ^^^ fm 285 c (F (o + i)))) :=
  (kadd_gen p lo hi c n g o N F (fun G i => G (o + i)) a a ca cx w hk hc hn hg hR hd (fun h => Reads.row (hd h).1 (hd h).2)).mono fun e w' ⟨h1, h2, h3⟩ => ⟨h1, h2, h3.congr (fun i _ => goes_same _ _ _ _ _)⟩
theorem kmul_lap (q : Nat) (p : Addr) (lo hi c n g o N : Nat) (F : Nat → Nat) (a x : Option Addr) (ca cx : Nat) (w : World) (hk : Ker w p lo hi) (hc : c < 256) (hn : n ≤ big) (hg : g < lo ∨ hi ≤ g) (hR : Rw w g N F) (hd : 0 < n → a = some ⟨g, o, none⟩ ∧ o + n ≤ N) (hx : 0 < n → x = some ⟨g, q, none⟩ ∧ q + n ≤ N) :
    Calls Try.prog 13 #[.pointer (some p), .int .u8 (c : Int), .slice a n ca, .slice x n cx] w fun e w' => e = .returned (.int .i64 0) ∧ Only g w w' ∧ ∃ G, Rw w' g N G ∧ ∀ i, (i < o ∨ o + n ≤ i) → G i = F i :=
  (kmul_gen p lo hi c n g o N F (fun G i => G (q + i)) a x ca cx w hk hc hn hg hR hd (fun h => Reads.row (hx h).1 (hx h).2)).mono fun e w' ⟨h1, h2, h3⟩ => ⟨h1, h2, _, h3, fun i hi => goes_out _ _ _ _ _ _ hi⟩
theorem kadd_lap (q : Nat) (p : Addr) (lo hi c n g o N : Nat) (F : Nat → Nat) (a x : Option Addr) (ca cx : Nat) (w : World) (hk : Ker w p lo hi) (hc : c < 256) (hn : n ≤ big) (hg : g < lo ∨ hi ≤ g) (hR : Rw w g N F) (hd : 0 < n → a = some ⟨g, o, none⟩ ∧ o + n ≤ N) (hx : 0 < n → x = some ⟨g, q, none⟩ ∧ q + n ≤ N) :
    Calls Try.prog 14 #[.pointer (some p), .int .u8 (c : Int), .slice a n ca, .slice x n cx] w fun e w' => e = .returned (.int .i64 0) ∧ Only g w w' ∧ ∃ G, Rw w' g N G ∧ ∀ i, (i < o ∨ o + n ≤ i) → G i = F i :=
  (kadd_gen p lo hi c n g o N F (fun G i => G (q + i)) a x ca cx w hk hc hn hg hR hd (fun h => Reads.row (hx h).1 (hx h).2)).mono fun e w' ⟨h1, h2, h3⟩ => ⟨h1, h2, _, h3, fun i hi => goes_out _ _ _ _ _ _ hi⟩

/-- a list apart that can be read. -/
theorem Rb.far {w : World} {g n cap : Nat} {x : Option Addr} {S : Nat → Nat} (h : Rbb g w (.slice x n cap) n S) : Far w g n x S := by
  obtain ⟨h1, h2, a, c, h3, h5, h6, h4⟩ := h
  cases h3
  refine ⟨h2, fun h0 => ?_⟩
  obtain ⟨b, o, e, hl, -, hc⟩ := h4 h0
  exact ⟨b, o, e, by omega, hc⟩
theorem Rw.far {w : World} {g k N o n : Nat} {F : Nat → Nat} (h : Rw w k N F) (hne : k ≠ g) (hn : o + n ≤ N) : Far w g n (some ⟨k, o, none⟩) (fun i => F (o + i)) :=
  ⟨fun i hi => h.2.1 _ (by omega), fun _ => ⟨k, o, rfl, hne, fun i hi => h.2.2.cell (i := o + i) (by omega)⟩⟩
theorem Rw.far0 {w : World} {g k N : Nat} {F : Nat → Nat} (h : Rw w k N F) (hne : k ≠ g) : Far w g N (some ⟨k, 0, none⟩) F :=
  ⟨h.2.1, fun _ => ⟨k, 0, rfl, hne, fun i hi => by rw [Nat.zero_add]; exact h.2.2.cell hi⟩⟩
end Go.Proofs.Ytefhlnplegagfab
