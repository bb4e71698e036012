import Derived.Test.YtdeophhcbkahgaaKj1
import Derived.Test.YtdeophhcbkahgaaKj2
import Derived.Test.YtdeophhcbkahgaaNke
import Derived.Test.YtdeophhcbkahgaaNkf
import Derived.Test.YtdeophhcbkahgaaSke
namespace Go.Proofs.Ytdeophhcbkahgaa
open Go.RowKit Gf2
set_option linter.unusedVariables false

theorem Rdk.only {w : World} {g N n : Nat} {x : Option Addr} {rd : (Nat → Nat) → Nat → Nat} (h : Rdk w g N n x rd) : Reads w g N n x rd := by
  obtain ⟨b, q, e, hh⟩ := h
  exact ⟨b, q, e, fun w' F ho hF => hh w' F ho.kp hF⟩
theorem t9mul_far (p : Addr) (lo hi c n g o N : Nat) (F S : Nat → Nat) (a x : Option Addr) (ca cx : Nat) (w : World) (hk : Ker w p lo hi) (hc : c < 256) (hn : n ≤ big) (hg : g < lo ∨ hi ≤ g) (hca : n ≤ ca) (hcx : n ≤ cx)
    (hR : Rw w g N F) (hd : 0 < n → a = some ⟨g, o, none⟩) (hoN : o + n ≤ N) (hx : Fk w g n x S) :
    Calls Try.prog 73 #[.pointer (some p), .int .u8 (c : Int), .slice a n ca, .slice x n cx] w fun e w' => e = .returned (.int .i64 0) ∧ Kp g w w' ∧ Rw w' g N (pl F o n (fun j => fm 285 c (S j))) :=
  (kmul_gen p lo hi c n g o N F (fun _ => S) a x ca cx w hk hc hn hg hR (fun h => ⟨hd h, hoN⟩) (fun h => (hx.reads h).only)).mono fun e w' ⟨h1, h2, h3⟩ => ⟨h1, h2.kp, h3.congr (fun i _ => goes_far _ _ _ _ _ _)⟩
theorem t9mul_same (p : Addr) (lo hi c n g o N : Nat) (F : Nat → Nat) (a : Option Addr) (ca cx : Nat) (w : World) (hk : Ker w p lo hi) (hc : c < 256) (hn : n ≤ big) (hg : g < lo ∨ hi ≤ g) (hca : n ≤ ca) (hcx : n ≤ cx)
    (hR : Rw w g N F) (hd : 0 < n → a = some ⟨g, o, none⟩) (hoN : o + n ≤ N) :
    Calls Try.prog 73 #[.pointer (some p), .int .u8 (c : Int), .slice a n ca, .slice a n cx] w fun e w' => e = .returned (.int .i64 0) ∧ Kp g w w' ∧ Rw w' g N (pl F o n (fun j => fm 285 c (F (o + j)))) :=
  (kmul_gen p lo hi c n g o N F (fun G i => G (o + i)) a a ca cx w hk hc hn hg hR (fun h => ⟨hd h, hoN⟩) (fun h => Reads.row (hd h) hoN)).mono fun e w' ⟨h1, h2, h3⟩ => ⟨h1, h2.kp, h3.congr (fun i _ => goes_same _ _ _ _ _)⟩
set_option maxHeartbeats 1000000 in
set_option maxRecDepth 100000 in
theorem t9mul_lens (p : Addr) (lo hi c n m : Nat) (a x : Option Addr) (ca cx : Nat) (w : World) (hk : Ker w p lo hi) (hnm : n ≠ m) :
    Calls Try.prog 73 #[.pointer (some p), .int .u8 (c : Int), .slice a n ca, .slice x m cx] w fun e w' => e = .returned (.int .i64 6) ∧ w' = w := by
  go_enter Try.func73, Try.ntmps73
  go_wp2
  go_ret
  exact ⟨rfl, rfl⟩
theorem t9add_far (p : Addr) (lo hi c n g o N : Nat) (F S : Nat → Nat) (a x : Option Addr) (ca cx : Nat) (w : World) (hk : Ker w p lo hi) (hc : c < 256) (hn : n ≤ big) (hg : g < lo ∨ hi ≤ g) (hca : n ≤ ca) (hcx : n ≤ cx)
    (hR : Rw w g N F) (hd : 0 < n → a = some ⟨g, o, none⟩) (hoN : o + n ≤ N) (hx : Fk w g n x S) :
    Calls Try.prog 74 #[.pointer (some p), .int .u8 (c : Int), .slice a n ca, .slice x n cx] w fun e w' => e = .returned (.int .i64 0) ∧ Kp g w w' ∧ Rw w' g N (pl F o n (fun j => F (o + j) ^^^ fm 285 c (S j))) :=
  (kadd_gen p lo hi c n g o N F (fun _ => S) a x ca cx w hk hc hn hg hR (fun h => ⟨hd h, hoN⟩) (fun h => (hx.reads h).only)).mono fun e w' ⟨h1, h2, h3⟩ => ⟨h1, h2.kp, h3.congr (fun i _ => goes_far _ _ _ _ _ _)⟩
theorem t9add_same (p : Addr) (lo hi c n g o N : Nat) (F : Nat → Nat) (a : Option Addr) (ca cx : Nat) (w : World) (hk : Ker w p lo hi) (hc : c < 256) (hn : n ≤ big) (hg : g < lo ∨ hi ≤ g) (hca : n ≤ ca) (hcx : n ≤ cx)
    (hR : Rw w g N F) (hd : 0 < n → a = some ⟨g, o, none⟩) (hoN : o + n ≤ N) :
    Calls Try.prog 74 #[.pointer (some p), .int .u8 (c : Int), .slice a n ca, .slice a n cx] w fun e w' => e = .returned (.int .i64 0) ∧ Kp g w w' ∧ Rw w' g N (pl F o n (fun j => F (o + j) ^^^ fm 285 c (F (o + j)))) :=
  (kadd_gen p lo hi c n g o N F (fun G i => G (o + i)) a a ca cx w hk hc hn hg hR (fun h => ⟨hd h, hoN⟩) (fun h => Reads.row (hd h) hoN)).mono fun e w' ⟨h1, h2, h3⟩ => ⟨h1, h2.kp, h3.congr (fun i _ => goes_same _ _ _ _ _)⟩
set_option maxHeartbeats 1000000 in
set_option maxRecDepth 100000 in
theorem t9add_lens (p : Addr) (lo hi c n m : Nat) (a x : Option Addr) (ca cx : Nat) (w : World) (hk : Ker w p lo hi) (hnm : n ≠ m) :
    Calls Try.prog 74 #[.pointer (some p), .int .u8 (c : Int), .slice a n ca, .slice x m cx] w fun e w' => e = .returned (.int .i64 6) ∧ w' = w := by
  go_enter Try.func74, Try.ntmps74
  go_wp2
  go_ret
  exact ⟨rfl, rfl⟩
theorem n9mul_far (p : Addr) (lo hi c n g o N : Nat) (F S : Nat → Nat) (a x : Option Addr) (ca cx : Nat) (w : World) (hk : Nk w p lo hi) (hc : c < 256) (hn : n ≤ big) (hg : g < lo ∨ hi ≤ g) (hca : n ≤ ca) (hcx : n ≤ cx)
    (hR : Rw w g N F) (hd : 0 < n → a = some ⟨g, o, none⟩) (hoN : o + n ≤ N) (hx : Fk w g n x S) :
    Calls Try.prog 77 #[.pointer (some p), .int .u8 (c : Int), .slice a n ca, .slice x n cx] w fun e w' => e = .returned (.int .i64 0) ∧ Kp g w w' ∧ Rw w' g N (pl F o n (fun j => fm 285 c (S j))) :=
  (nmul_gen p lo hi c n g o N F (fun _ => S) a x ca cx w hk hc hn hg hR (fun h => ⟨hd h, hoN⟩) (fun h => hx.reads h)).mono fun e w' ⟨h1, h2, h3⟩ => ⟨h1, h2, h3.congr (fun i _ => goes_far _ _ _ _ _ _)⟩
theorem n9mul_same (p : Addr) (lo hi c n g o N : Nat) (F : Nat → Nat) (a : Option Addr) (ca cx : Nat) (w : World) (hk : Nk w p lo hi) (hc : c < 256) (hn : n ≤ big) (hg : g < lo ∨ hi ≤ g) (hca : n ≤ ca) (hcx : n ≤ cx)
    (hR : Rw w g N F) (hd : 0 < n → a = some ⟨g, o, none⟩) (hoN : o + n ≤ N) :
    Calls Try.prog 77 #[.pointer (some p), .int .u8 (c : Int), .slice a n ca, .slice a n cx] w fun e w' => e = .returned (.int .i64 0) ∧ Kp g w w' ∧ Rw w' g N (pl F o n (fun j => fm 285 c (F (o + j)))) :=
  (nmul_gen p lo hi c n g o N F (fun G i => G (o + i)) a a ca cx w hk hc hn hg hR (fun h => ⟨hd h, hoN⟩) (fun h => Rdk.row (hd h) hoN)).mono fun e w' ⟨h1, h2, h3⟩ => ⟨h1, h2, h3.congr (fun i _ => goes_same _ _ _ _ _)⟩
theorem n9add_far (p : Addr) (lo hi c n g o N : Nat) (F S : Nat → Nat) (a x : Option Addr) (ca cx : Nat) (w : World) (hk : Nk w p lo hi) (hc : c < 256) (hn : n ≤ big) (hg : g < lo ∨ hi ≤ g) (hca : n ≤ ca) (hcx : n ≤ cx)
    (hR : Rw w g N F) (hd : 0 < n → a = some ⟨g, o, none⟩) (hoN : o + n ≤ N) (hx : Fk w g n x S) :
    Calls Try.prog 78 #[.pointer (some p), .int .u8 (c : Int), .slice a n ca, .slice x n cx] w fun e w' => e = .returned (.int .i64 0) ∧ Kp g w w' ∧ Rw w' g N (pl F o n (fun j => F (o + j) ^^^ fm 285 c (S j))) :=
  (nadd_gen p lo hi c n g o N F (fun _ => S) a x ca cx w hk hc hn hg hR (fun h => ⟨hd h, hoN⟩) (fun h => hx.reads h)).mono fun e w' ⟨h1, h2, h3⟩ => ⟨h1, h2, h3.congr (fun i _ => goes_far _ _ _ _ _ _)⟩
theorem n9add_same (p : Addr) (lo hi c n g o N : Nat) (F : Nat → Nat) (a : Option Addr) (ca cx : Nat) (w : World) (hk : Nk w p lo hi) (hc : c < 256) (hn : n ≤ big) (hg : g < lo ∨ hi ≤ g) (hca : n ≤ ca) (hcx : n ≤ cx)
    (hR : Rw w g N F) (hd : 0 < n → a = some ⟨g, o, none⟩) (hoN : o + n ≤ N) :
    Calls Try.prog 78 #[.pointer (some p), .int .u8 (c : Int), .slice a n ca, .slice a n cx] w fun e w' => e = .returned (.int .i64 0) ∧ Kp g w w' ∧ Rw w' g N (pl F o n (fun j => F (o + j) ^^^ fm 285 c (F (o + j)))) :=
  (nadd_gen p lo hi c n g o N F (fun G i => G (o + i)) a a ca cx w hk hc hn hg hR (fun h => ⟨hd h, hoN⟩) (fun h => Rdk.row (hd h) hoN)).mono fun e w' ⟨h1, h2, h3⟩ => ⟨h1, h2, h3.congr (fun i _ => goes_same _ _ _ _ _)⟩
theorem s9mul_far (p : Addr) (lo hi c n g o N : Nat) (F S : Nat → Nat) (a x : Option Addr) (ca cx : Nat) (w : World) (hk : Sk w p lo hi) (hc : c < 256) (hn : n ≤ big) (hg : g < lo ∨ hi ≤ g) (hca : n ≤ ca) (hcx : n ≤ cx)
    (hR : Rw w g N F) (hd : 0 < n → a = some ⟨g, o, none⟩) (hoN : o + n ≤ N) (hx : Fk w g n x S) :
    Calls Try.prog 82 #[.pointer (some p), .int .u8 (c : Int), .slice a n ca, .slice x n cx] w fun e w' => e = .returned (.int .i64 0) ∧ Kp g w w' ∧ Rw w' g N (pl F o n (fun j => fm 285 c (S j))) :=
  smul_far p lo hi c n g o N F S a x ca cx hca hcx w hk hc hn hg hR hd hoN hx
theorem s9mul_same (p : Addr) (lo hi c n g o N : Nat) (F : Nat → Nat) (a : Option Addr) (ca cx : Nat) (w : World) (hk : Sk w p lo hi) (hc : c < 256) (hn : n ≤ big) (hg : g < lo ∨ hi ≤ g) (hca : n ≤ ca) (hcx : n ≤ cx)
    (hR : Rw w g N F) (hd : 0 < n → a = some ⟨g, o, none⟩) (hoN : o + n ≤ N) :
    Calls Try.prog 82 #[.pointer (some p), .int .u8 (c : Int), .slice a n ca, .slice a n cx] w fun e w' => e = .returned (.int .i64 0) ∧ Kp g w w' ∧ Rw w' g N (pl F o n (fun j => fm 285 c (F (o + j)))) :=
  smul_same p lo hi c n g o N F a ca cx hca hcx w hk hc hn hg hR hd hoN
theorem s9add_far (p : Addr) (lo hi c n g o N : Nat) (F S : Nat → Nat) (a x : Option Addr) (ca cx : Nat) (w : World) (hk : Sk w p lo hi) (hc : c < 256) (hn : n ≤ big) (hg : g < lo ∨ hi ≤ g) (hca : n ≤ ca) (hcx : n ≤ cx)
    (hR : Rw w g N F) (hd : 0 < n → a = some ⟨g, o, none⟩) (hoN : o + n ≤ N) (hx : Fk w g n x S) :
    Calls Try.prog 83 #[.pointer (some p), .int .u8 (c : Int), .slice a n ca, .slice x n cx] w fun e w' => e = .returned (.int .i64 0) ∧ Kp g w w' ∧ Rw w' g N (pl F o n (fun j => F (o + j) ^^^ fm 285 c (S j))) :=
  sadd_far p lo hi c n g o N F S a x ca cx hca hcx w hk hc hn hg hR hd hoN hx
theorem s9add_same (p : Addr) (lo hi c n g o N : Nat) (F : Nat → Nat) (a : Option Addr) (ca cx : Nat) (w : World) (hk : Sk w p lo hi) (hc : c < 256) (hn : n ≤ big) (hg : g < lo ∨ hi ≤ g) (hca : n ≤ ca) (hcx : n ≤ cx)
    (hR : Rw w g N F) (hd : 0 < n → a = some ⟨g, o, none⟩) (hoN : o + n ≤ N) :
    Calls Try.prog 83 #[.pointer (some p), .int .u8 (c : Int), .slice a n ca, .slice a n cx] w fun e w' => e = .returned (.int .i64 0) ∧ Kp g w w' ∧ Rw w' g N (pl F o n (fun j => F (o + j) ^^^ fm 285 c (F (o + j)))) :=
  sadd_same p lo hi c n g o N F a ca cx hca hcx w hk hc hn hg hR hd hoN

/-- a kernel of the backend b behind the interface's type T and the pointer q, in the blocks from lo up to mid. -/
def Kk (w : World) (T : TypeId) (q : Addr) (b lo mid : Nat) : Prop :=
  (b = 0 ∧ T = 83 ∧ Ker w q lo mid) ∨ (b = 1 ∧ T = 85 ∧ Nk w q lo mid) ∨ (b = 2 ∧ T = 87 ∧ Sk w q lo mid)
theorem Kk.hi {w : World} {T : TypeId} {q : Addr} {b lo mid : Nat} (h : Kk w T q b lo mid) : mid ≤ w.heap.size := by
  rcases h with ⟨-, -, h⟩ | ⟨-, -, h⟩ | ⟨-, -, h⟩
  · exact h.hi
  · exact h.hi
  · exact h.hi
theorem Kk.keep {w w' : World} {T : TypeId} {q : Addr} {b lo mid : Nat} (h : Kk w T q b lo mid) (hs : mid ≤ w'.heap.size) (hb : ∀ x, lo ≤ x → x < mid → w'.heap[x]? = w.heap[x]?) : Kk w' T q b lo mid := by
  rcases h with ⟨e, f, h⟩ | ⟨e, f, h⟩ | ⟨e, f, h⟩
  · exact .inl ⟨e, f, h.keep hs hb⟩
  · exact .inr (.inl ⟨e, f, h.keep hs hb⟩)
  · exact .inr (.inr ⟨e, f, h.keep hs hb⟩)
theorem Kk.le {w : World} {T : TypeId} {q : Addr} {b lo mid : Nat} (h : Kk w T q b lo mid) : b ≤ 2 := by
  rcases h with ⟨e, -⟩ | ⟨e, -⟩ | ⟨e, -⟩ <;> omega
/-- a set of the backend b at p, in the blocks from lo to hi. -/
def Ks (w : World) (p : Addr) (b lo hi : Nat) : Prop := ∃ g T q mid, p = ⟨g, 0, none⟩ ∧ lo ≤ g ∧ g < hi ∧ hi ≤ w.heap.size ∧ mid ≤ hi ∧ Kk w T q b lo mid ∧
  w.cell? ⟨g, 0, none⟩ = some (.iface T (.pointer (some q))) ∧ w.cell? ⟨g, 1, none⟩ = some (.int .i64 (b : Int))
theorem Ks.hi {w : World} {p : Addr} {b lo hi : Nat} (h : Ks w p b lo hi) : hi ≤ w.heap.size := by
  obtain ⟨g, T, q, mid, -, -, -, h, -⟩ := h
  exact h
theorem cell_block {w w' : World} {g : Nat} (q : Nat) (h : w'.heap[g]? = w.heap[g]?) : w'.cell? ⟨g, q, none⟩ = w.cell? ⟨g, q, none⟩ := by
  unfold World.cell?
  rw [h]
theorem Ks.keep {w w' : World} {p : Addr} {b lo hi : Nat} (h : Ks w p b lo hi) (hs : hi ≤ w'.heap.size) (hb : ∀ x, lo ≤ x → x < hi → w'.heap[x]? = w.heap[x]?) : Ks w' p b lo hi := by
  obtain ⟨g, T, q, mid, e, h1, h2, h3, h4, h5, h6, h7⟩ := h
  exact ⟨g, T, q, mid, e, h1, h2, hs, h4, h5.keep (Nat.le_trans h4 hs) (fun x hx hy => hb x hx (Nat.lt_of_lt_of_le hy h4)), (cell_block _ (hb g h1 h2)).trans h6, (cell_block _ (hb g h1 h2)).trans h7⟩
theorem ks_made {w : World} {T : TypeId} {q : Addr} {b lo : Nat} (ty : TypeId) (h : Kk w T q b lo w.heap.size) (hl : lo ≤ w.heap.size) :
    Ks (w.alloc (.cells #[.iface T (.pointer (some q)), .int .i64 (b : Int)] ty)) ⟨w.heap.size, 0, none⟩ b lo (w.alloc (.cells #[.iface T (.pointer (some q)), .int .i64 (b : Int)] ty)).heap.size :=
  ⟨w.heap.size, T, q, w.heap.size, rfl, hl, by simp, Nat.le_refl _, by simp, h.keep (by simp) (fun x _ hx => ((Below.refl w.heap.size w).alloc (Nat.le_refl _) _).block x hx), by simp, by simp⟩
end Go.Proofs.Ytdeophhcbkahgaa
namespace Go.Proofs.Ytdeophhcbkahgaa
open Go.RowKit Gf2
set_option linter.unusedVariables false

set_option maxHeartbeats 2000000 in
set_option maxRecDepth 100000 in
theorem knew_table (w : World) :
    Calls Try.prog 22 #[.int .i64 0] w fun e w' => ∃ p, e = .returned (.tuple #[.pointer (some p), .int .i64 0]) ∧ Ks w' p 0 w.heap.size w'.heap.size ∧ Below w.heap.size w w' := by
  have c1 := tknew_any w
  go_enter Try.func22, Try.ntmps22
  go_wp2_with (go_at_call 39; (with_reducible refine c1.mono ?_); rintro e w1 ⟨q, rfl, hK, hb⟩)
  go_ret2
  exact ⟨⟨w1.heap.size, 0, none⟩, rfl, ks_made _ (.inl ⟨rfl, rfl, hK⟩) hb.size, hb.alloc hb.size _⟩
set_option maxHeartbeats 2000000 in
set_option maxRecDepth 100000 in
theorem knew_nibble (w : World) :
    Calls Try.prog 22 #[.int .i64 1] w fun e w' => ∃ p, e = .returned (.tuple #[.pointer (some p), .int .i64 0]) ∧ Ks w' p 1 w.heap.size w'.heap.size ∧ Below w.heap.size w w' := by
  have c1 := nnew_any w
  go_enter Try.func22, Try.ntmps22
  go_wp2_with (go_at_call 40; (with_reducible refine c1.mono ?_); rintro e w1 ⟨q, rfl, hK, hb⟩)
  go_ret2
  exact ⟨⟨w1.heap.size, 0, none⟩, rfl, ks_made _ (.inr (.inl ⟨rfl, rfl, hK⟩)) hb.size, hb.alloc hb.size _⟩
set_option maxHeartbeats 2000000 in
set_option maxRecDepth 100000 in
theorem knew_sliced (w : World) :
    Calls Try.prog 22 #[.int .i64 2] w fun e w' => ∃ p, e = .returned (.tuple #[.pointer (some p), .int .i64 0]) ∧ Ks w' p 2 w.heap.size w'.heap.size ∧ Below w.heap.size w w' := by
  have c1 := snew_any w
  go_enter Try.func22, Try.ntmps22
  go_wp2_with (go_at_call 41; (with_reducible refine c1.mono ?_); rintro e w1 ⟨q, rfl, hK, hb⟩)
  go_ret2
  exact ⟨⟨w1.heap.size, 0, none⟩, rfl, ks_made _ (.inr (.inr ⟨rfl, rfl, hK⟩)) hb.size, hb.alloc hb.size _⟩
set_option maxHeartbeats 2000000 in
set_option maxRecDepth 100000 in
theorem knew_bad (b : Int) (w : World) (hb : ¬ (0 ≤ b ∧ b ≤ 2)) :
    Calls Try.prog 22 #[.int .i64 b] w fun e w' => e = .returned (.tuple #[.pointer none, .int .i64 3]) ∧ Below w.heap.size w w' := by
  have h0 : ¬ (b = 0) := by omega
  have h1 : ¬ (b = 1) := by omega
  have h2 : ¬ (b = 2) := by omega
  go_enter Try.func22, Try.ntmps22
  go_wp2
  go_ret2
  exact ⟨rfl, Below.refl _ _⟩
theorem knew_ok (b : Nat) (w : World) (hb : b ≤ 2) :
    Calls Try.prog 22 #[.int .i64 (b : Int)] w fun e w' => ∃ p, e = .returned (.tuple #[.pointer (some p), .int .i64 0]) ∧ Ks w' p b w.heap.size w'.heap.size ∧ Below w.heap.size w w' := by
  match b, hb with
  | 0, _ => exact knew_table w
  | 1, _ => exact knew_nibble w
  | 2, _ => exact knew_sliced w
end Go.Proofs.Ytdeophhcbkahgaa
namespace Go.Proofs.Ytdeophhcbkahgaa
open Go.RowKit Gf2
set_option linter.unusedVariables false

set_option maxHeartbeats 4000000 in
set_option maxRecDepth 100000 in
theorem kxor_gen (n g o N : Nat) (F : Nat → Nat) (rd : (Nat → Nat) → Nat → Nat) (a x : Option Addr) (ca cx : Nat) (w : World) (hn : n ≤ big)
    (hR : Rw w g N F) (hd : 0 < n → a = some ⟨g, o, none⟩ ∧ o + n ≤ N) (hx : 0 < n → Reads w g N n x rd) :
    Calls Try.prog 35 #[.slice a n ca, .slice x n cx] w fun e w' => e = .returned (.int .i64 0) ∧ Only g w w' ∧ Rw w' g N (goes (fun d s => d ^^^ s) o rd F n) := by
  by_cases h0 : 0 < n
  · obtain ⟨rfl, hoN⟩ := hd h0
    obtain ⟨h, q, rfl, hrd⟩ := hx h0
    have c1 : Hid (∀ w' G, Only g w w' → Rw w' g N G → ∀ i, i < n → rd G i < 256 ∧ w'.cell? ⟨h, q + i, none⟩ = some (.int .u8 (rd G i : Nat))) := hrd
    clear hrd
    go_enter Try.func35, Try.ntmps35
    go_wp2
    go_loopw [14] (fun i wr => ∃ k : Nat, k ≤ n ∧ i = .int .i64 k ∧ Only g w wr ∧ Rw wr g N (goes (fun d s => d ^^^ s) o rd F k)) (fun i _ => n - (intOf i).toNat)
    case atStart => exact ⟨0, Nat.zero_le _, rfl, Only.refl _ _, hR⟩
    case round =>
      obtain ⟨k, hk, rfl, ho, hr⟩ := hrel
      by_cases hlt : k < n
      · obtain ⟨G, hG⟩ : ∃ G, G = goes (fun d s => d ^^^ s) o rd F k := ⟨_, rfl⟩
        rw [← hG] at hr
        obtain ⟨ls, qs⟩ := c1.out wr G ho hr k hlt
        obtain ⟨s, hs⟩ : ∃ s, s = rd G k := ⟨_, rfl⟩
        rw [← hs] at ls qs
        have q1 := hr.2.2.cell (i := o + k) (by omega)
        have q2 := hr.2.2.frozen (o + k)
        have lf : G (o + k) ^^^ s < 256 := Nat.xor_lt_two_pow (n := 8) (hr.2.1 _ (by omega)) ls
        have new : Rw (wr.setCell ⟨g, o + k, none⟩ (.int .u8 (G (o + k) ^^^ s : Nat))) g N (goes (fun d s => d ^^^ s) o rd F (k + 1)) := by
          refine ⟨hr.1, fun i hi => ?_, (hr.2.2.set (o + k) _).congr (fun i hi => ?_)⟩
          · unfold goes
            rw [← hG, ← hs]
            split
            · exact lf
            · exact hr.2.1 i hi
          · unfold goes
            rw [← hG, ← hs]
            by_cases e : i = o + k
            · rw [if_pos e, if_pos e]
            · rw [if_neg e, if_neg e]
        have HP : Hid (Only g w (wr.setCell ⟨g, o + k, none⟩ (.int .u8 (G (o + k) ^^^ s : Nat))) ∧ Rw (wr.setCell ⟨g, o + k, none⟩ (.int .u8 (G (o + k) ^^^ s : Nat))) g N (goes (fun d s => d ^^^ s) o rd F (k + 1))) := ⟨ho.setCell _ _, new⟩
        have X := u8_xor_nat (G (o + k)) s (hr.2.1 _ (by omega)) ls
        have ib : ((k : Nat) : Int) < (n : Int) := by omega
        have W1 := wrap_succ8 (j := k) (by omega)
        clear new hr ho hG hs hR hd hx hn lf
        go_wp2
        go_roundw
        case rel => exact ⟨k + 1, hlt, by first | rfl | (rw [W1]; rfl), HP.out.1, HP.out.2⟩
        case measure => first | exact meas_lt8 hlt | (rw [W1]; exact meas_lt8 hlt)
      · have hkn : k = n := by omega
        subst hkn
        clear hx hd
        go_wp2
        go_ret
        exact ⟨rfl, ho, hr⟩
  · have hn0 : n = 0 := by omega
    subst hn0
    go_enter Try.func35, Try.ntmps35
    go_wp2
    refine wp_loop_rounds 1 ?_
    rw [rounds_succ]
    go_wp2
    go_ret
    exact ⟨rfl, Only.refl _ _, hR⟩
theorem kxor_far (n g o N : Nat) (F S : Nat → Nat) (a : Option Addr) (ca : Nat) (v : Value) (w : World) (hca : n ≤ ca) (hcb : ca ≤ big) (hn : n ≤ big)
    (hR : Rw w g N F) (hd : 0 < n → a = some ⟨g, o, none⟩) (hoN : o + n ≤ N) (hx : Re (fun x => x = g) w v n S) :
    Calls Try.prog 35 #[.slice a n ca, v] w fun e w' => e = .returned (.int .i64 0) ∧ Kp g w w' ∧ Rw w' g N (pl F o n (fun j => F (o + j) ^^^ S j)) := by
  obtain ⟨x, cx, hv, hcx⟩ : ∃ x cx, v = .slice x n cx ∧ n ≤ cx := by obtain ⟨_, _, a, cap, h, h', _⟩ := id hx; exact ⟨a, cap, h, h'⟩
  subst hv
  exact (kxor_gen n g o N F (fun _ => S) a x ca cx w hn hR (fun h => ⟨hd h, hoN⟩) (fun h => (hx.fk.reads h).only)).mono fun e w' ⟨h1, h2, h3⟩ => ⟨h1, h2.kp, h3.congr (fun i _ => goes_far _ _ _ _ _ _)⟩
theorem kxor_same (n g o N : Nat) (F : Nat → Nat) (a : Option Addr) (ca : Nat) (w : World) (hca : n ≤ ca) (hcb : ca ≤ big) (hn : n ≤ big)
    (hR : Rw w g N F) (hd : 0 < n → a = some ⟨g, o, none⟩) (hoN : o + n ≤ N) :
    Calls Try.prog 35 #[.slice a n ca, .slice a n ca] w fun e w' => e = .returned (.int .i64 0) ∧ Kp g w w' ∧ Rw w' g N (pl F o n (fun j => F (o + j) ^^^ F (o + j))) :=
  (kxor_gen n g o N F (fun G i => G (o + i)) a a ca ca w hn hR (fun h => ⟨hd h, hoN⟩) (fun h => Reads.row (hd h) hoN)).mono fun e w' ⟨h1, h2, h3⟩ => ⟨h1, h2.kp, h3.congr (fun i _ => goes_same _ _ _ _ _)⟩
set_option maxHeartbeats 1000000 in
set_option maxRecDepth 100000 in
theorem kxor_lens (n m : Nat) (a x : Option Addr) (ca cx : Nat) (w : World) (hnm : n ≠ m) :
    Calls Try.prog 35 #[.slice a n ca, .slice x m cx] w fun e w' => e = .returned (.int .i64 6) ∧ Below w.heap.size w w' := by
  go_enter Try.func35, Try.ntmps35
  go_wp2
  go_ret
  exact ⟨rfl, Below.refl _ _⟩
end Go.Proofs.Ytdeophhcbkahgaa
