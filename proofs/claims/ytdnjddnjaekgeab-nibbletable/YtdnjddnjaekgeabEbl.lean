import Derived.Test.YtdnjddnjaekgeabEbk
namespace Go.Proofs.Ytdnjddnjaekgeab
open Go.RowKit Gf2
set_option linter.unusedVariables false

theorem kmul_far (p : Addr) (lo hi c n g o N : Nat) (F S : Nat → Nat) (a x : Option Addr) (ca cx : Nat) (w : World) (hk : Ker w p lo hi) (hc : c < 256) (hn : n ≤ big) (hg : g < lo ∨ hi ≤ g) (hR : Rw w g N F) (hd : 0 < n → a = some ⟨g, o, none⟩ ∧ o + n ≤ N) (hx : Far w g n x S) :
    Calls Try.prog 10 #[.pointer (some p), .int .u8 (c : Int), .slice a n ca, .slice x n cx] w fun e w' => e = .returned (.int .i64 0) ∧ Only g w w' ∧ Rw w' g N (pl F o n (fun i => fm 285 c (S i))) :=
  (kmul_gen p lo hi c n g o N F (fun _ => S) a x ca cx w hk hc hn hg hR hd (fun h => hx.reads h)).mono fun e w' ⟨h1, h2, h3⟩ => ⟨h1, h2, h3.congr (fun i _ => goes_far _ _ _ _ _ _)⟩
theorem kadd_far (p : Addr) (lo hi c n g o N : Nat) (F S : Nat → Nat) (a x : Option Addr) (ca cx : Nat) (w : World) (hk : Ker w p lo hi) (hc : c < 256) (hn : n ≤ big) (hg : g < lo ∨ hi ≤ g) (hR : Rw w g N F) (hd : 0 < n → a = some ⟨g, o, none⟩ ∧ o + n ≤ N) (hx : Far w g n x S) :
    Calls Try.prog 13 #[.pointer (some p), .int .u8 (c : Int), .slice a n ca, .slice x n cx] w fun e w' => e = .returned (.int .i64 0) ∧ Only g w w' ∧ Rw w' g N (pl F o n (fun i => F (o + i) ^^^ fm 285 c (S i))) :=
  (kadd_gen p lo hi c n g o N F (fun _ => S) a x ca cx w hk hc hn hg hR hd (fun h => hx.reads h)).mono fun e w' ⟨h1, h2, h3⟩ => ⟨h1, h2, h3.congr (fun i _ => goes_far _ _ _ _ _ _)⟩
theorem kmul_same (p : Addr) (lo hi c n g o N : Nat) (F : Nat → Nat) (a : Option Addr) (ca cx : Nat) (w : World) (hk : Ker w p lo hi) (hc : c < 256) (hn : n ≤ big) (hg : g < lo ∨ hi ≤ g) (hR : Rw w g N F) (hd : 0 < n → a = some ⟨g, o, none⟩ ∧ o + n ≤ N) :
    Calls Try.prog 10 #[.pointer (some p), .int .u8 (c : Int), .slice a n ca, .slice a n cx] w fun e w' => e = .returned (.int .i64 0) ∧ Only g w w' ∧ Rw w' g N (pl F o n (fun i => fm 285 c (F (o + i)))) :=
  (kmul_gen p lo hi c n g o N F (fun G i => G (o + i)) a a ca cx w hk hc hn hg hR hd (fun h => Reads.row (hd h).1 (hd h).2)).mono fun e w' ⟨h1, h2, h3⟩ => ⟨h1, h2, h3.congr (fun i _ => goes_same _ _ _ _ _)⟩
theorem kadd_same (p : Addr) (lo hi c n g o N : Nat) (F : Nat → Nat) (a : Option Addr) (ca cx : Nat) (w : World) (hk : Ker w p lo hi) (hc : c < 256) (hn : n ≤ big) (hg : g < lo ∨ hi ≤ g) (hR : Rw w g N F) (hd : 0 < n → a = some ⟨g, o, none⟩ ∧ o + n ≤ N) :
    Calls Try.prog 13 #[.pointer (some p), .int .u8 (c : Int), .slice a n ca, .slice a n cx] w fun e w' => e = .returned (.int .i64 0) ∧ Only g w w' ∧ Rw w' g N (pl F o n (fun i => F (o + i) ^^^ fm 285 c (F (o + i)))) :=
  (kadd_gen p lo hi c n g o N F (fun G i => G (o + i)) a a ca cx w hk hc hn hg hR hd (fun h => Reads.row (hd h).1 (hd h).2)).mono fun e w' ⟨h1, h2, h3⟩ => ⟨h1, h2, h3.congr (fun i _ => goes_same _ _ _ _ _)⟩
theorem kmul_lap (q : Nat) (p : Addr) (lo hi c n g o N : Nat) (F : Nat → Nat) (a x : Option Addr) (ca cx : Nat) (w : World) (hk : Ker w p lo hi) (hc : c < 256) (hn : n ≤ big) (hg : g < lo ∨ hi ≤ g) (hR : Rw w g N F) (hd : 0 < n → a = some ⟨g, o, none⟩ ∧ o + n ≤ N) (hx : 0 < n → x = some ⟨g, q, none⟩ ∧ q + n ≤ N) :
    Calls Try.prog 10 #[.pointer (some p), .int .u8 (c : Int), .slice a n ca, .slice x n cx] w fun e w' => e = .returned (.int .i64 0) ∧ Only g w w' ∧ ∃ G, Rw w' g N G ∧ ∀ i, (i < o ∨ o + n ≤ i) → G i = F i :=
  (kmul_gen p lo hi c n g o N F (fun G i => G (q + i)) a x ca cx w hk hc hn hg hR hd (fun h => Reads.row (hx h).1 (hx h).2)).mono fun e w' ⟨h1, h2, h3⟩ => ⟨h1, h2, _, h3, fun i hi => goes_out _ _ _ _ _ _ hi⟩
theorem kadd_lap (q : Nat) (p : Addr) (lo hi c n g o N : Nat) (F : Nat → Nat) (a x : Option Addr) (ca cx : Nat) (w : World) (hk : Ker w p lo hi) (hc : c < 256) (hn : n ≤ big) (hg : g < lo ∨ hi ≤ g) (hR : Rw w g N F) (hd : 0 < n → a = some ⟨g, o, none⟩ ∧ o + n ≤ N) (hx : 0 < n → x = some ⟨g, q, none⟩ ∧ q + n ≤ N) :
    Calls Try.prog 13 #[.pointer (some p), .int .u8 (c : Int), .slice a n ca, .slice x n cx] w fun e w' => e = .returned (.int .i64 0) ∧ Only g w w' ∧ ∃ G, Rw w' g N G ∧ ∀ i, (i < o ∨ o + n ≤ i) → G i = F i :=
  (kadd_gen p lo hi c n g o N F (fun G i => G (q + i)) a x ca cx w hk hc hn hg hR hd (fun h => Reads.row (hx h).1 (hx h).2)).mono fun e w' ⟨h1, h2, h3⟩ => ⟨h1, h2, _, h3, fun i hi => goes_out _ _ _ _ _ _ hi⟩

end Go.Proofs.Ytdnjddnjaekgeab
