import Derived.Test.YtdeophhcbkahgaaKj3
namespace Go.Proofs.Ytdeophhcbkahgaa
open Go.RowKit Gf2
set_option linter.unusedVariables false

set_option maxHeartbeats 2000000 in
set_option maxRecDepth 100000 in
theorem isnil9_no (p : Addr) (bk lo hi : Nat) (w : World) (hk : Ks w p bk lo hi) :
    Calls Try.prog 24 #[.pointer (some p)] w fun e w' => e = .returned (.bool false) ∧ w' = w := by
  obtain ⟨g, T, q, mid, rfl, -, -, -, -, -, i0, i1⟩ := hk
  go_enter Try.func24, Try.ntmps24
  go_wp2
  go_ret
  exact ⟨rfl, rfl⟩
set_option maxHeartbeats 2000000 in
set_option maxRecDepth 100000 in
theorem isnil9_yes (w : World) :
    Calls Try.prog 24 #[.pointer none] w fun e w' => e = .returned (.bool true) ∧ w' = w := by
  go_enter Try.func24, Try.ntmps24
  go_wp2
  go_ret
  exact ⟨rfl, rfl⟩
set_option maxHeartbeats 2000000 in
set_option maxRecDepth 100000 in
theorem kback_ok (p : Addr) (b lo hi : Nat) (w : World) (hk : Ks w p b lo hi) :
    Calls Try.prog 23 #[.pointer (some p)] w fun e w' => e = .returned (.int .i64 (b : Int)) ∧ Below w.heap.size w w' := by
  have c0 := isnil9_no p b lo hi w hk
  obtain ⟨g, T, q, mid, rfl, -, -, -, -, -, i0, i1⟩ := hk
  go_enter Try.func23, Try.ntmps23
  go_wp2_with (go_at_call 24; (with_reducible refine c0.mono ?_); rintro e w9 ⟨rfl, hw9⟩; have hw9 := hw9.symm; subst hw9)
  go_ret
  exact ⟨rfl, Below.refl _ _⟩
set_option maxHeartbeats 2000000 in
set_option maxRecDepth 100000 in
theorem kback_nil (w : World) :
    Calls Try.prog 23 #[.pointer none] w fun e w' => e = .returned (.int .i64 (-1)) ∧ Below w.heap.size w w' := by
  have c0 := isnil9_yes
  go_enter Try.func23, Try.ntmps23
  go_wp2_with (go_at_call 24; (with_reducible refine (c0 _).mono ?_); rintro e w9 ⟨rfl, hw9⟩; have hw9 := hw9.symm; subst hw9)
  go_ret
  exact ⟨rfl, Below.refl _ _⟩
set_option maxHeartbeats 2000000 in
set_option maxRecDepth 100000 in
theorem kmul_far (p : Addr) (bk lo hi c n g o N : Nat) (F S : Nat → Nat) (a : Option Addr) (ca : Nat) (v : Value) (w : World) (hca : n ≤ ca) (hcb : ca ≤ big) (hk : Ks w p bk lo hi) (hc : c < 256) (hn : n ≤ big) (hg : g < lo ∨ hi ≤ g)
    (hR : Rw w g N F) (hd : 0 < n → a = some ⟨g, o, none⟩) (hoN : o + n ≤ N) (hx : Re (fun x => x = g) w v n S) :
    Calls Try.prog 34 #[.pointer (some p), .int .u8 (c : Int), .slice a n ca, v] w fun e w' => e = .returned (.int .i64 0) ∧ Kp g w w' ∧ Rw w' g N (pl F o n (fun j => fm 285 c (S j))) := by
  have c0 := isnil9_no p bk lo hi w hk
  obtain ⟨g0, T, q, mid, rfl, h1, h2, h3, h4, h5, i0, i1⟩ := hk
  obtain ⟨x, cx, hv, hcx⟩ : ∃ x cx, v = .slice x n cx ∧ n ≤ cx := by obtain ⟨_, _, a, cap, h, h', _⟩ := id hx; exact ⟨a, cap, h, h'⟩
  subst hv
  have hf := hx.fk
  have hg' : g < lo ∨ mid ≤ g := by omega
  rcases h5 with ⟨rfl, rfl, h5⟩ | ⟨rfl, rfl, h5⟩ | ⟨rfl, rfl, h5⟩
  · have hm : ∀ W, Sem.run Try.prog (method 248 83 (.pointer (some q)) "Mul") W = .ok (73, .pointer (some q)) W := fun _ => by kernel_rfl
    have c1 := t9mul_far q lo mid c n g o N F S a x ca cx w h5 hc hn hg' hca hcx hR hd hoN hf
    clear hx hf hd hR hg hg' hn hc h5
    go_enter Try.func34, Try.ntmps34
    go_wp2_with (first | (go_at_call 24; (with_reducible refine c0.mono ?_); rintro e w9 ⟨rfl, hw9⟩; have hw9 := hw9.symm; subst hw9) | (go_at_call 73; (with_reducible refine c1.mono ?_); rintro e w5 ⟨rfl, k5, r5⟩))
    go_ret
    exact ⟨rfl, k5, r5⟩
  · have hm : ∀ W, Sem.run Try.prog (method 248 85 (.pointer (some q)) "Mul") W = .ok (77, .pointer (some q)) W := fun _ => by kernel_rfl
    have c1 := n9mul_far q lo mid c n g o N F S a x ca cx w h5 hc hn hg' hca hcx hR hd hoN hf
    clear hx hf hd hR hg hg' hn hc h5
    go_enter Try.func34, Try.ntmps34
    go_wp2_with (first | (go_at_call 24; (with_reducible refine c0.mono ?_); rintro e w9 ⟨rfl, hw9⟩; have hw9 := hw9.symm; subst hw9) | (go_at_call 77; (with_reducible refine c1.mono ?_); rintro e w5 ⟨rfl, k5, r5⟩))
    go_ret
    exact ⟨rfl, k5, r5⟩
  · have hm : ∀ W, Sem.run Try.prog (method 248 87 (.pointer (some q)) "Mul") W = .ok (82, .pointer (some q)) W := fun _ => by kernel_rfl
    have c1 := s9mul_far q lo mid c n g o N F S a x ca cx w h5 hc hn hg' hca hcx hR hd hoN hf
    clear hx hf hd hR hg hg' hn hc h5
    go_enter Try.func34, Try.ntmps34
    go_wp2_with (first | (go_at_call 24; (with_reducible refine c0.mono ?_); rintro e w9 ⟨rfl, hw9⟩; have hw9 := hw9.symm; subst hw9) | (go_at_call 82; (with_reducible refine c1.mono ?_); rintro e w5 ⟨rfl, k5, r5⟩))
    go_ret
    exact ⟨rfl, k5, r5⟩
set_option maxHeartbeats 2000000 in
set_option maxRecDepth 100000 in
theorem kmul_same (p : Addr) (bk lo hi c n g o N : Nat) (F : Nat → Nat) (a : Option Addr) (ca : Nat) (w : World) (hca : n ≤ ca) (hcb : ca ≤ big) (hk : Ks w p bk lo hi) (hc : c < 256) (hn : n ≤ big) (hg : g < lo ∨ hi ≤ g)
    (hR : Rw w g N F) (hd : 0 < n → a = some ⟨g, o, none⟩) (hoN : o + n ≤ N) :
    Calls Try.prog 34 #[.pointer (some p), .int .u8 (c : Int), .slice a n ca, .slice a n ca] w fun e w' => e = .returned (.int .i64 0) ∧ Kp g w w' ∧ Rw w' g N (pl F o n (fun j => fm 285 c (F (o + j)))) := by
  have c0 := isnil9_no p bk lo hi w hk
  obtain ⟨g0, T, q, mid, rfl, h1, h2, h3, h4, h5, i0, i1⟩ := hk
  have hg' : g < lo ∨ mid ≤ g := by omega
  rcases h5 with ⟨rfl, rfl, h5⟩ | ⟨rfl, rfl, h5⟩ | ⟨rfl, rfl, h5⟩
  · have hm : ∀ W, Sem.run Try.prog (method 248 83 (.pointer (some q)) "Mul") W = .ok (73, .pointer (some q)) W := fun _ => by kernel_rfl
    have c1 := t9mul_same q lo mid c n g o N F a ca ca w h5 hc hn hg' hca hca hR hd hoN
    clear hd hR hg hg' hn hc h5
    go_enter Try.func34, Try.ntmps34
    go_wp2_with (first | (go_at_call 24; (with_reducible refine c0.mono ?_); rintro e w9 ⟨rfl, hw9⟩; have hw9 := hw9.symm; subst hw9) | (go_at_call 73; (with_reducible refine c1.mono ?_); rintro e w5 ⟨rfl, k5, r5⟩))
    go_ret
    exact ⟨rfl, k5, r5⟩
  · have hm : ∀ W, Sem.run Try.prog (method 248 85 (.pointer (some q)) "Mul") W = .ok (77, .pointer (some q)) W := fun _ => by kernel_rfl
    have c1 := n9mul_same q lo mid c n g o N F a ca ca w h5 hc hn hg' hca hca hR hd hoN
    clear hd hR hg hg' hn hc h5
    go_enter Try.func34, Try.ntmps34
    go_wp2_with (first | (go_at_call 24; (with_reducible refine c0.mono ?_); rintro e w9 ⟨rfl, hw9⟩; have hw9 := hw9.symm; subst hw9) | (go_at_call 77; (with_reducible refine c1.mono ?_); rintro e w5 ⟨rfl, k5, r5⟩))
    go_ret
    exact ⟨rfl, k5, r5⟩
  · have hm : ∀ W, Sem.run Try.prog (method 248 87 (.pointer (some q)) "Mul") W = .ok (82, .pointer (some q)) W := fun _ => by kernel_rfl
    have c1 := s9mul_same q lo mid c n g o N F a ca ca w h5 hc hn hg' hca hca hR hd hoN
    clear hd hR hg hg' hn hc h5
    go_enter Try.func34, Try.ntmps34
    go_wp2_with (first | (go_at_call 24; (with_reducible refine c0.mono ?_); rintro e w9 ⟨rfl, hw9⟩; have hw9 := hw9.symm; subst hw9) | (go_at_call 82; (with_reducible refine c1.mono ?_); rintro e w5 ⟨rfl, k5, r5⟩))
    go_ret
    exact ⟨rfl, k5, r5⟩
set_option maxHeartbeats 2000000 in
set_option maxRecDepth 100000 in
theorem kmul_lens (p : Addr) (bk lo hi c n m : Nat) (a x : Option Addr) (ca cx : Nat) (w : World) (hk : Ks w p bk lo hi) (hnm : n ≠ m) :
    Calls Try.prog 34 #[.pointer (some p), .int .u8 (c : Int), .slice a n ca, .slice x m cx] w fun e w' => e = .returned (.int .i64 6) ∧ Below w.heap.size w w' := by
  have c0 := isnil9_no p bk lo hi w hk
  obtain ⟨g0, T, q, mid, rfl, h1, h2, h3, h4, h5, i0, i1⟩ := hk
  rcases h5 with ⟨rfl, rfl, h5⟩ | ⟨rfl, rfl, h5⟩ | ⟨rfl, rfl, h5⟩
  · have hm : ∀ W, Sem.run Try.prog (method 248 83 (.pointer (some q)) "Mul") W = .ok (73, .pointer (some q)) W := fun _ => by kernel_rfl
    have c1 := t9mul_lens q lo mid c n m a x ca cx w h5 hnm
    clear h5
    go_enter Try.func34, Try.ntmps34
    go_wp2_with (first | (go_at_call 24; (with_reducible refine c0.mono ?_); rintro e w9 ⟨rfl, hw9⟩; have hw9 := hw9.symm; subst hw9) | (go_at_call 73; (with_reducible refine c1.mono ?_); rintro e w9 ⟨rfl, hw9⟩; have hw9 := hw9.symm; subst hw9))
    go_ret
    exact ⟨rfl, Below.refl _ _⟩
  · have hm : ∀ W, Sem.run Try.prog (method 248 85 (.pointer (some q)) "Mul") W = .ok (77, .pointer (some q)) W := fun _ => by kernel_rfl
    have c1 := nmul_lens q lo mid c n m a x ca cx w h5 hnm
    clear h5
    go_enter Try.func34, Try.ntmps34
    go_wp2_with (first | (go_at_call 24; (with_reducible refine c0.mono ?_); rintro e w9 ⟨rfl, hw9⟩; have hw9 := hw9.symm; subst hw9) | (go_at_call 77; (with_reducible refine c1.mono ?_); rintro e w9 ⟨rfl, hw9⟩; have hw9 := hw9.symm; subst hw9))
    go_ret
    exact ⟨rfl, Below.refl _ _⟩
  · have hm : ∀ W, Sem.run Try.prog (method 248 87 (.pointer (some q)) "Mul") W = .ok (82, .pointer (some q)) W := fun _ => by kernel_rfl
    have c1 := smul_lens q lo mid c n m a x ca cx w h5 hnm
    clear h5
    go_enter Try.func34, Try.ntmps34
    go_wp2_with (first | (go_at_call 24; (with_reducible refine c0.mono ?_); rintro e w9 ⟨rfl, hw9⟩; have hw9 := hw9.symm; subst hw9) | (go_at_call 82; (with_reducible refine c1.mono ?_); rintro e w9 ⟨rfl, hw9⟩; have hw9 := hw9.symm; subst hw9))
    go_ret
    exact ⟨rfl, Below.refl _ _⟩
set_option maxHeartbeats 2000000 in
set_option maxRecDepth 100000 in
theorem kmul_nil (c : Int) (u v : Value) (w : World) :
    Calls Try.prog 34 #[.pointer none, .int .u8 c, u, v] w fun e w' => e = .returned (.int .i64 1) ∧ Below w.heap.size w w' := by
  have c0 := isnil9_yes
  go_enter Try.func34, Try.ntmps34
  go_wp2_with (go_at_call 24; (with_reducible refine (c0 _).mono ?_); rintro e w9 ⟨rfl, hw9⟩; have hw9 := hw9.symm; subst hw9)
  go_ret
  exact ⟨rfl, Below.refl _ _⟩
set_option maxHeartbeats 2000000 in
set_option maxRecDepth 100000 in
theorem kadd_far (p : Addr) (bk lo hi c n g o N : Nat) (F S : Nat → Nat) (a : Option Addr) (ca : Nat) (v : Value) (w : World) (hca : n ≤ ca) (hcb : ca ≤ big) (hk : Ks w p bk lo hi) (hc : c < 256) (hn : n ≤ big) (hg : g < lo ∨ hi ≤ g)
    (hR : Rw w g N F) (hd : 0 < n → a = some ⟨g, o, none⟩) (hoN : o + n ≤ N) (hx : Re (fun x => x = g) w v n S) :
    Calls Try.prog 10 #[.pointer (some p), .int .u8 (c : Int), .slice a n ca, v] w fun e w' => e = .returned (.int .i64 0) ∧ Kp g w w' ∧ Rw w' g N (pl F o n (fun j => F (o + j) ^^^ fm 285 c (S j))) := by
  have c0 := isnil9_no p bk lo hi w hk
  obtain ⟨g0, T, q, mid, rfl, h1, h2, h3, h4, h5, i0, i1⟩ := hk
  obtain ⟨x, cx, hv, hcx⟩ : ∃ x cx, v = .slice x n cx ∧ n ≤ cx := by obtain ⟨_, _, a, cap, h, h', _⟩ := id hx; exact ⟨a, cap, h, h'⟩
  subst hv
  have hf := hx.fk
  have hg' : g < lo ∨ mid ≤ g := by omega
  rcases h5 with ⟨rfl, rfl, h5⟩ | ⟨rfl, rfl, h5⟩ | ⟨rfl, rfl, h5⟩
  · have hm : ∀ W, Sem.run Try.prog (method 248 83 (.pointer (some q)) "MulAdd") W = .ok (74, .pointer (some q)) W := fun _ => by kernel_rfl
    have c1 := t9add_far q lo mid c n g o N F S a x ca cx w h5 hc hn hg' hca hcx hR hd hoN hf
    clear hx hf hd hR hg hg' hn hc h5
    go_enter Try.func10, Try.ntmps10
    go_wp2_with (first | (go_at_call 24; (with_reducible refine c0.mono ?_); rintro e w9 ⟨rfl, hw9⟩; have hw9 := hw9.symm; subst hw9) | (go_at_call 74; (with_reducible refine c1.mono ?_); rintro e w5 ⟨rfl, k5, r5⟩))
    go_ret
    exact ⟨rfl, k5, r5⟩
  · have hm : ∀ W, Sem.run Try.prog (method 248 85 (.pointer (some q)) "MulAdd") W = .ok (78, .pointer (some q)) W := fun _ => by kernel_rfl
    have c1 := n9add_far q lo mid c n g o N F S a x ca cx w h5 hc hn hg' hca hcx hR hd hoN hf
    clear hx hf hd hR hg hg' hn hc h5
    go_enter Try.func10, Try.ntmps10
    go_wp2_with (first | (go_at_call 24; (with_reducible refine c0.mono ?_); rintro e w9 ⟨rfl, hw9⟩; have hw9 := hw9.symm; subst hw9) | (go_at_call 78; (with_reducible refine c1.mono ?_); rintro e w5 ⟨rfl, k5, r5⟩))
    go_ret
    exact ⟨rfl, k5, r5⟩
  · have hm : ∀ W, Sem.run Try.prog (method 248 87 (.pointer (some q)) "MulAdd") W = .ok (83, .pointer (some q)) W := fun _ => by kernel_rfl
    have c1 := s9add_far q lo mid c n g o N F S a x ca cx w h5 hc hn hg' hca hcx hR hd hoN hf
    clear hx hf hd hR hg hg' hn hc h5
    go_enter Try.func10, Try.ntmps10
    go_wp2_with (first | (go_at_call 24; (with_reducible refine c0.mono ?_); rintro e w9 ⟨rfl, hw9⟩; have hw9 := hw9.symm; subst hw9) | (go_at_call 83; (with_reducible refine c1.mono ?_); rintro e w5 ⟨rfl, k5, r5⟩))
    go_ret
    exact ⟨rfl, k5, r5⟩
set_option maxHeartbeats 2000000 in
set_option maxRecDepth 100000 in
theorem kadd_same (p : Addr) (bk lo hi c n g o N : Nat) (F : Nat → Nat) (a : Option Addr) (ca : Nat) (w : World) (hca : n ≤ ca) (hcb : ca ≤ big) (hk : Ks w p bk lo hi) (hc : c < 256) (hn : n ≤ big) (hg : g < lo ∨ hi ≤ g)
    (hR : Rw w g N F) (hd : 0 < n → a = some ⟨g, o, none⟩) (hoN : o + n ≤ N) :
    Calls Try.prog 10 #[.pointer (some p), .int .u8 (c : Int), .slice a n ca, .slice a n ca] w fun e w' => e = .returned (.int .i64 0) ∧ Kp g w w' ∧ Rw w' g N (pl F o n (fun j => F (o + j) ^^^ fm 285 c (F (o + j)))) := by
  have c0 := isnil9_no p bk lo hi w hk
  obtain ⟨g0, T, q, mid, rfl, h1, h2, h3, h4, h5, i0, i1⟩ := hk
  have hg' : g < lo ∨ mid ≤ g := by omega
  rcases h5 with ⟨rfl, rfl, h5⟩ | ⟨rfl, rfl, h5⟩ | ⟨rfl, rfl, h5⟩
  · have hm : ∀ W, Sem.run Try.prog (method 248 83 (.pointer (some q)) "MulAdd") W = .ok (74, .pointer (some q)) W := fun _ => by kernel_rfl
    have c1 := t9add_same q lo mid c n g o N F a ca ca w h5 hc hn hg' hca hca hR hd hoN
    clear hd hR hg hg' hn hc h5
    go_enter Try.func10, Try.ntmps10
    go_wp2_with (first | (go_at_call 24; (with_reducible refine c0.mono ?_); rintro e w9 ⟨rfl, hw9⟩; have hw9 := hw9.symm; subst hw9) | (go_at_call 74; (with_reducible refine c1.mono ?_); rintro e w5 ⟨rfl, k5, r5⟩))
    go_ret
    exact ⟨rfl, k5, r5⟩
  · have hm : ∀ W, Sem.run Try.prog (method 248 85 (.pointer (some q)) "MulAdd") W = .ok (78, .pointer (some q)) W := fun _ => by kernel_rfl
    have c1 := n9add_same q lo mid c n g o N F a ca ca w h5 hc hn hg' hca hca hR hd hoN
    clear hd hR hg hg' hn hc h5
    go_enter Try.func10, Try.ntmps10
    go_wp2_with (first | (go_at_call 24; (with_reducible refine c0.mono ?_); rintro e w9 ⟨rfl, hw9⟩; have hw9 := hw9.symm; subst hw9) | (go_at_call 78; (with_reducible refine c1.mono ?_); rintro e w5 ⟨rfl, k5, r5⟩))
    go_ret
    exact ⟨rfl, k5, r5⟩
  · have hm : ∀ W, Sem.run Try.prog (method 248 87 (.pointer (some q)) "MulAdd") W = .ok (83, .pointer (some q)) W := fun _ => by kernel_rfl
    have c1 := s9add_same q lo mid c n g o N F a ca ca w h5 hc hn hg' hca hca hR hd hoN
    clear hd hR hg hg' hn hc h5
    go_enter Try.func10, Try.ntmps10
    go_wp2_with (first | (go_at_call 24; (with_reducible refine c0.mono ?_); rintro e w9 ⟨rfl, hw9⟩; have hw9 := hw9.symm; subst hw9) | (go_at_call 83; (with_reducible refine c1.mono ?_); rintro e w5 ⟨rfl, k5, r5⟩))
    go_ret
    exact ⟨rfl, k5, r5⟩
set_option maxHeartbeats 2000000 in
set_option maxRecDepth 100000 in
theorem kadd_lens (p : Addr) (bk lo hi c n m : Nat) (a x : Option Addr) (ca cx : Nat) (w : World) (hk : Ks w p bk lo hi) (hnm : n ≠ m) :
    Calls Try.prog 10 #[.pointer (some p), .int .u8 (c : Int), .slice a n ca, .slice x m cx] w fun e w' => e = .returned (.int .i64 6) ∧ Below w.heap.size w w' := by
  have c0 := isnil9_no p bk lo hi w hk
  obtain ⟨g0, T, q, mid, rfl, h1, h2, h3, h4, h5, i0, i1⟩ := hk
  rcases h5 with ⟨rfl, rfl, h5⟩ | ⟨rfl, rfl, h5⟩ | ⟨rfl, rfl, h5⟩
  · have hm : ∀ W, Sem.run Try.prog (method 248 83 (.pointer (some q)) "MulAdd") W = .ok (74, .pointer (some q)) W := fun _ => by kernel_rfl
    have c1 := t9add_lens q lo mid c n m a x ca cx w h5 hnm
    clear h5
    go_enter Try.func10, Try.ntmps10
    go_wp2_with (first | (go_at_call 24; (with_reducible refine c0.mono ?_); rintro e w9 ⟨rfl, hw9⟩; have hw9 := hw9.symm; subst hw9) | (go_at_call 74; (with_reducible refine c1.mono ?_); rintro e w9 ⟨rfl, hw9⟩; have hw9 := hw9.symm; subst hw9))
    go_ret
    exact ⟨rfl, Below.refl _ _⟩
  · have hm : ∀ W, Sem.run Try.prog (method 248 85 (.pointer (some q)) "MulAdd") W = .ok (78, .pointer (some q)) W := fun _ => by kernel_rfl
    have c1 := nadd_lens q lo mid c n m a x ca cx w h5 hnm
    clear h5
    go_enter Try.func10, Try.ntmps10
    go_wp2_with (first | (go_at_call 24; (with_reducible refine c0.mono ?_); rintro e w9 ⟨rfl, hw9⟩; have hw9 := hw9.symm; subst hw9) | (go_at_call 78; (with_reducible refine c1.mono ?_); rintro e w9 ⟨rfl, hw9⟩; have hw9 := hw9.symm; subst hw9))
    go_ret
    exact ⟨rfl, Below.refl _ _⟩
  · have hm : ∀ W, Sem.run Try.prog (method 248 87 (.pointer (some q)) "MulAdd") W = .ok (83, .pointer (some q)) W := fun _ => by kernel_rfl
    have c1 := sadd_lens q lo mid c n m a x ca cx w h5 hnm
    clear h5
    go_enter Try.func10, Try.ntmps10
    go_wp2_with (first | (go_at_call 24; (with_reducible refine c0.mono ?_); rintro e w9 ⟨rfl, hw9⟩; have hw9 := hw9.symm; subst hw9) | (go_at_call 83; (with_reducible refine c1.mono ?_); rintro e w9 ⟨rfl, hw9⟩; have hw9 := hw9.symm; subst hw9))
    go_ret
    exact ⟨rfl, Below.refl _ _⟩
set_option maxHeartbeats 2000000 in
set_option maxRecDepth 100000 in
theorem kadd_nil (c : Int) (u v : Value) (w : World) :
    Calls Try.prog 10 #[.pointer none, .int .u8 c, u, v] w fun e w' => e = .returned (.int .i64 1) ∧ Below w.heap.size w w' := by
  have c0 := isnil9_yes
  go_enter Try.func10, Try.ntmps10
  go_wp2_with (go_at_call 24; (with_reducible refine (c0 _).mono ?_); rintro e w9 ⟨rfl, hw9⟩; have hw9 := hw9.symm; subst hw9)
  go_ret
  exact ⟨rfl, Below.refl _ _⟩
end Go.Proofs.Ytdeophhcbkahgaa
