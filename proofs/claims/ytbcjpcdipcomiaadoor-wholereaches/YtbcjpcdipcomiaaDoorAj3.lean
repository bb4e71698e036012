import Derived.Test.YtbcjpcdipcomiaaDoorAj2
namespace Go.Proofs.YtbcjpcdipcomiaaDoor
open Go.RowKit Gf2
set_option linter.unusedVariables false

-- layer 14: one block of a list turned
theorem R6.src {w : World} {g N p n : Nat} {F : Nat → Nat} (h : R6 w g N F) (hp : p + n ≤ N) : ∀ i, i < n → w.cell? ⟨g, p + i, none⟩ = some (.int .u16 (F (p + i) : Nat)) := fun i hi => h.2.2.cell (i := p + i) (by omega)
theorem R6.srl {w : World} {g N p n : Nat} {F : Nat → Nat} (h : R6 w g N F) (hp : p + n ≤ N) : ∀ i, i < n → F (p + i) < 65536 := fun i hi => h.2.1 (p + i) (by omega)
set_option maxHeartbeats 4000000 in
set_option maxRecDepth 100000 in
theorem evalL14 (g N m t H c1 c2 lo q c : Nat) (F : Nat → Nat) (w : World) (hf : Fac w lo q c) (hg : g < lo) (hR : R6 w g N F) (hH : H = 2 ^ t) (hm : m + 2 * H ≤ N) (hN : N ≤ 140737488355328) (M : Nat) (hM : M = m + H) :
    Calls Tryd.prog 15 #[.pointer (some ⟨q, 0, none⟩), .slice (some ⟨g, m, none⟩) H c1, .slice (some ⟨g, M, none⟩) H c2] w fun e w' => e = .returned (.tuple #[]) ∧ R6 w' g N (tf m t c F) ∧ Only g w w' := by
  subst hM
  have k1 : Calls Tryd.prog 23 #[.pointer (some ⟨q, 0, none⟩), .slice (some ⟨g, m, none⟩) H c1, .slice (some ⟨g, m + H, none⟩) H c2] w fun e w1 => e = .returned (.tuple #[]) ∧
      Calls Tryd.prog 22 #[.slice (some ⟨g, m + H, none⟩) H c2, .slice (some ⟨g, m, none⟩) H c1] w1 fun e w2 => e = .returned (.tuple #[]) ∧ Hid (R6 w2 g N (tf m t c F) ∧ Only g w w2) := by
    refine (addProducts14 _ _ g N m H c1 g (m + H) c2 lo q c F (fun i => F (m + H + i)) w hf hg hR (by omega) (by omega) (fun _ => rfl) (fun _ => rfl) (hR.srl (by omega)) (hR.src (by omega)) (.inr ⟨by omega, .inr (Nat.le_refl _)⟩)).mono fun e w1 ⟨he, r1, o1⟩ => ⟨he, ?_⟩
    refine (add14 _ _ g N (m + H) H c2 g m c1 _ (fun i => ap c m (m + H) H F (m + i)) w1 r1 (by omega) (by omega) (fun _ => rfl) (fun _ => rfl) (r1.srl (by omega)) (r1.src (by omega)) (.inr ⟨by omega, .inl (Nat.le_refl _)⟩)).mono fun e w2 ⟨he, r2, o2⟩ => ⟨he, ⟨r2.congr (fun i hi => ?_), o1.trans o2⟩⟩
    rw [hH]
    exact congrFun (tf_two m t c F) i
  clear hf hg hR hH hm hN
  go_enter Tryd.func15, Tryd.ntmps15
  go_wp2_with (first | (go_at_call 23; ((with_reducible refine (k1).mono ?_); (rintro e w1 ⟨rfl, k2⟩))) | (go_at_call 22; ((with_reducible refine (k2).mono ?_); (rintro e w2 ⟨rfl, HV⟩))))
  ((try simp only [Exit.inBlock, Exit.then]); first | (refine bodyPost_ret (results_none rfl _ _ _) rfl ?_) | (refine bodyPost_end (results_none rfl _ _ _) rfl ?_))
  exact ⟨rfl, HV.out⟩
set_option maxHeartbeats 4000000 in
set_option maxRecDepth 100000 in
theorem interL14 (g N m t H c1 c2 lo q c : Nat) (F : Nat → Nat) (w : World) (hf : Fac w lo q c) (hg : g < lo) (hR : R6 w g N F) (hH : H = 2 ^ t) (hm : m + 2 * H ≤ N) (hN : N ≤ 140737488355328) (M : Nat) (hM : M = m + H) :
    Calls Tryd.prog 13 #[.pointer (some ⟨q, 0, none⟩), .slice (some ⟨g, m, none⟩) H c1, .slice (some ⟨g, M, none⟩) H c2] w fun e w' => e = .returned (.tuple #[]) ∧ R6 w' g N (ti m t c F) ∧ Only g w w' := by
  subst hM
  have k1 : Calls Tryd.prog 22 #[.slice (some ⟨g, m + H, none⟩) H c2, .slice (some ⟨g, m, none⟩) H c1] w fun e w1 => e = .returned (.tuple #[]) ∧
      Calls Tryd.prog 23 #[.pointer (some ⟨q, 0, none⟩), .slice (some ⟨g, m, none⟩) H c1, .slice (some ⟨g, m + H, none⟩) H c2] w1 fun e w2 => e = .returned (.tuple #[]) ∧ Hid (R6 w2 g N (ti m t c F) ∧ Only g w w2) := by
    refine (add14 _ _ g N (m + H) H c2 g m c1 F (fun i => F (m + i)) w hR (by omega) (by omega) (fun _ => rfl) (fun _ => rfl) (hR.srl (by omega)) (hR.src (by omega)) (.inr ⟨by omega, .inl (Nat.le_refl _)⟩)).mono fun e w1 ⟨he, r1, o1⟩ => ⟨he, ?_⟩
    refine (addProducts14 _ _ g N m H c1 g (m + H) c2 lo q c _ (fun i => ad (m + H) m H F (m + H + i)) w1 (hf.kp o1.kp hg) hg r1 (by omega) (by omega) (fun _ => rfl) (fun _ => rfl) (r1.srl (by omega)) (r1.src (by omega)) (.inr ⟨by omega, .inr (Nat.le_refl _)⟩)).mono fun e w2 ⟨he, r2, o2⟩ => ⟨he, ⟨r2.congr (fun i hi => ?_), o1.trans o2⟩⟩
    rw [hH]
    exact congrFun (ti_two m t c F) i
  clear hf hg hR hH hm hN
  go_enter Tryd.func13, Tryd.ntmps13
  go_wp2_with (first | (go_at_call 22; ((with_reducible refine (k1).mono ?_); (rintro e w1 ⟨rfl, k2⟩))) | (go_at_call 23; ((with_reducible refine (k2).mono ?_); (rintro e w2 ⟨rfl, HV⟩))))
  ((try simp only [Exit.inBlock, Exit.then]); first | (refine bodyPost_ret (results_none rfl _ _ _) rfl ?_) | (refine bodyPost_end (results_none rfl _ _ _) rfl ?_))
  exact ⟨rfl, HV.out⟩
/-- the change of a direction. -/
def chg (b : Bool) : Nat := if b then 13 else 15
/-- a block's turn in a direction. -/
def tn (b : Bool) (m t S : Nat) (F : Nat → Nat) : Nat → Nat := if b then ti m t S F else tf m t S F
theorem chgL14 (b : Bool) (g N m t H c1 c2 lo q c : Nat) (F : Nat → Nat) (w : World) (hf : Fac w lo q c) (hg : g < lo) (hR : R6 w g N F) (hH : H = 2 ^ t) (hm : m + 2 * H ≤ N) (hN : N ≤ 140737488355328) (M : Nat) (hM : M = m + H) :
    Calls Tryd.prog (chg b) #[.pointer (some ⟨q, 0, none⟩), .slice (some ⟨g, m, none⟩) H c1, .slice (some ⟨g, M, none⟩) H c2] w fun e w' => e = .returned (.tuple #[]) ∧ R6 w' g N (tn b m t c F) ∧ Only g w w' := by
  cases b
  · exact evalL14 g N m t H c1 c2 lo q c F w hf hg hR hH hm hN M hM
  · exact interL14 g N m t H c1 c2 lo q c F w hf hg hR hH hm hN M hM
set_option maxHeartbeats 4000000 in
set_option maxRecDepth 100000 in
theorem ofList14 (a : Option Addr) (n cap K : Nat) (w : World) :
    Calls Tryd.prog 12 #[.slice a n cap, .func (.func K) #[] #[]] w fun e w' => e = .returned (.func (.func 20) #[] #[.pointer (some ⟨w.heap.size + 1, 0, none⟩), .pointer (some ⟨w.heap.size, 0, none⟩)]) ∧ w'.heap.size = w.heap.size + 2 ∧
      w'.cell? ⟨w.heap.size, 0, none⟩ = some (.slice a n cap) ∧ w'.cell? ⟨w.heap.size + 1, 0, none⟩ = some (.func (.func K) #[] #[]) ∧ Below w.heap.size w w' := by
  go_enter Tryd.func12, Tryd.ntmps12
  go_wp2
  go_ret
  have b1 := below_alloc w (.cells #[.slice a n cap] 22)
  have b2 := below_alloc (w.alloc (.cells #[.slice a n cap] 22)) (.cells #[.func (.func K) #[] #[]] 43)
  refine ⟨rfl, by simp, ?_, ?_, bthen13 b1 b2⟩
  · rw [b2.cell (p := ⟨w.heap.size, 0, none⟩) (by simp), cell_of_row _ w.heap.size 0 _ _ _ (heap_alloc_new _ _)]; rfl
  · have := heap_alloc_new (w.alloc (.cells #[.slice a n cap] 22)) (.cells #[.func (.func K) #[] #[]] 43)
    rw [show (w.alloc (.cells #[.slice a n cap] 22)).heap.size = w.heap.size + 1 by simp] at this
    rw [cell_of_row _ (w.heap.size + 1) 0 _ _ _ this]; rfl
end Go.Proofs.YtbcjpcdipcomiaaDoor
namespace Go.Proofs.YtbcjpcdipcomiaaDoor
open Go.RowKit Gf2
set_option linter.unusedVariables false

-- layer 14: the closure of a list (laid by wip/genagf.py)
set_option maxHeartbeats 4000000 in
set_option maxRecDepth 100000 in
theorem turnL14f (g N m t H c bl bd : Nat) (F : Nat → Nat) (w : World) (hl : w.cell? ⟨bl, 0, none⟩ = some (.slice (some ⟨g, 0, none⟩) N N)) (hd : w.cell? ⟨bd, 0, none⟩ = some (.func (.func 15) #[] #[]))
    (h1 : bl ≠ g) (h2 : bd ≠ g) (h3 : bl < w.heap.size) (h4 : bd < w.heap.size) (hR : R6 w g N F) (hc : c < 65536) (hH : H = 2 ^ t) (hm : m + 2 * H ≤ N) (hN : N ≤ 65536) :
    Calls Tryd.prog 20 #[.int .i64 (m : Int), .int .i64 (H : Int), .int .u16 (c : Nat), .pointer (some ⟨bd, 0, none⟩), .pointer (some ⟨bl, 0, none⟩)] w fun e w' => e = .returned (.tuple #[]) ∧ R6 w' g N (tf m t c F) ∧ Kp g w w' := by
  obtain ⟨M, hM⟩ : ∃ M, M = m + H := ⟨_, rfl⟩
  obtain ⟨E, hE⟩ : ∃ E, E = M + H := ⟨_, rfl⟩
  have H0 : 0 < H := by rw [hH]; exact Nat.two_pow_pos t
  have C1 : ∀ W, (Instr.slice 22 (.slice (some ⟨g, 0, none⟩) N N) (some (.int .i64 (m : Int))) (some (.int .i64 (M : Int))) none).run Tryd.prog W = .ok (.slice (some ⟨g, m, none⟩) H (N - m)) W := fun W => by
    rw [cut6 g 0 N N m M (by omega) (by omega) (Nat.le_refl _), Nat.zero_add, show M - m = H by omega]
  have C2 : ∀ W, (Instr.slice 22 (.slice (some ⟨g, 0, none⟩) N N) (some (.int .i64 (M : Int))) (some (.int .i64 (E : Int))) none).run Tryd.prog W = .ok (.slice (some ⟨g, M, none⟩) H (N - M)) W := fun W => by
    rw [cut6 g 0 N N M E (by omega) (by omega) (Nat.le_refl _), Nat.zero_add, show E - M = H by omega]
  have k1 : Calls Tryd.prog 21 #[.int .u16 (c : Nat), .int .i64 (H : Int)] w.drew fun e w1 => ∃ q, e = .returned (.pointer (some ⟨q, 0, none⟩)) ∧ (w1.cell? ⟨bd, 0, none⟩ = some (.func (.func 15) #[] #[]) ∧ w1.cell? ⟨bl, 0, none⟩ = some (.slice (some ⟨g, 0, none⟩) N N)) ∧
      Calls Tryd.prog 15 #[.pointer (some ⟨q, 0, none⟩), .slice (some ⟨g, m, none⟩) H (N - m), .slice (some ⟨g, M, none⟩) H (N - M)] w1 fun e w2 => e = .returned (.tuple #[]) ∧ (w2.cell? ⟨bd, 0, none⟩ = some (.func (.func 15) #[] #[]) ∧ w2.cell? ⟨bl, 0, none⟩ = some (.slice (some ⟨g, 0, none⟩) N N)) ∧ Hid (R6 w2 g N (tf m t c F) ∧ Kp g w w2) := by
    refine (newFactor14 c H hc w.drew).mono fun e w1 ⟨q, he, hf, b1⟩ => ⟨q, he, ⟨(b1.cell (p := ⟨bd, 0, none⟩) h4).trans hd, (b1.cell (p := ⟨bl, 0, none⟩) h3).trans hl⟩, ?_⟩
    have b1' : Below w.heap.size w w1 := ⟨b1.os, b1.tape, b1.output, b1.size, b1.block⟩
    refine (evalL14 g N m t H (N - m) (N - M) w.heap.size q c F w1 hf hR.lt (hR.below b1') hH hm (by omega) M hM).mono fun e w2 ⟨he, r2, o2⟩ => ⟨he, ⟨?_, ?_⟩, ⟨r2, (kp_below b1' g).trans o2.kp⟩⟩
    · exact ((o2.kp.cell (Nat.lt_of_lt_of_le h4 b1'.size) h2).trans (b1.cell (p := ⟨bd, 0, none⟩) h4)).trans hd
    · exact ((o2.kp.cell (Nat.lt_of_lt_of_le h3 b1'.size) h1).trans (b1.cell (p := ⟨bl, 0, none⟩) h3)).trans hl
  have W1 := wrap_add_eq hM (by omega)
  have W2 := wrap_add_eq hE (by omega)
  clear h1 h2 h3 h4 hR hc hH hm hN hM hE H0
  have W3 := wrap_k W1
  have W4 := wrap_k W2
  go_enter Tryd.func20, Tryd.ntmps20
  go_wp2
  refine region_planI (fun w' => w'.cell? ⟨bd, 0, none⟩ = some (.func (.func 15) #[] #[]) ∧ w'.cell? ⟨bl, 0, none⟩ = some (.slice (some ⟨g, 0, none⟩) N N)) [0, 1, 2, 4, 5, 6, 7, 8, 9, 10, 11, 12, 13, 3, 14] [13, 0, 0] 27 ⟨hd, hl⟩ (by kernel_rfl) (by kernel_rfl) (fun _ a d v _ h => by cases d <;> exact h) ?_
  simp only [atI, List.getElem?_cons_zero, List.getElem?_cons_succ]
  refine planH_step ?A2 rfl (fun w' hS => ?s2) rfl (fun K hK => ?n2)
  case s2 =>
    obtain ⟨y1, y2⟩ := hS
    simp only [List.take_succ_cons, List.take_zero]
    repeat still_step
    exact rfl
  case n2 =>
  go_simp
  go_wp2_with (go_at_call 21; (with_reducible refine k1.mono ?_); rintro e w1 ⟨q, rfl, hs1, k2⟩)
  clear k1
  refine hK _ _ hs1 ?_
  clear hK K
  refine planH_step ?A3 rfl (fun w' hS => ?s3) rfl (fun K hK => ?n3)
  case s3 =>
    simp only [List.take_zero]
    exact rfl
  case n3 =>
  go_simp
  go_wp2_with (go_at_call 15; (with_reducible refine k2.mono ?_); rintro e w2 ⟨rfl, hs2, HV⟩)
  clear k2
  refine hK _ _ hs2 ?_
  clear hK K
  refine planH_last ?A4 rfl (fun w' hS => ?s4) rfl ?n4
  case s4 =>
    simp only [List.take_zero]
    exact rfl
  case n4 =>
  go_wp2
  ((try simp only [Exit.inBlock, Exit.then]); first | (refine bodyPost_ret (results_none rfl _ _ _) rfl ?_) | (refine bodyPost_end (results_none rfl _ _ _) rfl ?_))
  exact ⟨rfl, HV.out⟩
set_option maxHeartbeats 4000000 in
set_option maxRecDepth 100000 in
theorem turnL14b (g N m t H c bl bd : Nat) (F : Nat → Nat) (w : World) (hl : w.cell? ⟨bl, 0, none⟩ = some (.slice (some ⟨g, 0, none⟩) N N)) (hd : w.cell? ⟨bd, 0, none⟩ = some (.func (.func 13) #[] #[]))
    (h1 : bl ≠ g) (h2 : bd ≠ g) (h3 : bl < w.heap.size) (h4 : bd < w.heap.size) (hR : R6 w g N F) (hc : c < 65536) (hH : H = 2 ^ t) (hm : m + 2 * H ≤ N) (hN : N ≤ 65536) :
    Calls Tryd.prog 20 #[.int .i64 (m : Int), .int .i64 (H : Int), .int .u16 (c : Nat), .pointer (some ⟨bd, 0, none⟩), .pointer (some ⟨bl, 0, none⟩)] w fun e w' => e = .returned (.tuple #[]) ∧ R6 w' g N (ti m t c F) ∧ Kp g w w' := by
  obtain ⟨M, hM⟩ : ∃ M, M = m + H := ⟨_, rfl⟩
  obtain ⟨E, hE⟩ : ∃ E, E = M + H := ⟨_, rfl⟩
  have H0 : 0 < H := by rw [hH]; exact Nat.two_pow_pos t
  have C1 : ∀ W, (Instr.slice 22 (.slice (some ⟨g, 0, none⟩) N N) (some (.int .i64 (m : Int))) (some (.int .i64 (M : Int))) none).run Tryd.prog W = .ok (.slice (some ⟨g, m, none⟩) H (N - m)) W := fun W => by
    rw [cut6 g 0 N N m M (by omega) (by omega) (Nat.le_refl _), Nat.zero_add, show M - m = H by omega]
  have C2 : ∀ W, (Instr.slice 22 (.slice (some ⟨g, 0, none⟩) N N) (some (.int .i64 (M : Int))) (some (.int .i64 (E : Int))) none).run Tryd.prog W = .ok (.slice (some ⟨g, M, none⟩) H (N - M)) W := fun W => by
    rw [cut6 g 0 N N M E (by omega) (by omega) (Nat.le_refl _), Nat.zero_add, show E - M = H by omega]
  have k1 : Calls Tryd.prog 21 #[.int .u16 (c : Nat), .int .i64 (H : Int)] w.drew fun e w1 => ∃ q, e = .returned (.pointer (some ⟨q, 0, none⟩)) ∧ (w1.cell? ⟨bd, 0, none⟩ = some (.func (.func 13) #[] #[]) ∧ w1.cell? ⟨bl, 0, none⟩ = some (.slice (some ⟨g, 0, none⟩) N N)) ∧
      Calls Tryd.prog 13 #[.pointer (some ⟨q, 0, none⟩), .slice (some ⟨g, m, none⟩) H (N - m), .slice (some ⟨g, M, none⟩) H (N - M)] w1 fun e w2 => e = .returned (.tuple #[]) ∧ (w2.cell? ⟨bd, 0, none⟩ = some (.func (.func 13) #[] #[]) ∧ w2.cell? ⟨bl, 0, none⟩ = some (.slice (some ⟨g, 0, none⟩) N N)) ∧ Hid (R6 w2 g N (ti m t c F) ∧ Kp g w w2) := by
    refine (newFactor14 c H hc w.drew).mono fun e w1 ⟨q, he, hf, b1⟩ => ⟨q, he, ⟨(b1.cell (p := ⟨bd, 0, none⟩) h4).trans hd, (b1.cell (p := ⟨bl, 0, none⟩) h3).trans hl⟩, ?_⟩
    have b1' : Below w.heap.size w w1 := ⟨b1.os, b1.tape, b1.output, b1.size, b1.block⟩
    refine (interL14 g N m t H (N - m) (N - M) w.heap.size q c F w1 hf hR.lt (hR.below b1') hH hm (by omega) M hM).mono fun e w2 ⟨he, r2, o2⟩ => ⟨he, ⟨?_, ?_⟩, ⟨r2, (kp_below b1' g).trans o2.kp⟩⟩
    · exact ((o2.kp.cell (Nat.lt_of_lt_of_le h4 b1'.size) h2).trans (b1.cell (p := ⟨bd, 0, none⟩) h4)).trans hd
    · exact ((o2.kp.cell (Nat.lt_of_lt_of_le h3 b1'.size) h1).trans (b1.cell (p := ⟨bl, 0, none⟩) h3)).trans hl
  have W1 := wrap_add_eq hM (by omega)
  have W2 := wrap_add_eq hE (by omega)
  clear h1 h2 h3 h4 hR hc hH hm hN hM hE H0
  have W3 := wrap_k W1
  have W4 := wrap_k W2
  go_enter Tryd.func20, Tryd.ntmps20
  go_wp2
  refine region_planI (fun w' => w'.cell? ⟨bd, 0, none⟩ = some (.func (.func 13) #[] #[]) ∧ w'.cell? ⟨bl, 0, none⟩ = some (.slice (some ⟨g, 0, none⟩) N N)) [0, 1, 2, 4, 5, 6, 7, 8, 9, 10, 11, 12, 13, 3, 14] [13, 0, 0] 27 ⟨hd, hl⟩ (by kernel_rfl) (by kernel_rfl) (fun _ a d v _ h => by cases d <;> exact h) ?_
  simp only [atI, List.getElem?_cons_zero, List.getElem?_cons_succ]
  refine planH_step ?A2 rfl (fun w' hS => ?s2) rfl (fun K hK => ?n2)
  case s2 =>
    obtain ⟨y1, y2⟩ := hS
    simp only [List.take_succ_cons, List.take_zero]
    repeat still_step
    exact rfl
  case n2 =>
  go_simp
  go_wp2_with (go_at_call 21; (with_reducible refine k1.mono ?_); rintro e w1 ⟨q, rfl, hs1, k2⟩)
  clear k1
  refine hK _ _ hs1 ?_
  clear hK K
  refine planH_step ?A3 rfl (fun w' hS => ?s3) rfl (fun K hK => ?n3)
  case s3 =>
    simp only [List.take_zero]
    exact rfl
  case n3 =>
  go_simp
  go_wp2_with (go_at_call 13; (with_reducible refine k2.mono ?_); rintro e w2 ⟨rfl, hs2, HV⟩)
  clear k2
  refine hK _ _ hs2 ?_
  clear hK K
  refine planH_last ?A4 rfl (fun w' hS => ?s4) rfl ?n4
  case s4 =>
    simp only [List.take_zero]
    exact rfl
  case n4 =>
  go_wp2
  ((try simp only [Exit.inBlock, Exit.then]); first | (refine bodyPost_ret (results_none rfl _ _ _) rfl ?_) | (refine bodyPost_end (results_none rfl _ _ _) rfl ?_))
  exact ⟨rfl, HV.out⟩
theorem turnL14 (b : Bool) (g N m t H c bl bd : Nat) (F : Nat → Nat) (w : World) (hl : w.cell? ⟨bl, 0, none⟩ = some (.slice (some ⟨g, 0, none⟩) N N)) (hd : w.cell? ⟨bd, 0, none⟩ = some (.func (.func (chg b)) #[] #[]))
    (h1 : bl ≠ g) (h2 : bd ≠ g) (h3 : bl < w.heap.size) (h4 : bd < w.heap.size) (hR : R6 w g N F) (hc : c < 65536) (hH : H = 2 ^ t) (hm : m + 2 * H ≤ N) (hN : N ≤ 65536) :
    Calls Tryd.prog 20 #[.int .i64 (m : Int), .int .i64 (H : Int), .int .u16 (c : Nat), .pointer (some ⟨bd, 0, none⟩), .pointer (some ⟨bl, 0, none⟩)] w fun e w' => e = .returned (.tuple #[]) ∧ R6 w' g N (tn b m t c F) ∧ Kp g w w' := by
  cases b
  · exact turnL14f g N m t H c bl bd F w hl hd h1 h2 h3 h4 hR hc hH hm hN
  · exact turnL14b g N m t H c bl bd F w hl hd h1 h2 h3 h4 hR hc hH hm hN
end Go.Proofs.YtbcjpcdipcomiaaDoor
namespace Go.Proofs.YtbcjpcdipcomiaaDoor
open Go.RowKit Gf2
set_option linter.unusedVariables false

-- layer 14: the rounds (laid by wip/genagg.py)
theorem pow_cast2 {t : Nat} {A : Nat} (h : A = 2 ^ t) (hA : A ≤ 65536) : wrap64 (2 * 2 ^ t) = ((2 * A : Nat) : Int) := by
  have e : ((2 : Int) ^ t) = ((2 ^ t : Nat) : Int) := by simp
  rw [e, ← h]; unfold wrap64; omega
theorem round_nums {J n sh H j m : Nat} (n1 : n = J * (2 * H)) (n2 : sh + n ≤ 65536) (n3 : 0 < H) (hm : m = j * (2 * H)) (hlt : m < n) : ∃ B, B = sh + m ∧ j < J ∧ B < 65536 ∧ ((m : Nat) : Int) < (n : Int) ∧ m + 2 * H ≤ n := by
  have hj : j < J := by
    rcases Nat.lt_or_ge j J with h | h
    · exact h
    · have := Nat.mul_le_mul_right (2 * H) h
      omega
  have h2 := Nat.mul_le_mul_right (2 * H) (show j + 1 ≤ J from hj)
  rw [Nat.add_mul, Nat.one_mul] at h2
  exact ⟨sh + m, rfl, hj, by omega, by omega, by omega⟩
theorem round_wraps {B sh m H n : Nat} (hB : B = sh + m) (h2 : B < 65536) (n4 : H ≤ 32768) (mm : m + 2 * H ≤ n) (n2 : sh + n ≤ 65536) : wrap64 ((sh : Int) + (m : Int)) = (B : Int) ∧ wrap64 ((m : Int) + 2 * (H : Int)) = ((m + 2 * H : Nat) : Int) := by
  constructor
  · unfold wrap64; omega
  · unfold wrap64; omega
theorem meas_step {n m H : Nat} (h : m + 2 * H ≤ n) (h2 : m < n) (h3 : 0 < H) : n - (intOf (Value.int .i64 ((m + 2 * H : Nat) : Int))).toNat < n - (intOf (Value.int .i64 (m : Int))).toNat := by
  simp only [intOf]; omega
set_option maxHeartbeats 4000000 in
set_option maxRecDepth 100000 in
theorem round14L (J n sh t H : Nat) (x y : Addr) (I : Nat → World → Prop) (hH : H = 2 ^ t) (ht : t < 16) (hn : n = J * (2 * H)) (hs : sh + n ≤ 65536)
    (hI : ∀ j w, j < J → I j w → Cab w ∧ Calls Tryd.prog 20 #[.int .i64 ((j * (2 * H) : Nat) : Int), .int .i64 (H : Int), .int .u16 (we ((sh + j * (2 * H)) / 2 ^ t) : Nat), .pointer (some x), .pointer (some y)] w fun e w' => e = .returned (.tuple #[]) ∧ I (j + 1) w') (w : World) (h0 : I 0 w) :
    Calls Tryd.prog 19 #[.int .i64 (n : Int), .int .i64 (sh : Int), .int .i64 (t : Int), .func (.func 20) #[] #[.pointer (some x), .pointer (some y)]] w fun e w' => e = .returned (.tuple #[]) ∧ I J w' := by
  have hH2 : H ≤ 32768 := by rw [hH]; exact Nat.pow_le_pow_right (n := 2) (by decide) (show t ≤ 15 by omega)
  have H0 : 0 < H := by rw [hH]; exact Nat.two_pow_pos t
  have HN : Hid (n = J * (2 * H) ∧ sh + n ≤ 65536 ∧ 0 < H ∧ H ≤ 32768 ∧ t < 16) := ⟨hn, hs, H0, hH2, ht⟩
  have M : min t 64 = t := Nat.min_eq_left (by omega)
  have HE : Hid (wrap64 (2 ^ t) = (H : Int) ∧ wrap64 (2 * 2 ^ t) = ((2 * H : Nat) : Int)) := ⟨pow_cast hH (by omega), pow_cast2 hH (by omega)⟩
  clear hn hs hH hH2 H0
  go_enter Tryd.func19, Tryd.ntmps19
  go_wp2
  go_loopw [8] (fun fv wr => ∃ j m : Nat, Hid (j ≤ J ∧ m = j * (2 * H)) ∧ fv = .int .i64 m ∧ I j wr) (fun fv _ => n - (intOf fv).toNat)
  case atStart => exact ⟨0, 0, ⟨Nat.zero_le _, by rw [Nat.zero_mul]⟩, rfl, h0⟩
  case round =>
    obtain ⟨j, m, hj, rfl, hi⟩ := hrel
    by_cases hlt : m < n
    · obtain ⟨n1, n2, n3, n4, n5⟩ := HN.out
      obtain ⟨B, hB, hjJ, hBl, tb, mm⟩ := round_nums n1 n2 n3 hj.out.2 hlt
      obtain ⟨hC, c2⟩ := hI j wr hjJ hi
      have c1 := skew_b t B (Nat.le_of_lt n5) hBl wr hC
      rw [← hj.out.2, ← hB] at c2
      obtain ⟨W1, W2⟩ := round_wraps hB hBl n4 mm n2
      obtain ⟨E1, E2⟩ := HE.out
      obtain ⟨Y, hY⟩ : ∃ Y, Y = we (B / 2 ^ t) := ⟨_, rfl⟩
      rw [← hY] at c1 c2
      have HM : Hid (B = sh + m) := hB
      have HJ : Hid (j + 1 ≤ J ∧ m + 2 * H = (j + 1) * (2 * H) ∧ m < n ∧ 0 < H) := ⟨hjJ, by rw [hj.out.2, Nat.add_mul, Nat.one_mul], hlt, n3⟩
      clear hi hC hB hBl hlt hj n1 n2 n3 n4 n5 hY hjJ
      go_wp2_with (first | (go_at_call 26; ((with_reducible refine (c1).mono ?_); rintro e w' ⟨rfl, rfl⟩)) | (go_at_call 20; ((with_reducible refine (c2).mono ?_); (rintro e w9 ⟨rfl, hi9⟩))))
      go_roundw
      case rel => exact ⟨j + 1, m + 2 * H, ⟨HJ.out.1, HJ.out.2.1⟩, by first | rfl | rw [W2], hi9⟩
      case measure => first | exact meas_step mm HJ.out.2.2.1 HJ.out.2.2.2 | (rw [W2]; exact meas_step mm HJ.out.2.2.1 HJ.out.2.2.2)
    · have hm : j = J := by
        obtain ⟨n1, n2, n3, n4, n5⟩ := HN.out
        rw [n1, hj.out.2] at hlt
        exact Nat.le_antisymm hj.out.1 (Nat.le_of_mul_le_mul_right (Nat.le_of_not_lt hlt) (by omega))
      subst hm
      have tb : ¬ ((m : Nat) : Int) < (n : Int) := by omega
      have HV : Hid (I j wr) := hi
      clear hi hj hlt
      go_wp2
      ((try simp only [Exit.inBlock, Exit.then]); first | (refine bodyPost_ret (results_none rfl _ _ _) rfl ?_) | (refine bodyPost_end (results_none rfl _ _ _) rfl ?_))
      exact ⟨rfl, HV.out⟩
set_option maxHeartbeats 4000000 in
set_option maxRecDepth 100000 in
theorem rounds14 (k n : Nat) (hk : k < 18) (hn : n = 2 ^ k) (w : World) (hT : Tzt w) :
    Calls Tryd.prog 18 #[.int .i64 (n : Int)] w fun e w' => e = .returned (.int .i64 (k : Int)) ∧ w' = w := by
  have c1 := tz k hk w hT
  rw [← hn] at c1
  have hn2 : n ≤ 131072 := by rw [hn]; exact Nat.pow_le_pow_right (n := 2) (by decide) (show k ≤ 17 by omega)
  have W1 : IntKind.u64.wrap (n : Int) = (n : Int) := by rw [IntKind.wrap_u64]; omega
  clear hn hn2 hT
  go_enter Tryd.func18, Tryd.ntmps18
  go_wp2_with (go_at_call 25; ((with_reducible refine (c1).mono ?_); rintro e w' ⟨rfl, rfl⟩))
  go_ret
  exact ⟨rfl, rfl⟩
set_option maxHeartbeats 4000000 in
set_option maxRecDepth 100000 in
theorem forward14 (k n sh : Nat) (hk : k ≤ 16) (hn : n = 2 ^ k) (D : Value) (I : Nat → World → Prop)
    (hI : ∀ c t w, c + t + 1 = k → I c w → Calls Tryd.prog 19 #[.int .i64 (n : Int), .int .i64 (sh : Int), .int .i64 (t : Int), D] w fun e w' => e = .returned (.tuple #[]) ∧ I (c + 1) w') (w : World) (hT : Tzt w) (h0 : I 0 w) :
    Calls Tryd.prog 14 #[.int .i64 (n : Int), .int .i64 (sh : Int), D] w fun e w' => e = .returned (.tuple #[]) ∧ I k w' := by
  have c1 := rounds14 k n (by omega) hn w hT
  have W0 : wrap64 ((k : Int) - 1) = (k : Int) - 1 := by unfold wrap64; omega
  have HK : Hid (k ≤ 16) := hk
  clear hn hT hk
  go_enter Tryd.func14, Tryd.ntmps14
  go_wp2_with (go_at_call 18; ((with_reducible refine (c1).mono ?_); rintro e w' ⟨rfl, rfl⟩))
  simp only [W0]
  go_loopw [6] (fun tv wr => ∃ (c T : Nat) (v : Int), Hid (c + T = k) ∧ v + 1 = (T : Int) ∧ tv = .int .i64 v ∧ I c wr) (fun tv _ => (intOf tv + 1).toNat)
  case atStart => exact ⟨0, k, (k : Int) - 1, Nat.zero_add _, by omega, by first | rfl | rw [W0], h0⟩
  case round =>
    obtain ⟨c, T, v, hcT, hv, rfl, hi⟩ := hrel
    cases T with
    | succ u =>
      obtain rfl : v = (u : Int) := by omega
      have c2 := hI c u wr (by have := hcT.out; omega) hi
      have W1 : wrap64 ((u : Int) - 1) = (u : Int) - 1 := by have := HK.out; have := hcT.out; unfold wrap64; omega
      have tb : (0 : Int) ≤ (u : Int) := by omega
      clear hi hv
      go_wp2_with (go_at_call 19; ((with_reducible refine (c2).mono ?_); (rintro e w9 ⟨rfl, hi9⟩)))
      go_roundw
      case rel =>
        have hcu : Hid (c + 1 + u = k) := (show c + 1 + u = k by have := hcT.out; omega)
        first | exact ⟨c + 1, u, (u : Int) - 1, hcu, by omega, by first | rfl | rw [W1], hi9⟩ | (rw [W1]; exact ⟨_, ⟨c + 1, u, (u : Int) - 1, hcu, by omega, rfl, hi9⟩, rfl⟩)
      case measure => simp [intOf]; omega
    | zero =>
      obtain rfl : v = -1 := by omega
      obtain rfl : c = k := by have := hcT.out; omega
      have HV : Hid (I c wr) := hi
      clear hi hv
      go_wp2
      ((try simp only [Exit.inBlock, Exit.then]); first | (refine bodyPost_ret (results_none rfl _ _ _) rfl ?_) | (refine bodyPost_end (results_none rfl _ _ _) rfl ?_))
      exact ⟨rfl, HV.out⟩
set_option maxHeartbeats 4000000 in
set_option maxRecDepth 100000 in
theorem inverse14 (k n sh : Nat) (hk : k ≤ 16) (hn : n = 2 ^ k) (D : Value) (I : Nat → World → Prop)
    (hI : ∀ t w, t < k → I t w → Calls Tryd.prog 19 #[.int .i64 (n : Int), .int .i64 (sh : Int), .int .i64 (t : Int), D] w fun e w' => e = .returned (.tuple #[]) ∧ I (t + 1) w') (w : World) (hT : Tzt w) (h0 : I 0 w) :
    Calls Tryd.prog 11 #[.int .i64 (n : Int), .int .i64 (sh : Int), D] w fun e w' => e = .returned (.tuple #[]) ∧ I k w' := by
  have c1 := rounds14 k n (by omega) hn w hT
  have HK : Hid (k ≤ 16) := hk
  clear hn hT hk
  go_enter Tryd.func11, Tryd.ntmps11
  go_wp2_with (go_at_call 18; ((with_reducible refine (c1).mono ?_); rintro e w' ⟨rfl, rfl⟩))
  go_loopw [9] (fun tv wr => ∃ t : Nat, t ≤ k ∧ tv = .int .i64 t ∧ I t wr) (fun tv _ => k - (intOf tv).toNat)
  case atStart => exact ⟨0, Nat.zero_le _, rfl, h0⟩
  case round =>
    obtain ⟨t, ht, rfl, hi⟩ := hrel
    by_cases hlt : t < k
    · have c2 := hI t wr hlt hi
      have tb : ((t : Nat) : Int) < (k : Int) := by omega
      have W1 := wrap_succ8 (j := t) (by have := HK.out; unfold big; omega)
      clear hi
      go_wp2_with (go_at_call 19; ((with_reducible refine (c2).mono ?_); (rintro e w9 ⟨rfl, hi9⟩)))
      go_roundw
      case rel => exact ⟨t + 1, hlt, by first | rfl | (rw [W1]; rfl), hi9⟩
      case measure => first | exact meas_lt8 hlt | (rw [W1]; exact meas_lt8 hlt)
    · obtain rfl : t = k := by omega
      have HV : Hid (I t wr) := hi
      clear hi
      go_wp2
      ((try simp only [Exit.inBlock, Exit.then]); first | (refine bodyPost_ret (results_none rfl _ _ _) rfl ?_) | (refine bodyPost_end (results_none rfl _ _ _) rfl ?_))
      exact ⟨rfl, HV.out⟩
end Go.Proofs.YtbcjpcdipcomiaaDoor
namespace Go.Proofs.YtbcjpcdipcomiaaDoor
open Go.RowKit Gf2
set_option linter.unusedVariables false

-- layer 14: the rounds over a list
/-- a round in a direction. -/
def rn (b : Bool) (sh t : Nat) (F : Nat → Nat) : Nat → Nat := if b then ri sh t F else rd sh t F
def pn (b : Bool) (sh t : Nat) (F : Nat → Nat) (m : Nat) : Nat → Nat := if b then pb sh t F m else pf sh t F m
theorem pn_zero (b : Bool) (sh t : Nat) (F : Nat → Nat) : pn b sh t F 0 = F := by
  cases b
  · exact pf_zero sh t F
  · exact pb_zero sh t F
theorem pn_step (b : Bool) (sh t j : Nat) (F : Nat → Nat) : tn b (j * (2 * 2 ^ t)) t (sv t (we (sh + j * (2 * 2 ^ t)))) (pn b sh t F (j * (2 * 2 ^ t))) = pn b sh t F ((j + 1) * (2 * 2 ^ t)) := by
  cases b
  · exact pf_step sh t j F
  · exact pb_step sh t j F
theorem pn_all (b : Bool) {sh t m x : Nat} (F : Nat → Nat) (h : x < m) : pn b sh t F m x = rn b sh t F x := by
  cases b
  · show (if x < m then _ else _) = _
    rw [if_pos h]; rfl
  · show (if x < m then _ else _) = _
    rw [if_pos h]; rfl
/-- what a list's closure has captured. -/
structure Cap (w : World) (b : Bool) (bl bd g N : Nat) : Prop where
  l : w.cell? ⟨bl, 0, none⟩ = some (.slice (some ⟨g, 0, none⟩) N N)
  d : w.cell? ⟨bd, 0, none⟩ = some (.func (.func (chg b)) #[] #[])
  nl : bl ≠ g
  nd : bd ≠ g
  ll : bl < w.heap.size
  ld : bd < w.heap.size
theorem Cap.kp {w w' : World} {b : Bool} {bl bd g N : Nat} (h : Cap w b bl bd g N) (hk : Kp g w w') : Cap w' b bl bd g N :=
  ⟨(hk.cell h.ll h.nl).trans h.l, (hk.cell h.ld h.nd).trans h.d, h.nl, h.nd, Nat.lt_of_lt_of_le h.ll hk.size, Nat.lt_of_lt_of_le h.ld hk.size⟩
/-- the laid tables lie in w0; all blocks of w0 stand. -/
structure Bs (w0 w : World) : Prop where
  c : Cab w0
  t : Tzt w0
  b : Below w0.heap.size w0 w
theorem Bs.cab {w0 w : World} (h : Bs w0 w) : Cab w := h.c.below h.b
theorem Bs.tzt {w0 w : World} (h : Bs w0 w) : Tzt w := h.t.below h.b
theorem Bs.kp {w0 w w' : World} {g : Nat} (h : Bs w0 w) (hk : Kp g w w') (hg : w0.heap.size ≤ g) : Bs w0 w' := ⟨h.c, h.t, h.b.trans (hk.below hg h.b.size)⟩
theorem Bs.then {w0 w w' : World} (h : Bs w0 w) (hb : Below w.heap.size w w') : Bs w0 w' := ⟨h.c, h.t, h.b.trans (hb.mono h.b.size)⟩
theorem Bs.self {w : World} (hC : Cab w) (hT : Tzt w) : Bs w w := ⟨hC, hT, Below.refl _ _⟩
def clL (bl bd : Nat) : Value := .func (.func 20) #[] #[.pointer (some ⟨bd, 0, none⟩), .pointer (some ⟨bl, 0, none⟩)]
theorem roundL14 (b : Bool) (w0 w : World) (J n sh t g bl bd : Nat) (F : Nat → Nat) (hB : Bs w0 w) (hg : w0.heap.size ≤ g) (hc : Cap w b bl bd g n) (hR : R6 w g n F) (ht : t < 16) (hn : n = J * (2 * 2 ^ t)) (hs : sh + n ≤ 65536) :
    Calls Tryd.prog 19 #[.int .i64 (n : Int), .int .i64 (sh : Int), .int .i64 (t : Int), clL bl bd] w fun e w' => e = .returned (.tuple #[]) ∧ R6 w' g n (rn b sh t F) ∧ Kp g w w' := by
  refine (round14L J n sh t (2 ^ t) ⟨bd, 0, none⟩ ⟨bl, 0, none⟩ (fun j w' => R6 w' g n (pn b sh t F (j * (2 * 2 ^ t))) ∧ Kp g w w') rfl ht hn hs (fun j w' hj ⟨h1, h2⟩ => ⟨(hB.kp h2 hg).cab, ?_⟩) w ⟨by rw [Nat.zero_mul, pn_zero]; exact hR, Kp.refl _ _⟩).mono fun e w' ⟨he, h1, h2⟩ => ⟨he, h1.congr (fun i hi => pn_all b F (by rw [← hn]; exact hi)), h2⟩
  have hc' := hc.kp h2
  have hjn : (j + 1) * (2 * 2 ^ t) ≤ n := by rw [hn]; exact Nat.mul_le_mul_right _ hj
  rw [Nat.add_mul, Nat.one_mul] at hjn
  have hw : we ((sh + j * (2 * 2 ^ t)) / 2 ^ t) = sv t (we (sh + j * (2 * 2 ^ t))) := (sv_we (by have := Nat.two_pow_pos t; omega) t).symm
  refine (turnL14 b g n (j * (2 * 2 ^ t)) t (2 ^ t) _ bl bd _ w' hc'.l hc'.d hc'.nl hc'.nd hc'.ll hc'.ld h1 (by rw [hw]; exact sv_lt _ _) rfl hjn (by omega)).mono fun e w2 ⟨he, r, k⟩ => ⟨he, ?_, h2.trans k⟩
  rw [hw, pn_step] at r
  exact r
theorem fwdL14 (w0 w : World) (k n sh g bl bd : Nat) (F : Nat → Nat) (hB : Bs w0 w) (hg : w0.heap.size ≤ g) (hc : Cap w false bl bd g n) (hR : R6 w g n F) (hk : k ≤ 16) (hn : n = 2 ^ k) (hs : sh + n ≤ 65536) :
    Calls Tryd.prog 14 #[.int .i64 (n : Int), .int .i64 (sh : Int), clL bl bd] w fun e w' => e = .returned (.tuple #[]) ∧ R6 w' g n (fw sh k F k) ∧ Kp g w w' := by
  refine forward14 k n sh hk hn (clL bl bd) (fun c w' => R6 w' g n (fw sh k F c) ∧ Kp g w w') (fun c t w' hct ⟨h1, h2⟩ => ?_) w hB.tzt ⟨hR, Kp.refl _ _⟩
  refine (roundL14 false w0 w' (2 ^ c) n sh t g bl bd _ (hB.kp h2 hg) hg (hc.kp h2) h1 (by omega) ?_ hs).mono fun e w2 ⟨he, r, k2⟩ => ⟨he, ?_, h2.trans k2⟩
  · rw [hn, ← hct, Nat.pow_succ, Nat.pow_add, Nat.mul_comm 2, Nat.mul_assoc]
  · show R6 w2 g n (rd sh (k - c - 1) (fw sh k F c))
    rw [show k - c - 1 = t by omega]
    exact r
theorem invL14 (w0 w : World) (k n sh g bl bd : Nat) (F : Nat → Nat) (hB : Bs w0 w) (hg : w0.heap.size ≤ g) (hc : Cap w true bl bd g n) (hR : R6 w g n F) (hk : k ≤ 16) (hn : n = 2 ^ k) (hs : sh + n ≤ 65536) :
    Calls Tryd.prog 11 #[.int .i64 (n : Int), .int .i64 (sh : Int), clL bl bd] w fun e w' => e = .returned (.tuple #[]) ∧ R6 w' g n (iw sh F k) ∧ Kp g w w' := by
  refine inverse14 k n sh hk hn (clL bl bd) (fun c w' => R6 w' g n (iw sh F c) ∧ Kp g w w') (fun t w' ht ⟨h1, h2⟩ => ?_) w hB.tzt ⟨hR, Kp.refl _ _⟩
  refine (roundL14 true w0 w' (2 ^ (k - t - 1)) n sh t g bl bd _ (hB.kp h2 hg) hg (hc.kp h2) h1 (by omega) ?_ hs).mono fun e w2 ⟨he, r, k2⟩ => ⟨he, r, h2.trans k2⟩
  rw [hn, Nat.mul_left_comm, ← Nat.pow_add, Nat.mul_comm, ← Nat.pow_succ]
  congr 1
  omega
end Go.Proofs.YtbcjpcdipcomiaaDoor
