import Derived.Test.YtehbiccpbopkfaaDoorFfas
import Derived.Test.YtehbiccpbopkfaaDoorFfai
import Derived.BigQuiet
namespace Go.Proofs.YtehbiccpbopkfaaDoor
open Go.RowKit Gf2
set_option linter.unusedVariables false

-- layer 25: the document's ReadHead where a head is read
theorem rnum_name25 : ¬ Tryd.f42.name = "runtime.NumGoroutine" := fun h9 => by
  have e : (Tryd.f42.name == "runtime.NumGoroutine") = false := by kernel_rfl
  rw [h9] at e
  exact absurd e (by decide)
theorem rnum_body25 : ¬ Tryd.f42.body = none := fun h9 => by
  have e : Tryd.f42.body.isSome = true := by kernel_rfl
  rw [h9] at e
  exact absurd e (by decide)
set_option maxHeartbeats 8000000 in
set_option maxRecDepth 100000 in
theorem rreadHead25_bad (v : Value) (n : Nat) (F : Nat → Nat) (w : World) (h : Rb w v n F) (hn : 48 ≤ n) (hm : ∀ c, c < 5 → F c = mg25 c) (hs : hs25 F = hsum25 F) (hz : rk25 F 40 4 = 0) (hs2 : ¬ 4611686018427387904 < rk25 F 16 8) (hl2 : ¬ 4611686018427387904 < rk25 F 24 8) (hg : ¬ rg25 F) :
    Calls Tryd.prog 32 #[v] w fun e w' => e = .returned (.tuple #[hd25 0 0 0 0 0 0 0 0, .int .i64 251]) ∧ Below w.heap.size w w' := by
  obtain ⟨-, hF, a, cap, rfl, hc, hc2, h4⟩ := id h
  obtain ⟨b, o, rfl, hbl, hcc⟩ := h4 (by omega)
  obtain ⟨W0, hW0⟩ : ∃ W0, w.alloc (.cells #[.int .i64 0, .int .i64 0, .int .i64 0, .int .i64 0, .int .i64 0, .int .i64 0, .int .i64 0, .int .u64 0] 26) = W0 := ⟨_, rfl⟩
  have b0 : Below w.heap.size w W0 := by rw [← hW0]; exact (Below.refl _ _).alloc (Nat.le_refl _) _
  have k0 : W0.heap[w.heap.size]? = some (.cells #[.int .i64 0, .int .i64 0, .int .i64 0, .int .i64 0, .int .i64 0, .int .i64 0, .int .i64 0, .int .u64 0] 26 (0, 0)) := by rw [← hW0]; exact heap_alloc_new _ _
  have D1 : decide (((n : Nat) : Int) < 48) = false := decide_eq_false (by omega)
  have q0 : W0.cell? ⟨b, o, none⟩ = some (.int .u8 ((F 0 : Nat) : Int)) := (b0.cell (p := ⟨b, o, none⟩) hbl).trans (hcc 0 (by omega))
  have q1 : W0.cell? ⟨b, o + 1, none⟩ = some (.int .u8 ((F 1 : Nat) : Int)) := (b0.cell (p := ⟨b, o + 1, none⟩) hbl).trans (hcc 1 (by omega))
  have q2 : W0.cell? ⟨b, o + 2, none⟩ = some (.int .u8 ((F 2 : Nat) : Int)) := (b0.cell (p := ⟨b, o + 2, none⟩) hbl).trans (hcc 2 (by omega))
  have q3 : W0.cell? ⟨b, o + 3, none⟩ = some (.int .u8 ((F 3 : Nat) : Int)) := (b0.cell (p := ⟨b, o + 3, none⟩) hbl).trans (hcc 3 (by omega))
  have q4 : W0.cell? ⟨b, o + 4, none⟩ = some (.int .u8 ((F 4 : Nat) : Int)) := (b0.cell (p := ⟨b, o + 4, none⟩) hbl).trans (hcc 4 (by omega))
  have n5 : (5 : Int) ≤ ((cap : Nat) : Int) := by omega
  have n8 : (8 : Int) ≤ ((cap : Nat) : Int) := by omega
  have n10 : (10 : Int) ≤ ((cap : Nat) : Int) := by omega
  have n12 : (12 : Int) ≤ ((cap : Nat) : Int) := by omega
  have n16 : (16 : Int) ≤ ((cap : Nat) : Int) := by omega
  have n24 : (24 : Int) ≤ ((cap : Nat) : Int) := by omega
  have n32 : (32 : Int) ≤ ((cap : Nat) : Int) := by omega
  have n40 : (40 : Int) ≤ ((cap : Nat) : Int) := by omega
  have n44 : (44 : Int) ≤ ((cap : Nat) : Int) := by omega
  have n48 : (48 : Int) ≤ ((cap : Nat) : Int) := by omega
  have m0 : (0 : Int) < ((n : Nat) : Int) := by omega
  have m1 : (1 : Int) < ((n : Nat) : Int) := by omega
  have m2 : (2 : Int) < ((n : Nat) : Int) := by omega
  have m3 : (3 : Int) < ((n : Nat) : Int) := by omega
  have m4 : (4 : Int) < ((n : Nat) : Int) := by omega
  have m5 : (5 : Int) < ((n : Nat) : Int) := by omega
  replace q0 : W0.cell? ⟨b, o, none⟩ = some (.int .u8 67) := by rw [hm 0 (by decide)] at q0; exact q0
  replace q1 : W0.cell? ⟨b, o + 1, none⟩ = some (.int .u8 85) := by rw [hm 1 (by decide)] at q1; exact q1
  replace q2 : W0.cell? ⟨b, o + 2, none⟩ = some (.int .u8 76) := by rw [hm 2 (by decide)] at q2; exact q2
  replace q3 : W0.cell? ⟨b, o + 3, none⟩ = some (.int .u8 76) := by rw [hm 3 (by decide)] at q3; exact q3
  replace q4 : W0.cell? ⟨b, o + 4, none⟩ = some (.int .u8 1) := by rw [hm 4 (by decide)] at q4; exact q4
  have r0 := h.below b0
  obtain ⟨x, hx⟩ : ∃ x, Hid (hs25 F = x) := ⟨_, rfl⟩
  obtain ⟨y, hy⟩ : ∃ y, Hid (hsum25 F = y) := ⟨_, rfl⟩
  have c1 : ∀ q, Calls Tryd.prog 42 #[.slice (some ⟨b, o + 44, none⟩) 4 (cap - 44)] (W0.drewN q) fun e w' => e = .returned (.int .u64 ((x : Nat) : Int)) ∧ w' = W0.drewN q := fun q => by
    have c := rnumber25 _ 4 _ (W0.drewN q) (rb_piece25 r0 (x := 44) (d := 4) (by omega) hc) (by decide)
    have e : le25 (fun c => F (44 + c)) 4 = x := hx.out
    rw [e] at c
    exact c
  have c2 : ∀ q, Calls Tryd.prog 9 #[.slice (some ⟨b, o, none⟩) 44 cap] (W0.drewN q) fun e w' => e = .returned (.int .u32 ((y : Nat) : Int)) ∧ w' = W0.drewN q := fun q => by
    have c := rsum25 _ 44 F (W0.drewN q) (rb_head25 r0 (m := 44) (by omega) (by omega))
    have e : nt (fol25 (nt 0) F 44) = y := hy.out
    rw [e] at c
    exact c
  have ly : y < 4294967296 := by rw [← hy.out]; exact nt_lt (fol_lt (nt_lt (by decide)) 44 (fun j hj => hF j (by omega)))
  have U1 : IntKind.u64.wrap ((y : Nat) : Int) = ((y : Nat) : Int) := w64_25 (by omega)
  have HZ : Hid (W0.heap[w.heap.size]? = some (.cells #[.int .i64 0, .int .i64 0, .int .i64 0, .int .i64 0, .int .i64 0, .int .i64 0, .int .i64 0, .int .u64 0] 26 (0, 0)) ∧ Below w.heap.size w W0) := ⟨k0, b0⟩
  have exy : y = x := by rw [← hx.out, ← hy.out, hs]
  subst exy
  have E1 : (((y : Nat) : Int) == ((y : Nat) : Int)) = true := by simp
  have E2 : (y == y) = true := by simp
  have E3 : (((y : Nat) : Int) != ((y : Nat) : Int)) = false := by simp
  have c_z : Hid (∀ q, Calls Tryd.prog 42 #[.slice (some ⟨b, o + 40, none⟩) 4 (cap - 40)] (W0.drewN q) fun e w' => e = .returned (.int .u64 0) ∧ w' = W0.drewN q) := fun q => by
    have c := rnumber25 _ 4 _ (W0.drewN q) (rb_piece25 r0 (x := 40) (d := 4) (by omega) hc) (by decide)
    have e : le25 (fun c => F (40 + c)) 4 = 0 := hz
    rw [e] at c
    exact c
  have c_k : Hid (∀ W, Rb W (.slice (some ⟨b, o, none⟩) n cap) n F → Calls Tryd.prog 42 #[.slice (some ⟨b, o + 6, none⟩) 2 (cap - 6)] W fun e w' => e = .returned (.int .u64 ((rk25 F 6 2 : Nat) : Int)) ∧ w' = W) := fun W hr => rnumber25 _ 2 _ W (rb_piece25 hr (by omega) hc) (by decide)
  have l_k : rk25 F 6 2 < 2 ^ (8 * 2) := le_lt' (fun c hc9 => hF _ (by omega))
  have c_m : Hid (∀ W, Rb W (.slice (some ⟨b, o, none⟩) n cap) n F → Calls Tryd.prog 42 #[.slice (some ⟨b, o + 8, none⟩) 2 (cap - 8)] W fun e w' => e = .returned (.int .u64 ((rk25 F 8 2 : Nat) : Int)) ∧ w' = W) := fun W hr => rnumber25 _ 2 _ W (rb_piece25 hr (by omega) hc) (by decide)
  have l_m : rk25 F 8 2 < 2 ^ (8 * 2) := le_lt' (fun c hc9 => hF _ (by omega))
  have c_i : Hid (∀ W, Rb W (.slice (some ⟨b, o, none⟩) n cap) n F → Calls Tryd.prog 42 #[.slice (some ⟨b, o + 10, none⟩) 2 (cap - 10)] W fun e w' => e = .returned (.int .u64 ((rk25 F 10 2 : Nat) : Int)) ∧ w' = W) := fun W hr => rnumber25 _ 2 _ W (rb_piece25 hr (by omega) hc) (by decide)
  have l_i : rk25 F 10 2 < 2 ^ (8 * 2) := le_lt' (fun c hc9 => hF _ (by omega))
  have c_b9 : Hid (∀ W, Rb W (.slice (some ⟨b, o, none⟩) n cap) n F → Calls Tryd.prog 42 #[.slice (some ⟨b, o + 12, none⟩) 4 (cap - 12)] W fun e w' => e = .returned (.int .u64 ((rk25 F 12 4 : Nat) : Int)) ∧ w' = W) := fun W hr => rnumber25 _ 4 _ W (rb_piece25 hr (by omega) hc) (by decide)
  have l_b9 : rk25 F 12 4 < 2 ^ (8 * 4) := le_lt' (fun c hc9 => hF _ (by omega))
  have c_s : Hid (∀ W, Rb W (.slice (some ⟨b, o, none⟩) n cap) n F → Calls Tryd.prog 42 #[.slice (some ⟨b, o + 16, none⟩) 8 (cap - 16)] W fun e w' => e = .returned (.int .u64 ((rk25 F 16 8 : Nat) : Int)) ∧ w' = W) := fun W hr => rnumber25 _ 8 _ W (rb_piece25 hr (by omega) hc) (by decide)
  have l_s : rk25 F 16 8 < 2 ^ (8 * 8) := le_lt' (fun c hc9 => hF _ (by omega))
  have c_l : Hid (∀ W, Rb W (.slice (some ⟨b, o, none⟩) n cap) n F → Calls Tryd.prog 42 #[.slice (some ⟨b, o + 24, none⟩) 8 (cap - 24)] W fun e w' => e = .returned (.int .u64 ((rk25 F 24 8 : Nat) : Int)) ∧ w' = W) := fun W hr => rnumber25 _ 8 _ W (rb_piece25 hr (by omega) hc) (by decide)
  have l_l : rk25 F 24 8 < 2 ^ (8 * 8) := le_lt' (fun c hc9 => hF _ (by omega))
  have c_st : Hid (∀ W, Rb W (.slice (some ⟨b, o, none⟩) n cap) n F → Calls Tryd.prog 42 #[.slice (some ⟨b, o + 32, none⟩) 8 (cap - 32)] W fun e w' => e = .returned (.int .u64 ((rk25 F 32 8 : Nat) : Int)) ∧ w' = W) := fun W hr => rnumber25 _ 8 _ W (rb_piece25 hr (by omega) hc) (by decide)
  have l_st : rk25 F 32 8 < 2 ^ (8 * 8) := le_lt' (fun c hc9 => hF _ (by omega))
  obtain ⟨ff, hff⟩ : ∃ ff, Hid (F 5 = ff) := ⟨_, rfl⟩
  obtain ⟨k, e_k⟩ : ∃ k, Hid (rk25 F 6 2 = k) := ⟨_, rfl⟩
  rw [e_k.out] at c_k l_k
  obtain ⟨m, e_m⟩ : ∃ m, Hid (rk25 F 8 2 = m) := ⟨_, rfl⟩
  rw [e_m.out] at c_m l_m
  obtain ⟨i, e_i⟩ : ∃ i, Hid (rk25 F 10 2 = i) := ⟨_, rfl⟩
  rw [e_i.out] at c_i l_i
  obtain ⟨b9, e_b9⟩ : ∃ b9, Hid (rk25 F 12 4 = b9) := ⟨_, rfl⟩
  rw [e_b9.out] at c_b9 l_b9
  obtain ⟨s, e_s⟩ : ∃ s, Hid (rk25 F 16 8 = s) := ⟨_, rfl⟩
  rw [e_s.out] at c_s l_s
  obtain ⟨l, e_l⟩ : ∃ l, Hid (rk25 F 24 8 = l) := ⟨_, rfl⟩
  rw [e_l.out] at c_l l_l
  obtain ⟨st, e_st⟩ : ∃ st, Hid (rk25 F 32 8 = st) := ⟨_, rfl⟩
  rw [e_st.out] at c_st l_st
  rw [e_s.out] at hs2
  rw [e_l.out] at hl2
  have q5 : W0.cell? ⟨b, o + 5, none⟩ = some (.int .u8 ((ff : Nat) : Int)) := by rw [← hff.out]; exact (b0.cell (p := ⟨b, o + 5, none⟩) hbl).trans (hcc 5 (by omega))
  have lff : ff < 256 := by rw [← hff.out]; exact hF 5 (by omega)
  have HV : Hid (IntKind.i64.wrap ((ff : Nat) : Int) = ((ff : Nat) : Int) ∧ IntKind.i64.wrap ((k : Nat) : Int) = ((k : Nat) : Int) ∧ IntKind.i64.wrap ((m : Nat) : Int) = ((m : Nat) : Int) ∧ IntKind.i64.wrap ((i : Nat) : Int) = ((i : Nat) : Int) ∧ IntKind.i64.wrap ((b9 : Nat) : Int) = ((b9 : Nat) : Int) ∧ IntKind.i64.wrap ((s : Nat) : Int) = ((s : Nat) : Int) ∧ IntKind.i64.wrap ((l : Nat) : Int) = ((l : Nat) : Int)) := ⟨w64i25 (by omega), w64i25 (by omega), w64i25 (by omega), w64i25 (by omega), w64i25 (by omega), w64i25 (by omega), w64i25 (by omega)⟩
  have D2 : decide ((4611686018427387904 : Int) < ((s : Nat) : Int)) = false := decide_eq_false (by omega)
  have D3 : decide ((4611686018427387904 : Int) < ((l : Nat) : Int)) = false := decide_eq_false (by omega)
  have cC : Hid (∀ W, Calls Tryd.prog 14 #[hd25 (ff : Nat) (k : Nat) (m : Nat) (i : Nat) (s : Nat) (l : Nat) (b9 : Nat) st] W fun e w' => e = .returned (.int .i64 251) ∧ Below W.heap.size W w') := fun W => rcheck25_no _ _ _ _ _ _ _ st W (by
    intro h9
    refine hg ?_
    unfold rg25
    rw [hff.out, e_k.out, e_m.out, e_i.out, e_b9.out, e_s.out, e_l.out]
    exact h9)
  unfold hd25 at cC
  have HX : Hid (¬ cap = 6 ∧ ¬ cap = 8 ∧ ¬ cap = 10 ∧ ¬ cap = 12 ∧ ¬ cap = 16 ∧ ¬ cap = 24 ∧ ¬ cap = 32) := ⟨by omega, by omega, by omega, by omega, by omega, by omega, by omega⟩
  have HR : Hid (W0.cell? ⟨b, o + 5, none⟩ = some (.int .u8 ((ff : Nat) : Int)) ∧ Rb W0 (.slice (some ⟨b, o, none⟩) n cap) n F) := ⟨q5, r0⟩
  clear h hn h4 hc k0 b0 r0 hx hy hm hbl hcc hs hz q5 hF lff l_k l_m l_i l_b9 l_s l_l l_st hs2 hl2 ly
  go_enter Tryd.func32, Tryd.ntmps32
  go_wp2
  go_quiet (first | (go_at_call 42; with_reducible exact Calls.quiet_of_same (c1 _)) | (go_at_call 9; with_reducible exact Calls.quiet_of_same (c2 _)))
  have kz : (W0.drewN nq).heap[w.heap.size]? = some (.cells #[.int .i64 0, .int .i64 0, .int .i64 0, .int .i64 0, .int .i64 0, .int .i64 0, .int .i64 0, .int .u64 0] 26 (0, 0)) := HZ.out.1
  have bz : Below w.heap.size w (W0.drewN nq) := below_drewN HZ.out.2 nq
  have hSX : (W0.drewN nq).cell? ⟨b, o + 5, none⟩ = some (.int .u8 ((ff : Nat) : Int)) ∧ Rb (W0.drewN nq) (.slice (some ⟨b, o, none⟩) n cap) n F := ⟨HR.out.1, HR.out.2.drewN nq⟩
  have d_z := c_z.out nq
  have d_s := c_s.out _ hSX.2
  have d_l := c_l.out _ hSX.2
  clear c_z c1 c2 c_s c_l
  obtain ⟨X, hX⟩ : ∃ X, W0.drewN nq = X := ⟨_, rfl⟩
  rw [hX] at kz bz d_s d_l d_z hSX ⊢
  clear hX
  go_wp2_with (first | (go_at_call 42; (with_reducible refine d_s.mono ?_); rintro e w9 ⟨rfl, hw⟩; have hw := hw.symm; subst hw; clear d_s) | (go_at_call 42; (with_reducible refine d_l.mono ?_); rintro e w9 ⟨rfl, hw⟩; have hw := hw.symm; subst hw; clear d_l) | (go_at_call 42; (with_reducible refine d_z.mono ?_); rintro e w9 ⟨rfl, hw⟩; have hw := hw.symm; subst hw; clear d_z))
  have hSD := keepD25 hSX
  obtain ⟨V0, V1, V2, V3, V4, V5, V6⟩ := HV.out
  obtain ⟨x6, x8, x10, x12, x16, x24, x32⟩ := HX.out
  clear hSX
  refine region_sure2 (fun w' => w'.cell? ⟨b, o + 5, none⟩ = some (.int .u8 ((ff : Nat) : Int)) ∧ Rb w' (.slice (some ⟨b, o, none⟩) n cap) n F) 28 101 [6, 3, 3, 3, 7, 1] _ _ hSD (by kernel_rfl) (by kernel_rfl) rfl (by kernel_rfl) (by kernel_rfl) (by kernel_rfl) (by kernel_rfl) (fun _ a d v _ h => by cases d <;> exact h) ?_
  refine sure_step ?A0 _ rfl (fun w' hS => ?s0) rfl (Sure.call rfl (fun w' => ?e0) (fun w' hS => c_k.out w' hS.2)) ?n0
  case s0 =>
    obtain ⟨u0, u1⟩ := hS
    clear u1
    simp only [List.take_succ_cons, List.take_zero]
    repeat still_step
    exact rfl
  case e0 =>
    simp [execOp, resolve, invoke, Act.eval, Deferred.ofValue, callFunc]
    rw [if_neg rnum_name25, if_neg rnum_body25]
  case n0 =>
  refine sure_step ?A1 _ rfl (fun w' hS => ?s1) rfl (Sure.call rfl (fun w' => ?e1) (fun w' hS => c_m.out w' hS.2)) ?n1
  case s1 =>
    obtain ⟨u0, u1⟩ := hS
    clear u1
    simp only [List.take_succ_cons, List.take_zero]
    repeat still_step
    exact rfl
  case e1 =>
    simp [execOp, resolve, invoke, Act.eval, Deferred.ofValue, callFunc]
    rw [if_neg rnum_name25, if_neg rnum_body25]
  case n1 =>
  refine sure_step ?A2 _ rfl (fun w' hS => ?s2) rfl (Sure.call rfl (fun w' => ?e2) (fun w' hS => c_i.out w' hS.2)) ?n2
  case s2 =>
    obtain ⟨u0, u1⟩ := hS
    clear u1
    simp only [List.take_succ_cons, List.take_zero]
    repeat still_step
    exact rfl
  case e2 =>
    simp [execOp, resolve, invoke, Act.eval, Deferred.ofValue, callFunc]
    rw [if_neg rnum_name25, if_neg rnum_body25]
  case n2 =>
  refine sure_step ?A3 _ rfl (fun w' hS => ?s3) rfl (Sure.call rfl (fun w' => ?e3) (fun w' hS => c_b9.out w' hS.2)) ?n3
  case s3 =>
    obtain ⟨u0, u1⟩ := hS
    clear u1
    simp only [List.take_succ_cons, List.take_zero]
    repeat still_step
    exact rfl
  case e3 =>
    simp [execOp, resolve, invoke, Act.eval, Deferred.ofValue, callFunc]
    rw [if_neg rnum_name25, if_neg rnum_body25]
  case n3 =>
  refine sure_step ?A4 _ rfl (fun w' hS => ?s4) rfl (Sure.call rfl (fun w' => ?e4) (fun w' hS => c_st.out w' hS.2)) ?n4
  case s4 =>
    obtain ⟨u0, u1⟩ := hS
    clear u1
    simp only [List.take_succ_cons, List.take_zero]
    repeat still_step
    exact rfl
  case e4 =>
    simp [execOp, resolve, invoke, Act.eval, Deferred.ofValue, callFunc]
    rw [if_neg rnum_name25, if_neg rnum_body25]
  case n4 =>
  refine sure_last ?A7 rfl (fun w' hS => ?s7) rfl ?n7
  case s7 =>
    obtain ⟨u0, u1⟩ := hS
    clear u1
    simp only [List.take_succ_cons, List.take_zero]
    repeat still_step
    exact rfl
  case n7 =>
  obtain ⟨Y, hY⟩ : ∃ Y, X.drew = Y := ⟨_, rfl⟩
  rw [hY]
  have kz : Y.heap[w.heap.size]? = some (.cells #[.int .i64 0, .int .i64 0, .int .i64 0, .int .i64 0, .int .i64 0, .int .i64 0, .int .i64 0, .int .u64 0] 26 (0, 0)) := by rw [← hY]; exact kz
  have bz : Below w.heap.size w Y := by rw [← hY]; exact bz.drew
  rw [hY] at hSD
  clear hY
  intro K1 hK1
  go_simp
  refine hK1 _ _ (keepA25 hSD) ?_
  clear hK1 K1
  intro K2 hK2
  go_simp
  refine hK2 _ _ (keepA25 hSD) ?_
  clear hK2 K2
  go_wp2_with (go_at_call 14; (with_reducible refine (cC.out _).mono ?_); rintro e w9 ⟨rfl, hb9⟩; clear cC; obtain ⟨kw, bw⟩ := after25 kz bz hb9; obtain ⟨⟨z0, z1, z2, z3, z4, z5, z6, z7⟩, ⟨f0, f1, f2, f3, f4, f5, f6, f7⟩, ⟨e0, e1, e2, e3, e4, e5, e6, e7⟩⟩ := zero_facts25 kw)
  refine bodyPost_ret (results_crt25 rfl _ _ w.heap.size _ #[.int .i64 0, .int .i64 0, .int .i64 0, .int .i64 0, .int .i64 0, .int .i64 0, .int .i64 0, .int .u64 0] _ _ rfl kw Tryd.underlying26 rfl info_rhead25) rfl ?_
  exact ⟨rfl, bw⟩

end Go.Proofs.YtehbiccpbopkfaaDoor
namespace Go.Proofs.YtehbiccpbopkfaaDoor
open Go.RowKit Gf2
set_option linter.unusedVariables false

-- layer 25: the document's ReadHead of a good head
set_option maxHeartbeats 8000000 in
set_option maxRecDepth 100000 in
theorem rreadHead25_yes (v : Value) (n : Nat) (F : Nat → Nat) (w : World) (h : Rb w v n F) (hn : 48 ≤ n) (hm : ∀ c, c < 5 → F c = mg25 c) (hs : hs25 F = hsum25 F) (hz : rk25 F 40 4 = 0) (hs2 : ¬ 4611686018427387904 < rk25 F 16 8) (hl2 : ¬ 4611686018427387904 < rk25 F 24 8) (hg : Gh25 ((F 5 : Nat) : Int) (rk25 F 6 2) (rk25 F 8 2) (rk25 F 10 2) (rk25 F 16 8) (rk25 F 24 8) (rk25 F 12 4)) :
    Calls Tryd.prog 32 #[v] w fun e w' => e = .returned (.tuple #[hd25 (F 5 : Nat) (rk25 F 6 2 : Nat) (rk25 F 8 2 : Nat) (rk25 F 10 2 : Nat) (rk25 F 16 8 : Nat) (rk25 F 24 8 : Nat) (rk25 F 12 4 : Nat) (rk25 F 32 8), .int .i64 0]) ∧ Below w.heap.size w w' := by
  obtain ⟨-, hF, a, cap, rfl, hc, hc2, h4⟩ := id h
  obtain ⟨b, o, rfl, hbl, hcc⟩ := h4 (by omega)
  obtain ⟨W0, hW0⟩ : ∃ W0, w.alloc (.cells #[.int .i64 0, .int .i64 0, .int .i64 0, .int .i64 0, .int .i64 0, .int .i64 0, .int .i64 0, .int .u64 0] 26) = W0 := ⟨_, rfl⟩
  have b0 : Below w.heap.size w W0 := by rw [← hW0]; exact (Below.refl _ _).alloc (Nat.le_refl _) _
  have k0 : W0.heap[w.heap.size]? = some (.cells #[.int .i64 0, .int .i64 0, .int .i64 0, .int .i64 0, .int .i64 0, .int .i64 0, .int .i64 0, .int .u64 0] 26 (0, 0)) := by rw [← hW0]; exact heap_alloc_new _ _
  have D1 : decide (((n : Nat) : Int) < 48) = false := decide_eq_false (by omega)
  have q0 : W0.cell? ⟨b, o, none⟩ = some (.int .u8 ((F 0 : Nat) : Int)) := (b0.cell (p := ⟨b, o, none⟩) hbl).trans (hcc 0 (by omega))
  have q1 : W0.cell? ⟨b, o + 1, none⟩ = some (.int .u8 ((F 1 : Nat) : Int)) := (b0.cell (p := ⟨b, o + 1, none⟩) hbl).trans (hcc 1 (by omega))
  have q2 : W0.cell? ⟨b, o + 2, none⟩ = some (.int .u8 ((F 2 : Nat) : Int)) := (b0.cell (p := ⟨b, o + 2, none⟩) hbl).trans (hcc 2 (by omega))
  have q3 : W0.cell? ⟨b, o + 3, none⟩ = some (.int .u8 ((F 3 : Nat) : Int)) := (b0.cell (p := ⟨b, o + 3, none⟩) hbl).trans (hcc 3 (by omega))
  have q4 : W0.cell? ⟨b, o + 4, none⟩ = some (.int .u8 ((F 4 : Nat) : Int)) := (b0.cell (p := ⟨b, o + 4, none⟩) hbl).trans (hcc 4 (by omega))
  have n5 : (5 : Int) ≤ ((cap : Nat) : Int) := by omega
  have n8 : (8 : Int) ≤ ((cap : Nat) : Int) := by omega
  have n10 : (10 : Int) ≤ ((cap : Nat) : Int) := by omega
  have n12 : (12 : Int) ≤ ((cap : Nat) : Int) := by omega
  have n16 : (16 : Int) ≤ ((cap : Nat) : Int) := by omega
  have n24 : (24 : Int) ≤ ((cap : Nat) : Int) := by omega
  have n32 : (32 : Int) ≤ ((cap : Nat) : Int) := by omega
  have n40 : (40 : Int) ≤ ((cap : Nat) : Int) := by omega
  have n44 : (44 : Int) ≤ ((cap : Nat) : Int) := by omega
  have n48 : (48 : Int) ≤ ((cap : Nat) : Int) := by omega
  have m0 : (0 : Int) < ((n : Nat) : Int) := by omega
  have m1 : (1 : Int) < ((n : Nat) : Int) := by omega
  have m2 : (2 : Int) < ((n : Nat) : Int) := by omega
  have m3 : (3 : Int) < ((n : Nat) : Int) := by omega
  have m4 : (4 : Int) < ((n : Nat) : Int) := by omega
  have m5 : (5 : Int) < ((n : Nat) : Int) := by omega
  replace q0 : W0.cell? ⟨b, o, none⟩ = some (.int .u8 67) := by rw [hm 0 (by decide)] at q0; exact q0
  replace q1 : W0.cell? ⟨b, o + 1, none⟩ = some (.int .u8 85) := by rw [hm 1 (by decide)] at q1; exact q1
  replace q2 : W0.cell? ⟨b, o + 2, none⟩ = some (.int .u8 76) := by rw [hm 2 (by decide)] at q2; exact q2
  replace q3 : W0.cell? ⟨b, o + 3, none⟩ = some (.int .u8 76) := by rw [hm 3 (by decide)] at q3; exact q3
  replace q4 : W0.cell? ⟨b, o + 4, none⟩ = some (.int .u8 1) := by rw [hm 4 (by decide)] at q4; exact q4
  have r0 := h.below b0
  obtain ⟨x, hx⟩ : ∃ x, Hid (hs25 F = x) := ⟨_, rfl⟩
  obtain ⟨y, hy⟩ : ∃ y, Hid (hsum25 F = y) := ⟨_, rfl⟩
  have c1 : ∀ q, Calls Tryd.prog 42 #[.slice (some ⟨b, o + 44, none⟩) 4 (cap - 44)] (W0.drewN q) fun e w' => e = .returned (.int .u64 ((x : Nat) : Int)) ∧ w' = W0.drewN q := fun q => by
    have c := rnumber25 _ 4 _ (W0.drewN q) (rb_piece25 r0 (x := 44) (d := 4) (by omega) hc) (by decide)
    have e : le25 (fun c => F (44 + c)) 4 = x := hx.out
    rw [e] at c
    exact c
  have c2 : ∀ q, Calls Tryd.prog 9 #[.slice (some ⟨b, o, none⟩) 44 cap] (W0.drewN q) fun e w' => e = .returned (.int .u32 ((y : Nat) : Int)) ∧ w' = W0.drewN q := fun q => by
    have c := rsum25 _ 44 F (W0.drewN q) (rb_head25 r0 (m := 44) (by omega) (by omega))
    have e : nt (fol25 (nt 0) F 44) = y := hy.out
    rw [e] at c
    exact c
  have ly : y < 4294967296 := by rw [← hy.out]; exact nt_lt (fol_lt (nt_lt (by decide)) 44 (fun j hj => hF j (by omega)))
  have U1 : IntKind.u64.wrap ((y : Nat) : Int) = ((y : Nat) : Int) := w64_25 (by omega)
  have HZ : Hid (W0.heap[w.heap.size]? = some (.cells #[.int .i64 0, .int .i64 0, .int .i64 0, .int .i64 0, .int .i64 0, .int .i64 0, .int .i64 0, .int .u64 0] 26 (0, 0)) ∧ Below w.heap.size w W0) := ⟨k0, b0⟩
  have exy : y = x := by rw [← hx.out, ← hy.out, hs]
  subst exy
  have E1 : (((y : Nat) : Int) == ((y : Nat) : Int)) = true := by simp
  have E2 : (y == y) = true := by simp
  have E3 : (((y : Nat) : Int) != ((y : Nat) : Int)) = false := by simp
  have c_z : Hid (∀ q, Calls Tryd.prog 42 #[.slice (some ⟨b, o + 40, none⟩) 4 (cap - 40)] (W0.drewN q) fun e w' => e = .returned (.int .u64 0) ∧ w' = W0.drewN q) := fun q => by
    have c := rnumber25 _ 4 _ (W0.drewN q) (rb_piece25 r0 (x := 40) (d := 4) (by omega) hc) (by decide)
    have e : le25 (fun c => F (40 + c)) 4 = 0 := hz
    rw [e] at c
    exact c
  have c_k : Hid (∀ W, Rb W (.slice (some ⟨b, o, none⟩) n cap) n F → Calls Tryd.prog 42 #[.slice (some ⟨b, o + 6, none⟩) 2 (cap - 6)] W fun e w' => e = .returned (.int .u64 ((rk25 F 6 2 : Nat) : Int)) ∧ w' = W) := fun W hr => rnumber25 _ 2 _ W (rb_piece25 hr (by omega) hc) (by decide)
  have l_k : rk25 F 6 2 < 2 ^ (8 * 2) := le_lt' (fun c hc9 => hF _ (by omega))
  have c_m : Hid (∀ W, Rb W (.slice (some ⟨b, o, none⟩) n cap) n F → Calls Tryd.prog 42 #[.slice (some ⟨b, o + 8, none⟩) 2 (cap - 8)] W fun e w' => e = .returned (.int .u64 ((rk25 F 8 2 : Nat) : Int)) ∧ w' = W) := fun W hr => rnumber25 _ 2 _ W (rb_piece25 hr (by omega) hc) (by decide)
  have l_m : rk25 F 8 2 < 2 ^ (8 * 2) := le_lt' (fun c hc9 => hF _ (by omega))
  have c_i : Hid (∀ W, Rb W (.slice (some ⟨b, o, none⟩) n cap) n F → Calls Tryd.prog 42 #[.slice (some ⟨b, o + 10, none⟩) 2 (cap - 10)] W fun e w' => e = .returned (.int .u64 ((rk25 F 10 2 : Nat) : Int)) ∧ w' = W) := fun W hr => rnumber25 _ 2 _ W (rb_piece25 hr (by omega) hc) (by decide)
  have l_i : rk25 F 10 2 < 2 ^ (8 * 2) := le_lt' (fun c hc9 => hF _ (by omega))
  have c_b9 : Hid (∀ W, Rb W (.slice (some ⟨b, o, none⟩) n cap) n F → Calls Tryd.prog 42 #[.slice (some ⟨b, o + 12, none⟩) 4 (cap - 12)] W fun e w' => e = .returned (.int .u64 ((rk25 F 12 4 : Nat) : Int)) ∧ w' = W) := fun W hr => rnumber25 _ 4 _ W (rb_piece25 hr (by omega) hc) (by decide)
  have l_b9 : rk25 F 12 4 < 2 ^ (8 * 4) := le_lt' (fun c hc9 => hF _ (by omega))
  have c_s : Hid (∀ W, Rb W (.slice (some ⟨b, o, none⟩) n cap) n F → Calls Tryd.prog 42 #[.slice (some ⟨b, o + 16, none⟩) 8 (cap - 16)] W fun e w' => e = .returned (.int .u64 ((rk25 F 16 8 : Nat) : Int)) ∧ w' = W) := fun W hr => rnumber25 _ 8 _ W (rb_piece25 hr (by omega) hc) (by decide)
  have l_s : rk25 F 16 8 < 2 ^ (8 * 8) := le_lt' (fun c hc9 => hF _ (by omega))
  have c_l : Hid (∀ W, Rb W (.slice (some ⟨b, o, none⟩) n cap) n F → Calls Tryd.prog 42 #[.slice (some ⟨b, o + 24, none⟩) 8 (cap - 24)] W fun e w' => e = .returned (.int .u64 ((rk25 F 24 8 : Nat) : Int)) ∧ w' = W) := fun W hr => rnumber25 _ 8 _ W (rb_piece25 hr (by omega) hc) (by decide)
  have l_l : rk25 F 24 8 < 2 ^ (8 * 8) := le_lt' (fun c hc9 => hF _ (by omega))
  have c_st : Hid (∀ W, Rb W (.slice (some ⟨b, o, none⟩) n cap) n F → Calls Tryd.prog 42 #[.slice (some ⟨b, o + 32, none⟩) 8 (cap - 32)] W fun e w' => e = .returned (.int .u64 ((rk25 F 32 8 : Nat) : Int)) ∧ w' = W) := fun W hr => rnumber25 _ 8 _ W (rb_piece25 hr (by omega) hc) (by decide)
  have l_st : rk25 F 32 8 < 2 ^ (8 * 8) := le_lt' (fun c hc9 => hF _ (by omega))
  obtain ⟨ff, hff⟩ : ∃ ff, Hid (F 5 = ff) := ⟨_, rfl⟩
  obtain ⟨k, e_k⟩ : ∃ k, Hid (rk25 F 6 2 = k) := ⟨_, rfl⟩
  rw [e_k.out] at c_k l_k
  obtain ⟨m, e_m⟩ : ∃ m, Hid (rk25 F 8 2 = m) := ⟨_, rfl⟩
  rw [e_m.out] at c_m l_m
  obtain ⟨i, e_i⟩ : ∃ i, Hid (rk25 F 10 2 = i) := ⟨_, rfl⟩
  rw [e_i.out] at c_i l_i
  obtain ⟨b9, e_b9⟩ : ∃ b9, Hid (rk25 F 12 4 = b9) := ⟨_, rfl⟩
  rw [e_b9.out] at c_b9 l_b9
  obtain ⟨s, e_s⟩ : ∃ s, Hid (rk25 F 16 8 = s) := ⟨_, rfl⟩
  rw [e_s.out] at c_s l_s
  obtain ⟨l, e_l⟩ : ∃ l, Hid (rk25 F 24 8 = l) := ⟨_, rfl⟩
  rw [e_l.out] at c_l l_l
  obtain ⟨st, e_st⟩ : ∃ st, Hid (rk25 F 32 8 = st) := ⟨_, rfl⟩
  rw [e_st.out] at c_st l_st
  rw [e_s.out] at hs2
  rw [e_l.out] at hl2
  have q5 : W0.cell? ⟨b, o + 5, none⟩ = some (.int .u8 ((ff : Nat) : Int)) := by rw [← hff.out]; exact (b0.cell (p := ⟨b, o + 5, none⟩) hbl).trans (hcc 5 (by omega))
  have lff : ff < 256 := by rw [← hff.out]; exact hF 5 (by omega)
  have HV : Hid (IntKind.i64.wrap ((ff : Nat) : Int) = ((ff : Nat) : Int) ∧ IntKind.i64.wrap ((k : Nat) : Int) = ((k : Nat) : Int) ∧ IntKind.i64.wrap ((m : Nat) : Int) = ((m : Nat) : Int) ∧ IntKind.i64.wrap ((i : Nat) : Int) = ((i : Nat) : Int) ∧ IntKind.i64.wrap ((b9 : Nat) : Int) = ((b9 : Nat) : Int) ∧ IntKind.i64.wrap ((s : Nat) : Int) = ((s : Nat) : Int) ∧ IntKind.i64.wrap ((l : Nat) : Int) = ((l : Nat) : Int)) := ⟨w64i25 (by omega), w64i25 (by omega), w64i25 (by omega), w64i25 (by omega), w64i25 (by omega), w64i25 (by omega), w64i25 (by omega)⟩
  have D2 : decide ((4611686018427387904 : Int) < ((s : Nat) : Int)) = false := decide_eq_false (by omega)
  have D3 : decide ((4611686018427387904 : Int) < ((l : Nat) : Int)) = false := decide_eq_false (by omega)
  rw [hff.out, e_k.out, e_m.out, e_i.out, e_b9.out, e_s.out, e_l.out] at hg
  have cC : Hid (∀ W, Calls Tryd.prog 14 #[hd25 (ff : Nat) (k : Nat) (m : Nat) (i : Nat) (s : Nat) (l : Nat) (b9 : Nat) st] W fun e w' => e = .returned (.int .i64 0) ∧ Below W.heap.size W w') := fun W => rcheck25_yes _ _ _ _ _ _ _ st W hg
  unfold hd25 at cC ⊢
  rw [hff.out, e_k.out, e_m.out, e_i.out, e_b9.out, e_s.out, e_l.out, e_st.out]
  have HX : Hid (¬ cap = 6 ∧ ¬ cap = 8 ∧ ¬ cap = 10 ∧ ¬ cap = 12 ∧ ¬ cap = 16 ∧ ¬ cap = 24 ∧ ¬ cap = 32) := ⟨by omega, by omega, by omega, by omega, by omega, by omega, by omega⟩
  have HR : Hid (W0.cell? ⟨b, o + 5, none⟩ = some (.int .u8 ((ff : Nat) : Int)) ∧ Rb W0 (.slice (some ⟨b, o, none⟩) n cap) n F) := ⟨q5, r0⟩
  clear h hn h4 hc k0 b0 r0 hx hy hm hbl hcc hs hz q5 hF lff l_k l_m l_i l_b9 l_s l_l l_st hs2 hl2 ly
  go_enter Tryd.func32, Tryd.ntmps32
  go_wp2
  go_quiet (first | (go_at_call 42; with_reducible exact Calls.quiet_of_same (c1 _)) | (go_at_call 9; with_reducible exact Calls.quiet_of_same (c2 _)))
  have kz : (W0.drewN nq).heap[w.heap.size]? = some (.cells #[.int .i64 0, .int .i64 0, .int .i64 0, .int .i64 0, .int .i64 0, .int .i64 0, .int .i64 0, .int .u64 0] 26 (0, 0)) := HZ.out.1
  have bz : Below w.heap.size w (W0.drewN nq) := below_drewN HZ.out.2 nq
  have hSX : (W0.drewN nq).cell? ⟨b, o + 5, none⟩ = some (.int .u8 ((ff : Nat) : Int)) ∧ Rb (W0.drewN nq) (.slice (some ⟨b, o, none⟩) n cap) n F := ⟨HR.out.1, HR.out.2.drewN nq⟩
  have d_z := c_z.out nq
  have d_s := c_s.out _ hSX.2
  have d_l := c_l.out _ hSX.2
  clear c_z c1 c2 c_s c_l
  obtain ⟨X, hX⟩ : ∃ X, W0.drewN nq = X := ⟨_, rfl⟩
  rw [hX] at kz bz d_s d_l d_z hSX ⊢
  clear hX
  go_wp2_with (first | (go_at_call 42; (with_reducible refine d_s.mono ?_); rintro e w9 ⟨rfl, hw⟩; have hw := hw.symm; subst hw; clear d_s) | (go_at_call 42; (with_reducible refine d_l.mono ?_); rintro e w9 ⟨rfl, hw⟩; have hw := hw.symm; subst hw; clear d_l) | (go_at_call 42; (with_reducible refine d_z.mono ?_); rintro e w9 ⟨rfl, hw⟩; have hw := hw.symm; subst hw; clear d_z))
  have hSD := keepD25 hSX
  obtain ⟨V0, V1, V2, V3, V4, V5, V6⟩ := HV.out
  obtain ⟨x6, x8, x10, x12, x16, x24, x32⟩ := HX.out
  clear hSX
  refine region_sure2 (fun w' => w'.cell? ⟨b, o + 5, none⟩ = some (.int .u8 ((ff : Nat) : Int)) ∧ Rb w' (.slice (some ⟨b, o, none⟩) n cap) n F) 28 101 [6, 3, 3, 3, 7, 1] _ _ hSD (by kernel_rfl) (by kernel_rfl) rfl (by kernel_rfl) (by kernel_rfl) (by kernel_rfl) (by kernel_rfl) (fun _ a d v _ h => by cases d <;> exact h) ?_
  refine sure_step ?A0 _ rfl (fun w' hS => ?s0) rfl (Sure.call rfl (fun w' => ?e0) (fun w' hS => c_k.out w' hS.2)) ?n0
  case s0 =>
    obtain ⟨u0, u1⟩ := hS
    clear u1
    simp only [List.take_succ_cons, List.take_zero]
    repeat still_step
    exact rfl
  case e0 =>
    simp [execOp, resolve, invoke, Act.eval, Deferred.ofValue, callFunc]
    rw [if_neg rnum_name25, if_neg rnum_body25]
  case n0 =>
  refine sure_step ?A1 _ rfl (fun w' hS => ?s1) rfl (Sure.call rfl (fun w' => ?e1) (fun w' hS => c_m.out w' hS.2)) ?n1
  case s1 =>
    obtain ⟨u0, u1⟩ := hS
    clear u1
    simp only [List.take_succ_cons, List.take_zero]
    repeat still_step
    exact rfl
  case e1 =>
    simp [execOp, resolve, invoke, Act.eval, Deferred.ofValue, callFunc]
    rw [if_neg rnum_name25, if_neg rnum_body25]
  case n1 =>
  refine sure_step ?A2 _ rfl (fun w' hS => ?s2) rfl (Sure.call rfl (fun w' => ?e2) (fun w' hS => c_i.out w' hS.2)) ?n2
  case s2 =>
    obtain ⟨u0, u1⟩ := hS
    clear u1
    simp only [List.take_succ_cons, List.take_zero]
    repeat still_step
    exact rfl
  case e2 =>
    simp [execOp, resolve, invoke, Act.eval, Deferred.ofValue, callFunc]
    rw [if_neg rnum_name25, if_neg rnum_body25]
  case n2 =>
  refine sure_step ?A3 _ rfl (fun w' hS => ?s3) rfl (Sure.call rfl (fun w' => ?e3) (fun w' hS => c_b9.out w' hS.2)) ?n3
  case s3 =>
    obtain ⟨u0, u1⟩ := hS
    clear u1
    simp only [List.take_succ_cons, List.take_zero]
    repeat still_step
    exact rfl
  case e3 =>
    simp [execOp, resolve, invoke, Act.eval, Deferred.ofValue, callFunc]
    rw [if_neg rnum_name25, if_neg rnum_body25]
  case n3 =>
  refine sure_step ?A4 _ rfl (fun w' hS => ?s4) rfl (Sure.call rfl (fun w' => ?e4) (fun w' hS => c_st.out w' hS.2)) ?n4
  case s4 =>
    obtain ⟨u0, u1⟩ := hS
    clear u1
    simp only [List.take_succ_cons, List.take_zero]
    repeat still_step
    exact rfl
  case e4 =>
    simp [execOp, resolve, invoke, Act.eval, Deferred.ofValue, callFunc]
    rw [if_neg rnum_name25, if_neg rnum_body25]
  case n4 =>
  refine sure_last ?A7 rfl (fun w' hS => ?s7) rfl ?n7
  case s7 =>
    obtain ⟨u0, u1⟩ := hS
    clear u1
    simp only [List.take_succ_cons, List.take_zero]
    repeat still_step
    exact rfl
  case n7 =>
  obtain ⟨Y, hY⟩ : ∃ Y, X.drew = Y := ⟨_, rfl⟩
  rw [hY]
  have kz : Y.heap[w.heap.size]? = some (.cells #[.int .i64 0, .int .i64 0, .int .i64 0, .int .i64 0, .int .i64 0, .int .i64 0, .int .i64 0, .int .u64 0] 26 (0, 0)) := by rw [← hY]; exact kz
  have bz : Below w.heap.size w Y := by rw [← hY]; exact bz.drew
  rw [hY] at hSD
  clear hY
  intro K1 hK1
  go_simp
  refine hK1 _ _ (keepA25 hSD) ?_
  clear hK1 K1
  intro K2 hK2
  go_simp
  refine hK2 _ _ (keepA25 hSD) ?_
  clear hK2 K2
  go_wp2_with (go_at_call 14; (with_reducible refine (cC.out _).mono ?_); rintro e w9 ⟨rfl, hb9⟩; clear cC; obtain ⟨kw, bw⟩ := after25 kz bz hb9; have kh := new25 hb9; obtain ⟨q0, q1, q2, q3, q4, q5, q6, q7⟩ := hcellsT25 kh; obtain ⟨⟨z0, z1, z2, z3, z4, z5, z6, z7⟩, ⟨f0, f1, f2, f3, f4, f5, f6, f7⟩, -⟩ := zero_facts25 kw)
  refine bodyPost_ret (results_crt25 rfl _ _ w.heap.size _ _ _ _ rfl (store8_25 kw _ _ _ _ _ _ _ _).1 Tryd.underlying26 rfl info_rhead25) rfl ?_
  exact ⟨rfl, bw.trans ((store8_25 kw _ _ _ _ _ _ _ _).2.below (Nat.le_refl _))⟩

end Go.Proofs.YtehbiccpbopkfaaDoor
namespace Go.Proofs.YtehbiccpbopkfaaDoor
open Go.RowKit Gf2
set_option linter.unusedVariables false

-- layer 25: both ReadHeads side by side
/-- what a head's reading is: an error and the empty head, or a good head. -/
def Ro25 (n : Nat) (F : Nat → Nat) (hd : Value) (c : Int) : Prop :=
  (c ≠ 0 ∧ hd = hd25 0 0 0 0 0 0 0 0) ∨
  (c = 0 ∧ 48 ≤ n ∧ Gh25 ((F 5 : Nat) : Int) (rk25 F 6 2) (rk25 F 8 2) (rk25 F 10 2) (rk25 F 16 8) (rk25 F 24 8) (rk25 F 12 4) ∧ hs25 F = hsum25 F ∧
    hd = hd25 (F 5 : Nat) (rk25 F 6 2 : Nat) (rk25 F 8 2 : Nat) (rk25 F 10 2 : Nat) (rk25 F 16 8 : Nat) (rk25 F 24 8 : Nat) (rk25 F 12 4 : Nat) (rk25 F 32 8))
theorem rg_nat25 {F : Nat → Nat} (h : rg25 F) : Gh25 ((F 5 : Nat) : Int) (rk25 F 6 2) (rk25 F 8 2) (rk25 F 10 2) (rk25 F 16 8) (rk25 F 24 8) (rk25 F 12 4) := by
  obtain ⟨K, M, I, S, L, B, h1, h2, h3, h4, h5, h6, hg⟩ := h
  have e1 := Int.ofNat.inj h1
  have e2 := Int.ofNat.inj h2
  have e3 := Int.ofNat.inj h3
  have e4 := Int.ofNat.inj h4
  have e5 := Int.ofNat.inj h5
  have e6 := Int.ofNat.inj h6
  rw [e1, e2, e3, e4, e5, e6]
  exact hg
theorem readHeads25 (n : Nat) (F : Nat → Nat) (hF : ∀ c, c < n → F c < 256) : ∃ hd c, Ro25 n F hd c ∧
    (∀ v w, Rb w v n F → Fsh w → Calls Tryd.prog 33 #[v] w fun e w' => e = .returned (.tuple #[hd, .int .i64 c]) ∧ Below w.heap.size w w') ∧
    (∀ v w, Rb w v n F → Calls Tryd.prog 32 #[v] w fun e w' => e = .returned (.tuple #[hd, .int .i64 c]) ∧ Below w.heap.size w w') := by
  by_cases h1 : n < 48
  · exact ⟨_, 252, .inl ⟨by decide, rfl⟩, fun v w h _ => readHead25_cut v n F w h h1, fun v w h => rreadHead25_cut v n F w h h1⟩
  have h1 : 48 ≤ n := by omega
  by_cases h2 : ∀ c, c < 5 → F c = mg25 c
  · have m2 := magic_yes25 h2
    by_cases h3 : hs25 F = hsum25 F
    · by_cases h4 : rk25 F 40 4 = 0
      · by_cases h5 : rg25 F
        · have hg := rg_nat25 h5
          have s2 := hg.s2
          have l2 := hg.l2
          exact ⟨_, 0, .inr ⟨rfl, h1, hg, h3, rfl⟩, fun v w h hT => readHead25_yes v n F w h h1 hT m2 h3 h4 hg, fun v w h => rreadHead25_yes v n F w h h1 h2 h3 h4 (by omega) (by omega) hg⟩
        · by_cases h6 : 4611686018427387904 < rk25 F 16 8 ∨ 4611686018427387904 < rk25 F 24 8
          · exact ⟨_, 251, .inl ⟨by decide, rfl⟩, fun v w h hT => readHead25_bad v n F w h h1 hT m2 h3 h4 h5, fun v w h => rreadHead25_zeros v n F w h h1 h2 h3 (.inr h6)⟩
          · exact ⟨_, 251, .inl ⟨by decide, rfl⟩, fun v w h hT => readHead25_bad v n F w h h1 hT m2 h3 h4 h5, fun v w h => rreadHead25_bad v n F w h h1 h2 h3 h4 (fun h9 => h6 (.inl h9)) (fun h9 => h6 (.inr h9)) h5⟩
      · exact ⟨_, 251, .inl ⟨by decide, rfl⟩, fun v w h hT => readHead25_zeros v n F w h h1 hT m2 h3 h4, fun v w h => rreadHead25_zeros v n F w h h1 h2 h3 (.inl h4)⟩
    · exact ⟨_, 253, .inl ⟨by decide, rfl⟩, fun v w h hT => readHead25_sum v n F w h h1 hT m2 h3, fun v w h => rreadHead25_sum v n F w h h1 h2 h3⟩
  · exact ⟨_, 250, .inl ⟨by decide, rfl⟩, fun v w h hT => readHead25_magic v n F w h h1 (magic_no25 (fun c hc => hF c (by omega)) h2), fun v w h => rreadHead25_magic v n F w h h1 h2⟩
end Go.Proofs.YtehbiccpbopkfaaDoor
namespace Go.Proofs.YtehbiccpbopkfaaDoor
open Go.RowKit Gf2
set_option linter.unusedVariables false

-- layer 25: the laws' sameBytes and sameInts
set_option maxHeartbeats 2000000 in
set_option maxRecDepth 100000 in
theorem sq25 (u v : Value) (n n' : Nat) (F G : Nat → Nat) (w : World) (h : Rb w u n F) (k : Rb w v n' G) :
    Calls Tryd.prog 16 #[u, v] w fun e w' => ∃ b : Bool, e = .returned (.bool b) ∧ (b = true ↔ n = n' ∧ ∀ i, i < n → F i = G i) ∧ ∃ m, w' = w.drewN m := by
  obtain ⟨hn, hF, a, cap, rfl, -, -, h4⟩ := h
  obtain ⟨hn', -, c, cap', rfl, -, -, k4⟩ := k
  by_cases hnn : n = n'
  case neg =>
    have hI : ¬ ((n : Int) = (n' : Int)) := by omega
    clear h4 k4
    go_enter Tryd.func16, Tryd.ntmps16
    go_wp2
    go_ret
    exact ⟨false, rfl, ⟨fun h => (by cases h), fun h => absurd h.1 hnn⟩, 0, rfl⟩
  case pos =>
    subst hnn
    go_enter Tryd.func16, Tryd.ntmps16
    go_wp2
    go_loopw [5] (fun i wr => ∃ k m : Nat, k ≤ n ∧ i = .int .i64 k ∧ wr = w.drewN m ∧ ∀ i, i < k → F i = G i) (fun i _ => n - (intOf i).toNat)
    case atStart => exact ⟨0, 0, Nat.zero_le _, rfl, rfl, fun i hi => absurd hi (Nat.not_lt_zero _)⟩
    case round =>
      obtain ⟨k, m, hk, rfl, hw, hE⟩ := hrel
      by_cases hlt : k < n
      · obtain ⟨b, o, rfl, -, hc⟩ := h4 (by omega)
        obtain ⟨b', o', rfl, -, hc'⟩ := k4 (by omega)
        have q1 : wr.cell? ⟨b, o + k, none⟩ = some (.int .u8 (F k : Nat)) := by rw [hw]; exact hc k hlt
        have q2 : wr.cell? ⟨b', o' + k, none⟩ = some (.int .u8 (G k : Nat)) := by rw [hw]; exact hc' k hlt
        have HW : Hid (wr = w.drewN m ∧ ∀ i, i < k → F i = G i) := ⟨hw, hE⟩
        have ib : ((k : Nat) : Int) < (n : Int) := by omega
        have W1 := wrap_succ8 (j := k) (by omega)
        have HN : Hid (n ≤ big) := hn
        by_cases hfg : F k = G k
        · rw [← hfg] at q2
          have Hfg : Hid (F k = G k) := hfg
          clear hc hc' hw h4 k4 hF hn hE hfg hn'
          go_wp2
          go_quiet (fail)
          go_wp2
          go_roundw
          case rel =>
            refine ⟨k + 1, m + nq, hlt, by first | rfl | (rw [W1]; rfl), by rw [HW.out.1, World.drewN_drewN], fun i hi => ?_⟩
            by_cases e : i = k
            · rw [e]; exact Hfg.out
            · exact HW.out.2 i (by omega)
          case measure => first | exact meas_lt8 hlt | (rw [W1]; exact meas_lt8 hlt)
        · have hI : ¬ (((F k : Nat) : Int) = ((G k : Nat) : Int)) := by omega
          have Hfg : Hid (¬ F k = G k) := hfg
          clear hc hc' hw h4 k4 hF hn hE hfg hn'
          go_wp2
          go_quiet (fail)
          go_wp2
          go_ret
          exact ⟨false, rfl, ⟨fun h => (by cases h), fun h => absurd (h.2 k hlt) Hfg.out⟩, m + nq, by rw [HW.out.1, World.drewN_drewN]⟩
      · have hk5 : k = n := by omega
        subst hk5
        subst hw
        go_wp2
        go_ret
        exact ⟨true, rfl, ⟨fun _ => ⟨by trivial, hE⟩, fun _ => rfl⟩, _, rfl⟩
set_option maxHeartbeats 2000000 in
set_option maxRecDepth 100000 in
theorem sj25 (u v : Value) (n n' : Nat) (F G : Nat → Int) (w : World) (h : Qi w u n F) (k : Qi w v n' G) :
    Calls Tryd.prog 37 #[u, v] w fun e w' => ∃ b : Bool, e = .returned (.bool b) ∧ (b = true ↔ n = n' ∧ ∀ i, i < n → F i = G i) ∧ ∃ m, w' = w.drewN m := by
  obtain ⟨hn, -, a, cap, rfl, -, -, h4⟩ := h
  obtain ⟨hn', -, c, cap', rfl, -, -, k4⟩ := k
  by_cases hnn : n = n'
  case neg =>
    have hI : ¬ ((n : Int) = (n' : Int)) := by omega
    clear h4 k4
    go_enter Tryd.func37, Tryd.ntmps37
    go_wp2
    go_ret
    exact ⟨false, rfl, ⟨fun h => (by cases h), fun h => absurd h.1 hnn⟩, 0, rfl⟩
  case pos =>
    subst hnn
    go_enter Tryd.func37, Tryd.ntmps37
    go_wp2
    go_loopw [5] (fun i wr => ∃ k m : Nat, k ≤ n ∧ i = .int .i64 k ∧ wr = w.drewN m ∧ ∀ i, i < k → F i = G i) (fun i _ => n - (intOf i).toNat)
    case atStart => exact ⟨0, 0, Nat.zero_le _, rfl, rfl, fun i hi => absurd hi (Nat.not_lt_zero _)⟩
    case round =>
      obtain ⟨k, m, hk, rfl, hw, hE⟩ := hrel
      by_cases hlt : k < n
      · obtain ⟨b, o, rfl, -, hc⟩ := h4 (by omega)
        obtain ⟨b', o', rfl, -, hc'⟩ := k4 (by omega)
        have q1 : wr.cell? ⟨b, o + k, none⟩ = some (.int .i64 (F k)) := by rw [hw]; exact hc k hlt
        have q2 : wr.cell? ⟨b', o' + k, none⟩ = some (.int .i64 (G k)) := by rw [hw]; exact hc' k hlt
        have HW : Hid (wr = w.drewN m ∧ ∀ i, i < k → F i = G i) := ⟨hw, hE⟩
        have ib : ((k : Nat) : Int) < (n : Int) := by omega
        have W1 := wrap_succ8 (j := k) (by omega)
        have HN : Hid (n ≤ big) := hn
        by_cases hfg : F k = G k
        · rw [← hfg] at q2
          have Hfg : Hid (F k = G k) := hfg
          clear hc hc' hw h4 k4 hn hE hfg hn'
          go_wp2
          go_quiet (fail)
          go_wp2
          go_roundw
          case rel =>
            refine ⟨k + 1, m + nq, hlt, by first | rfl | (rw [W1]; rfl), by rw [HW.out.1, World.drewN_drewN], fun i hi => ?_⟩
            by_cases e : i = k
            · rw [e]; exact Hfg.out
            · exact HW.out.2 i (by omega)
          case measure => first | exact meas_lt8 hlt | (rw [W1]; exact meas_lt8 hlt)
        · have hI : ¬ (F k = G k) := hfg
          have Hfg : Hid (¬ F k = G k) := hfg
          clear hc hc' hw h4 k4 hn hE hfg hn'
          go_wp2
          go_quiet (fail)
          go_wp2
          go_ret
          exact ⟨false, rfl, ⟨fun h => (by cases h), fun h => absurd (h.2 k hlt) Hfg.out⟩, m + nq, by rw [HW.out.1, World.drewN_drewN]⟩
      · have hk5 : k = n := by omega
        subst hk5
        subst hw
        go_wp2
        go_ret
        exact ⟨true, rfl, ⟨fun _ => ⟨by trivial, hE⟩, fun _ => rfl⟩, _, rfl⟩
theorem sq25_true (u v : Value) (n : Nat) (F G : Nat → Nat) (w : World) (h : Rb w u n F) (k : Rb w v n G) (e : ∀ i, i < n → F i = G i) :
    Calls Tryd.prog 16 #[u, v] w fun e w' => e = .returned (.bool true) ∧ ∃ m, w' = w.drewN m :=
  (sq25 u v n n F G w h k).mono fun _ w' ⟨b, h1, h2, h3⟩ => ⟨by rw [h1, h2.2 ⟨rfl, e⟩], h3⟩
theorem sj25_true (u v : Value) (n : Nat) (F G : Nat → Int) (w : World) (h : Qi w u n F) (k : Qi w v n G) (e : ∀ i, i < n → F i = G i) :
    Calls Tryd.prog 37 #[u, v] w fun e w' => e = .returned (.bool true) ∧ ∃ m, w' = w.drewN m :=
  (sj25 u v n n F G w h k).mono fun _ w' ⟨b, h1, h2, h3⟩ => ⟨by rw [h1, h2.2 ⟨rfl, e⟩], h3⟩
end Go.Proofs.YtehbiccpbopkfaaDoor
namespace Go.Proofs.YtehbiccpbopkfaaDoor
open Go.RowKit Gf2
set_option linter.unusedVariables false

-- layer 25: the law's head, the program's readable
set_option maxHeartbeats 4000000 in
set_option maxRecDepth 100000 in
theorem lawHead25 (f k m i s l b : Int) (st : Nat) (w : World) :
    Calls Tryd.prog 13 #[hd25 f k m i s l b st] w fun e w' => e = .returned (hd25 f k m i s l b st) ∧ Below w.heap.size w w' := by
  unfold hd25
  go_enter Tryd.func13, Tryd.ntmps13
  go_wp2
  refine bodyPost_ret (results_cell_row rfl _ _ (w.heap.size + 1) _ _ _ _ rfl (heap_alloc2_new _ _ _) Tryd.underlying38 rfl info_head25) rfl ?_
  exact ⟨rfl, ((Below.refl _ _).alloc (Nat.le_refl _) _).alloc (by simp) _⟩
theorem two_box25 {w w9 : World} {T : TypeId} (b0 : Below w.heap.size w (w.alloc (.cells #[.int .i64 0, .int .i64 0, .int .i64 0, .int .i64 0, .int .i64 0, .int .i64 0, .int .i64 0, .int .u64 0] T))) (hb : Below (w.alloc (.cells #[.int .i64 0, .int .i64 0, .int .i64 0, .int .i64 0, .int .i64 0, .int .i64 0, .int .i64 0, .int .u64 0] T)).heap.size (w.alloc (.cells #[.int .i64 0, .int .i64 0, .int .i64 0, .int .i64 0, .int .i64 0, .int .i64 0, .int .i64 0, .int .u64 0] T)) w9) :
    (w9.alloc (.cells #[.int .i64 0, .int .i64 0, .int .i64 0, .int .i64 0, .int .i64 0, .int .i64 0, .int .i64 0, .int .u64 0] T)).heap[w.heap.size]? = some (.cells #[.int .i64 0, .int .i64 0, .int .i64 0, .int .i64 0, .int .i64 0, .int .i64 0, .int .i64 0, .int .u64 0] T (0, 0)) ∧ (w9.alloc (.cells #[.int .i64 0, .int .i64 0, .int .i64 0, .int .i64 0, .int .i64 0, .int .i64 0, .int .i64 0, .int .u64 0] T)).heap[w9.heap.size]? = some (.cells #[.int .i64 0, .int .i64 0, .int .i64 0, .int .i64 0, .int .i64 0, .int .i64 0, .int .i64 0, .int .u64 0] T (0, 0)) ∧ Below w.heap.size w (w9.alloc (.cells #[.int .i64 0, .int .i64 0, .int .i64 0, .int .i64 0, .int .i64 0, .int .i64 0, .int .i64 0, .int .u64 0] T)) := by
  have k : w9.heap[w.heap.size]? = some (.cells #[.int .i64 0, .int .i64 0, .int .i64 0, .int .i64 0, .int .i64 0, .int .i64 0, .int .i64 0, .int .u64 0] T (0, 0)) := (hb.block _ (by simp)).trans (heap_alloc_new _ _)
  have b1 : Below w9.heap.size w9 (w9.alloc (.cells #[.int .i64 0, .int .i64 0, .int .i64 0, .int .i64 0, .int .i64 0, .int .i64 0, .int .i64 0, .int .u64 0] T)) := (Below.refl _ _).alloc (Nat.le_refl _) _
  have b2 : Below w.heap.size w w9 := b0.trans (hb.mono (by simp))
  exact ⟨(b1.block _ (Array.getElem?_eq_some_iff.1 k).1).trans k, heap_alloc_new _ _, b2.trans (b1.mono b2.size)⟩
set_option maxHeartbeats 4000000 in
set_option maxRecDepth 100000 in
theorem readable25_no (v : Value) (n : Nat) (F : Nat → Nat) (hd : Value) (c : Int) (w : World) (h : Rb w v n F) (hc : c ≠ 0) (hhd : hd = hd25 0 0 0 0 0 0 0 0)
    (cR : ∀ W, Below w.heap.size w W → Calls Tryd.prog 33 #[v] W fun e w' => e = .returned (.tuple #[hd, .int .i64 c]) ∧ Below W.heap.size W w') :
    Calls Tryd.prog 44 #[v] w fun e w' => e = .returned (.tuple #[hd25 0 0 0 0 0 0 0 0, .int .i64 c]) ∧ Below w.heap.size w w' := by
  subst hhd
  unfold hd25 at *
  have b0 : Below w.heap.size w (w.alloc (.cells #[.int .i64 0, .int .i64 0, .int .i64 0, .int .i64 0, .int .i64 0, .int .i64 0, .int .i64 0, .int .u64 0] 38)) := (Below.refl _ _).alloc (Nat.le_refl _) _
  have c1 := cR _ b0
  have E1 : (c == 0) = false := beq_eq_false_iff_ne.2 hc
  have E2 : (c != 0) = true := bne_iff_ne.2 hc
  have HB : Hid (Below w.heap.size w (w.alloc (.cells #[.int .i64 0, .int .i64 0, .int .i64 0, .int .i64 0, .int .i64 0, .int .i64 0, .int .i64 0, .int .u64 0] 38))) := b0
  clear cR h hc b0
  go_enter Tryd.func44, Tryd.ntmps44
  go_wp2_with (go_at_call 33; (with_reducible refine c1.mono ?_); rintro e w9 ⟨rfl, hb9⟩; clear c1; obtain ⟨ka, kb, kc⟩ := two_box25 (T := 38) HB.out hb9; obtain ⟨Z, hZ⟩ : ∃ Z, w9.alloc (.cells #[.int .i64 0, .int .i64 0, .int .i64 0, .int .i64 0, .int .i64 0, .int .i64 0, .int .i64 0, .int .u64 0] 38) = Z := ⟨_, rfl⟩; rw [hZ] at ka kb kc; obtain ⟨⟨z0, z1, z2, z3, z4, z5, z6, z7⟩, ⟨f0, f1, f2, f3, f4, f5, f6, f7⟩, ⟨e0, e1, e2, e3, e4, e5, e6, e7⟩⟩ := zero_facts25 ka; obtain ⟨⟨y0, y1, y2, y3, y4, y5, y6, y7⟩, ⟨g0, g1, g2, g3, g4, g5, g6, g7⟩, ⟨d0, d1, d2, d3, d4, d5, d6, d7⟩⟩ := zero_facts25 kb)
  refine bodyPost_ret (results_crt25 rfl _ _ w.heap.size _ #[.int .i64 0, .int .i64 0, .int .i64 0, .int .i64 0, .int .i64 0, .int .i64 0, .int .i64 0, .int .u64 0] _ _ rfl ka Tryd.underlying38 rfl info_head25) rfl ?_
  exact ⟨rfl, kc⟩
end Go.Proofs.YtehbiccpbopkfaaDoor
namespace Go.Proofs.YtehbiccpbopkfaaDoor
open Go.RowKit Gf2
set_option linter.unusedVariables false

-- layer 25: readable of a file whose head is read
theorem two_boxh25 {w w9 w10 : World} {T : TypeId} {A : Array Value} (b0 : Below w.heap.size w (w.alloc (.cells #[.int .i64 0, .int .i64 0, .int .i64 0, .int .i64 0, .int .i64 0, .int .i64 0, .int .i64 0, .int .u64 0] T))) (hb : Below (w.alloc (.cells #[.int .i64 0, .int .i64 0, .int .i64 0, .int .i64 0, .int .i64 0, .int .i64 0, .int .i64 0, .int .u64 0] T)).heap.size (w.alloc (.cells #[.int .i64 0, .int .i64 0, .int .i64 0, .int .i64 0, .int .i64 0, .int .i64 0, .int .i64 0, .int .u64 0] T)) w9) (hc : Below (w9.alloc (.cells A T)).heap.size (w9.alloc (.cells A T)) w10) :
    w10.heap[w.heap.size]? = some (.cells #[.int .i64 0, .int .i64 0, .int .i64 0, .int .i64 0, .int .i64 0, .int .i64 0, .int .i64 0, .int .u64 0] T (0, 0)) ∧ w10.heap[w9.heap.size]? = some (.cells A T (0, 0)) ∧ Below w.heap.size w w10 := by
  have k : w9.heap[w.heap.size]? = some (.cells #[.int .i64 0, .int .i64 0, .int .i64 0, .int .i64 0, .int .i64 0, .int .i64 0, .int .i64 0, .int .u64 0] T (0, 0)) := (hb.block _ (by simp)).trans (heap_alloc_new _ _)
  have b1 : Below w9.heap.size w9 (w9.alloc (.cells A T)) := (Below.refl _ _).alloc (Nat.le_refl _) _
  have b2 : Below w.heap.size w w9 := b0.trans (hb.mono (by simp))
  have b3 : Below w9.heap.size w9 w10 := b1.trans (hc.mono (by simp))
  exact ⟨(b3.block _ (Array.getElem?_eq_some_iff.1 k).1).trans k, (hc.block _ (by simp)).trans (heap_alloc_new _ _), b2.trans (b3.mono b2.size)⟩
set_option maxHeartbeats 8000000 in
set_option maxRecDepth 100000 in
theorem readable25_long (a : Option Addr) (n cap : Nat) (f k m i s l b st : Nat) (w : World) (hg : Gh25 f k m i s l b) (hn : 48 + l + 4 * nb25 l b < n)
    (cR : ∀ W, Below w.heap.size w W → Calls Tryd.prog 33 #[.slice a n cap] W fun e w' => e = .returned (.tuple #[hd25 f k m i s l b st, .int .i64 0]) ∧ Below W.heap.size W w') :
    Calls Tryd.prog 44 #[.slice a n cap] w fun e w' => e = .returned (.tuple #[hd25 0 0 0 0 0 0 0 0, .int .i64 252]) ∧ Below w.heap.size w w' := by
  have b0 : Below w.heap.size w (w.alloc (.cells #[.int .i64 0, .int .i64 0, .int .i64 0, .int .i64 0, .int .i64 0, .int .i64 0, .int .i64 0, .int .u64 0] 38)) := (Below.refl _ _).alloc (Nat.le_refl _) _
  have c1 := cR _ b0
  have HB : Hid (Below w.heap.size w (w.alloc (.cells #[.int .i64 0, .int .i64 0, .int .i64 0, .int .i64 0, .int .i64 0, .int .i64 0, .int .i64 0, .int .u64 0] 38))) := b0
  have c2 : Hid (∀ W, Calls Tryd.prog 18 #[hd25 f k m i s l b st] W fun e w' => e = .returned (.int .i64 ((48 + l + 4 * nb25 l b : Nat) : Int)) ∧ Below W.heap.size W w') := fun W => whole25 f k m i s l b st W (by have := hg.l2; omega) (by have := hg.blk.1; omega) (by have := hg.blk.2.1; omega)
  generalize 48 + l + 4 * nb25 l b = N at c2 hn
  have D1 : decide (((N : Nat) : Int) < ((n : Nat) : Int)) = true := decide_eq_true (by omega)
  have D2 : decide (N < n) = true := decide_eq_true hn
  unfold hd25 at *
  clear cR hg hn b0
  go_enter Tryd.func44, Tryd.ntmps44
  go_wp2_with (first
    | (go_at_call 33; (with_reducible refine c1.mono ?_); rintro e w9 ⟨rfl, hb9⟩; clear c1)
    | (go_at_call 18; (with_reducible refine (c2.out _).mono ?_); rintro e w10 ⟨rfl, hb10⟩; clear c2; obtain ⟨ka, kb, kc⟩ := two_boxh25 HB.out hb9 hb10; obtain ⟨q0, q1, q2, q3, q4, q5, q6, q7⟩ := hcells25 kb; obtain ⟨⟨z0, z1, z2, z3, z4, z5, z6, z7⟩, ⟨f0, f1, f2, f3, f4, f5, f6, f7⟩, ⟨e0, e1, e2, e3, e4, e5, e6, e7⟩⟩ := zero_facts25 ka))
  refine bodyPost_ret (results_crt25 rfl _ _ w.heap.size _ #[.int .i64 0, .int .i64 0, .int .i64 0, .int .i64 0, .int .i64 0, .int .i64 0, .int .i64 0, .int .u64 0] _ _ rfl ka Tryd.underlying38 rfl info_head25) rfl ?_
  exact ⟨rfl, kc⟩
set_option maxHeartbeats 8000000 in
set_option maxRecDepth 100000 in
theorem readable25_yes (a : Option Addr) (n cap : Nat) (f k m i s l b st : Nat) (w : World) (hg : Gh25 f k m i s l b) (hn : ¬ 48 + l + 4 * nb25 l b < n)
    (cR : ∀ W, Below w.heap.size w W → Calls Tryd.prog 33 #[.slice a n cap] W fun e w' => e = .returned (.tuple #[hd25 f k m i s l b st, .int .i64 0]) ∧ Below W.heap.size W w') :
    Calls Tryd.prog 44 #[.slice a n cap] w fun e w' => e = .returned (.tuple #[hd25 f k m i s l b st, .int .i64 0]) ∧ Below w.heap.size w w' := by
  have b0 : Below w.heap.size w (w.alloc (.cells #[.int .i64 0, .int .i64 0, .int .i64 0, .int .i64 0, .int .i64 0, .int .i64 0, .int .i64 0, .int .u64 0] 38)) := (Below.refl _ _).alloc (Nat.le_refl _) _
  have c1 := cR _ b0
  have HB : Hid (Below w.heap.size w (w.alloc (.cells #[.int .i64 0, .int .i64 0, .int .i64 0, .int .i64 0, .int .i64 0, .int .i64 0, .int .i64 0, .int .u64 0] 38))) := b0
  have c2 : Hid (∀ W, Calls Tryd.prog 18 #[hd25 f k m i s l b st] W fun e w' => e = .returned (.int .i64 ((48 + l + 4 * nb25 l b : Nat) : Int)) ∧ Below W.heap.size W w') := fun W => whole25 f k m i s l b st W (by have := hg.l2; omega) (by have := hg.blk.1; omega) (by have := hg.blk.2.1; omega)
  generalize 48 + l + 4 * nb25 l b = N at c2 hn
  have D1 : decide (((N : Nat) : Int) < ((n : Nat) : Int)) = false := decide_eq_false (by omega)
  have D2 : decide (N < n) = false := decide_eq_false hn
  unfold hd25 at *
  clear cR hg hn b0
  go_enter Tryd.func44, Tryd.ntmps44
  go_wp2_with (first
    | (go_at_call 33; (with_reducible refine c1.mono ?_); rintro e w9 ⟨rfl, hb9⟩; clear c1)
    | (go_at_call 18; (with_reducible refine (c2.out _).mono ?_); rintro e w10 ⟨rfl, hb10⟩; clear c2; obtain ⟨ka, kb, kc⟩ := two_boxh25 HB.out hb9 hb10; obtain ⟨q0, q1, q2, q3, q4, q5, q6, q7⟩ := hcells25 kb; obtain ⟨⟨z0, z1, z2, z3, z4, z5, z6, z7⟩, ⟨f0, f1, f2, f3, f4, f5, f6, f7⟩, -⟩ := zero_facts25 ka))
  refine bodyPost_ret (results_crt25 rfl _ _ w.heap.size _ _ _ _ rfl (store8_25 ka _ _ _ _ _ _ _ _).1 Tryd.underlying38 rfl info_head25) rfl ?_
  exact ⟨rfl, kc.trans ((store8_25 ka _ _ _ _ _ _ _ _).2.below (Nat.le_refl _))⟩
end Go.Proofs.YtehbiccpbopkfaaDoor
