import Derived.Test.YtefolifecbhgoaaGreatMbau
namespace Go.Proofs.YtefolifecbhgoaaGreat
open Go.RowKit Gf2
set_option linter.unusedVariables false

set_option maxHeartbeats 8000000 in
set_option maxRecDepth 100000 in
theorem tail_6 (b c keep g o ca h q cx N : Nat) (F S : Nat → Nat) (w : World) (hb : Cb c b w) (hg : g ≠ b) (hkp : keep < 256) (hR : Rw w g N F) (hoN : o + 6 ≤ N) (hx : Rdg w g N o 6 h q F S) :
    Calls Tryz.prog 201 #[.pointer (some ⟨b, 0, none⟩), .int .u8 (keep : Int), .slice (some ⟨g, o, none⟩) 6 ca, .slice (some ⟨h, q, none⟩) 6 cx] w fun e w' => (∃ v, e = .returned v) ∧ Kp g w w' ∧ Rw w' g N (pl F o 6 (fun j => vmix c keep (F (o + j)) (S j))) := by
  obtain ⟨W, hW⟩ : ∃ W, W = w := ⟨_, rfl⟩
  have T : Ts w W g N b c o 6 6 F (fun j => vmix c keep (F (o + j)) (S j)) := by rw [hW]; exact Ts.start hR hb
  have HR : Hid (Rw w g N F ∧ Rdg w g N o 6 h q F S ∧ Ts w W g N b c o 6 6 F (fun j => vmix c keep (F (o + j)) (S j))) := ⟨hR, hx, T⟩
  have HP : Hid (g ≠ b ∧ keep < 256 ∧ o + 6 ≤ N) := ⟨hg, hkp, hoN⟩
  suffices HC : Calls Tryz.prog 201 #[.pointer (some ⟨b, 0, none⟩), .int .u8 (keep : Int), .slice (some ⟨g, o, none⟩) 6 ca, .slice (some ⟨h, q, none⟩) 6 cx] W fun e w' => (∃ v, e = .returned v) ∧ Kp g w w' ∧ Rw w' g N (pl F o 6 (fun j => vmix c keep (F (o + j)) (S j))) by rw [hW] at HC; exact HC
  clear T hb hR hx hW hg hkp hoN
  go_enter Tryz.func201, Tryz.ntmps201
  go_wp2
  obtain ⟨hR, hx, T⟩ := HR.out
  obtain ⟨hg, hkp, hoN⟩ := HP.out
  clear HR HP
  -- place 5
  have f1 : W.cell? ⟨g, o + 5, none⟩ = some (.int .u8 (F (o + 5) : Nat)) := T.here (k := 5) (by decide) hoN
  have f2 := T.open_ (o + 5)
  obtain ⟨l3, f3'⟩ := T.src (k := 5) hx (by decide)
  have f3 : W.cell? ⟨h, q + 5, none⟩ = some (.int .u8 (S 5 : Nat)) := f3'
  clear f3'
  have HT : Hid (Ts w ((W.setCell ⟨g, o + 5, none⟩ (.int .u8 (vmix c keep (F (o + 5)) (S 5) : Nat))).drew.drew) g N b c o 6 5 F (fun j => vmix c keep (F (o + j)) (S j))) := T.step (by decide) (vmix_lt (hR.2.1 _ (by omega))) hg
  have c1 : Calls Tryz.prog 202 #[.pointer (some ⟨b, 0, none⟩), .int .u8 ((S 5 : Nat) : Int)] W.drew fun e w' => e = .returned (.int .u8 (fm 285 c (S 5) : Nat)) ∧ w' = W.drew.drew := one_nat c (S 5) b W.drew T.2.2.drew l3
  have A1 := u8_and_nat (F (o + 5)) keep (hR.2.1 _ (by omega)) hkp
  have X1 : bits .xor .u8 ((F (o + 5) &&& keep : Nat) : Int) ((fm 285 c (S 5) : Nat) : Int) = ((vmix c keep (F (o + 5)) (S 5) : Nat) : Int) := u8_xor_nat _ _ (Nat.lt_of_le_of_lt Nat.and_le_left (hR.2.1 _ (by omega))) (fm8_lt _ _)
  clear T l3
  generalize hV : vmix c keep (F (o + 5)) (S 5) = V at X1 HT
  generalize hD : F (o + 5) &&& keep = D at A1 X1
  generalize hM : fm 285 c (S 5) = M at c1 X1
  generalize hE : F (o + 5) = E at f1 A1
  generalize hZ : S 5 = Z at f3 c1
  clear hV hD hM hE hZ
  refine region_planT (fun w' => w'.cell? ⟨g, o + 5, none⟩ = some (.int .u8 (E : Nat)) ∧ w'.cell? ⟨h, q + 5, none⟩ = some (.int .u8 (Z : Nat))) 12 [10, 1] 115 ⟨f1, f3⟩ (by kernel_rfl) (by kernel_rfl) (fun _ a d v _ h => by cases d <;> exact h) ?_
  refine planT_step ?A1x5 rfl (fun w' hS => ?s1x5) rfl (fun K hK => ?n1x5)
  case s1x5 =>
    obtain ⟨y1, y2⟩ := hS
    simp only [List.take_succ_cons, List.take_zero]
    repeat still_step
    exact rfl
  case n1x5 =>
  go_simp
  go_wp2_with (go_at_call 202; ((with_reducible refine c1.mono ?_); rintro e w9 ⟨rfl, rfl⟩))
  refine hK _ _ ⟨f1, f3⟩ ?_
  clear hK K c1
  refine planT_last ?A2x5 rfl (fun w' hS => ?s2x5) rfl ?n2x5
  case s2x5 =>
    simp only [List.take_succ_cons, List.take_zero]
    repeat still_step
    exact rfl
  case n2x5 =>
  simp only [List.drop_succ_cons, List.drop_zero]
  go_wp2
  have T := HT.out
  clear HT f1 f2 f3 A1 X1
  generalize (W.setCell ⟨g, o + 5, none⟩ (.int .u8 (V : Nat))).drew.drew = W at T ⊢
  -- place 4
  have f1 : W.cell? ⟨g, o + 4, none⟩ = some (.int .u8 (F (o + 4) : Nat)) := T.here (k := 4) (by decide) hoN
  have f2 := T.open_ (o + 4)
  obtain ⟨l3, f3'⟩ := T.src (k := 4) hx (by decide)
  have f3 : W.cell? ⟨h, q + 4, none⟩ = some (.int .u8 (S 4 : Nat)) := f3'
  clear f3'
  have HT : Hid (Ts w ((W.setCell ⟨g, o + 4, none⟩ (.int .u8 (vmix c keep (F (o + 4)) (S 4) : Nat))).drew.drew) g N b c o 6 4 F (fun j => vmix c keep (F (o + j)) (S j))) := T.step (by decide) (vmix_lt (hR.2.1 _ (by omega))) hg
  have c1 : Calls Tryz.prog 202 #[.pointer (some ⟨b, 0, none⟩), .int .u8 ((S 4 : Nat) : Int)] W.drew fun e w' => e = .returned (.int .u8 (fm 285 c (S 4) : Nat)) ∧ w' = W.drew.drew := one_nat c (S 4) b W.drew T.2.2.drew l3
  have A1 := u8_and_nat (F (o + 4)) keep (hR.2.1 _ (by omega)) hkp
  have X1 : bits .xor .u8 ((F (o + 4) &&& keep : Nat) : Int) ((fm 285 c (S 4) : Nat) : Int) = ((vmix c keep (F (o + 4)) (S 4) : Nat) : Int) := u8_xor_nat _ _ (Nat.lt_of_le_of_lt Nat.and_le_left (hR.2.1 _ (by omega))) (fm8_lt _ _)
  clear T l3
  generalize hV : vmix c keep (F (o + 4)) (S 4) = V at X1 HT
  generalize hD : F (o + 4) &&& keep = D at A1 X1
  generalize hM : fm 285 c (S 4) = M at c1 X1
  generalize hE : F (o + 4) = E at f1 A1
  generalize hZ : S 4 = Z at f3 c1
  clear hV hD hM hE hZ
  refine region_planT (fun w' => w'.cell? ⟨g, o + 4, none⟩ = some (.int .u8 (E : Nat)) ∧ w'.cell? ⟨h, q + 4, none⟩ = some (.int .u8 (Z : Nat))) 12 [10, 1] 115 ⟨f1, f3⟩ (by kernel_rfl) (by kernel_rfl) (fun _ a d v _ h => by cases d <;> exact h) ?_
  refine planT_step ?A1x4 rfl (fun w' hS => ?s1x4) rfl (fun K hK => ?n1x4)
  case s1x4 =>
    obtain ⟨y1, y2⟩ := hS
    simp only [List.take_succ_cons, List.take_zero]
    repeat still_step
    exact rfl
  case n1x4 =>
  go_simp
  go_wp2_with (go_at_call 202; ((with_reducible refine c1.mono ?_); rintro e w9 ⟨rfl, rfl⟩))
  refine hK _ _ ⟨f1, f3⟩ ?_
  clear hK K c1
  refine planT_last ?A2x4 rfl (fun w' hS => ?s2x4) rfl ?n2x4
  case s2x4 =>
    simp only [List.take_succ_cons, List.take_zero]
    repeat still_step
    exact rfl
  case n2x4 =>
  simp only [List.drop_succ_cons, List.drop_zero]
  go_wp2
  have T := HT.out
  clear HT f1 f2 f3 A1 X1
  generalize (W.setCell ⟨g, o + 4, none⟩ (.int .u8 (V : Nat))).drew.drew = W at T ⊢
  -- place 3
  have f1 : W.cell? ⟨g, o + 3, none⟩ = some (.int .u8 (F (o + 3) : Nat)) := T.here (k := 3) (by decide) hoN
  have f2 := T.open_ (o + 3)
  obtain ⟨l3, f3'⟩ := T.src (k := 3) hx (by decide)
  have f3 : W.cell? ⟨h, q + 3, none⟩ = some (.int .u8 (S 3 : Nat)) := f3'
  clear f3'
  have HT : Hid (Ts w ((W.setCell ⟨g, o + 3, none⟩ (.int .u8 (vmix c keep (F (o + 3)) (S 3) : Nat))).drew.drew) g N b c o 6 3 F (fun j => vmix c keep (F (o + j)) (S j))) := T.step (by decide) (vmix_lt (hR.2.1 _ (by omega))) hg
  have c1 : Calls Tryz.prog 202 #[.pointer (some ⟨b, 0, none⟩), .int .u8 ((S 3 : Nat) : Int)] W.drew fun e w' => e = .returned (.int .u8 (fm 285 c (S 3) : Nat)) ∧ w' = W.drew.drew := one_nat c (S 3) b W.drew T.2.2.drew l3
  have A1 := u8_and_nat (F (o + 3)) keep (hR.2.1 _ (by omega)) hkp
  have X1 : bits .xor .u8 ((F (o + 3) &&& keep : Nat) : Int) ((fm 285 c (S 3) : Nat) : Int) = ((vmix c keep (F (o + 3)) (S 3) : Nat) : Int) := u8_xor_nat _ _ (Nat.lt_of_le_of_lt Nat.and_le_left (hR.2.1 _ (by omega))) (fm8_lt _ _)
  clear T l3
  generalize hV : vmix c keep (F (o + 3)) (S 3) = V at X1 HT
  generalize hD : F (o + 3) &&& keep = D at A1 X1
  generalize hM : fm 285 c (S 3) = M at c1 X1
  generalize hE : F (o + 3) = E at f1 A1
  generalize hZ : S 3 = Z at f3 c1
  clear hV hD hM hE hZ
  refine region_planT (fun w' => w'.cell? ⟨g, o + 3, none⟩ = some (.int .u8 (E : Nat)) ∧ w'.cell? ⟨h, q + 3, none⟩ = some (.int .u8 (Z : Nat))) 12 [10, 1] 115 ⟨f1, f3⟩ (by kernel_rfl) (by kernel_rfl) (fun _ a d v _ h => by cases d <;> exact h) ?_
  refine planT_step ?A1x3 rfl (fun w' hS => ?s1x3) rfl (fun K hK => ?n1x3)
  case s1x3 =>
    obtain ⟨y1, y2⟩ := hS
    simp only [List.take_succ_cons, List.take_zero]
    repeat still_step
    exact rfl
  case n1x3 =>
  go_simp
  go_wp2_with (go_at_call 202; ((with_reducible refine c1.mono ?_); rintro e w9 ⟨rfl, rfl⟩))
  refine hK _ _ ⟨f1, f3⟩ ?_
  clear hK K c1
  refine planT_last ?A2x3 rfl (fun w' hS => ?s2x3) rfl ?n2x3
  case s2x3 =>
    simp only [List.take_succ_cons, List.take_zero]
    repeat still_step
    exact rfl
  case n2x3 =>
  simp only [List.drop_succ_cons, List.drop_zero]
  go_wp2
  have T := HT.out
  clear HT f1 f2 f3 A1 X1
  generalize (W.setCell ⟨g, o + 3, none⟩ (.int .u8 (V : Nat))).drew.drew = W at T ⊢
  -- place 2
  have f1 : W.cell? ⟨g, o + 2, none⟩ = some (.int .u8 (F (o + 2) : Nat)) := T.here (k := 2) (by decide) hoN
  have f2 := T.open_ (o + 2)
  obtain ⟨l3, f3'⟩ := T.src (k := 2) hx (by decide)
  have f3 : W.cell? ⟨h, q + 2, none⟩ = some (.int .u8 (S 2 : Nat)) := f3'
  clear f3'
  have HT : Hid (Ts w ((W.setCell ⟨g, o + 2, none⟩ (.int .u8 (vmix c keep (F (o + 2)) (S 2) : Nat))).drew.drew) g N b c o 6 2 F (fun j => vmix c keep (F (o + j)) (S j))) := T.step (by decide) (vmix_lt (hR.2.1 _ (by omega))) hg
  have c1 : Calls Tryz.prog 202 #[.pointer (some ⟨b, 0, none⟩), .int .u8 ((S 2 : Nat) : Int)] W.drew fun e w' => e = .returned (.int .u8 (fm 285 c (S 2) : Nat)) ∧ w' = W.drew.drew := one_nat c (S 2) b W.drew T.2.2.drew l3
  have A1 := u8_and_nat (F (o + 2)) keep (hR.2.1 _ (by omega)) hkp
  have X1 : bits .xor .u8 ((F (o + 2) &&& keep : Nat) : Int) ((fm 285 c (S 2) : Nat) : Int) = ((vmix c keep (F (o + 2)) (S 2) : Nat) : Int) := u8_xor_nat _ _ (Nat.lt_of_le_of_lt Nat.and_le_left (hR.2.1 _ (by omega))) (fm8_lt _ _)
  clear T l3
  generalize hV : vmix c keep (F (o + 2)) (S 2) = V at X1 HT
  generalize hD : F (o + 2) &&& keep = D at A1 X1
  generalize hM : fm 285 c (S 2) = M at c1 X1
  generalize hE : F (o + 2) = E at f1 A1
  generalize hZ : S 2 = Z at f3 c1
  clear hV hD hM hE hZ
  refine region_planT (fun w' => w'.cell? ⟨g, o + 2, none⟩ = some (.int .u8 (E : Nat)) ∧ w'.cell? ⟨h, q + 2, none⟩ = some (.int .u8 (Z : Nat))) 12 [10, 1] 115 ⟨f1, f3⟩ (by kernel_rfl) (by kernel_rfl) (fun _ a d v _ h => by cases d <;> exact h) ?_
  refine planT_step ?A1x2 rfl (fun w' hS => ?s1x2) rfl (fun K hK => ?n1x2)
  case s1x2 =>
    obtain ⟨y1, y2⟩ := hS
    simp only [List.take_succ_cons, List.take_zero]
    repeat still_step
    exact rfl
  case n1x2 =>
  go_simp
  go_wp2_with (go_at_call 202; ((with_reducible refine c1.mono ?_); rintro e w9 ⟨rfl, rfl⟩))
  refine hK _ _ ⟨f1, f3⟩ ?_
  clear hK K c1
  refine planT_last ?A2x2 rfl (fun w' hS => ?s2x2) rfl ?n2x2
  case s2x2 =>
    simp only [List.take_succ_cons, List.take_zero]
    repeat still_step
    exact rfl
  case n2x2 =>
  simp only [List.drop_succ_cons, List.drop_zero]
  go_wp2
  have T := HT.out
  clear HT f1 f2 f3 A1 X1
  generalize (W.setCell ⟨g, o + 2, none⟩ (.int .u8 (V : Nat))).drew.drew = W at T ⊢
  -- place 1
  have f1 : W.cell? ⟨g, o + 1, none⟩ = some (.int .u8 (F (o + 1) : Nat)) := T.here (k := 1) (by decide) hoN
  have f2 := T.open_ (o + 1)
  obtain ⟨l3, f3'⟩ := T.src (k := 1) hx (by decide)
  have f3 : W.cell? ⟨h, q + 1, none⟩ = some (.int .u8 (S 1 : Nat)) := f3'
  clear f3'
  have HT : Hid (Ts w ((W.setCell ⟨g, o + 1, none⟩ (.int .u8 (vmix c keep (F (o + 1)) (S 1) : Nat))).drew.drew) g N b c o 6 1 F (fun j => vmix c keep (F (o + j)) (S j))) := T.step (by decide) (vmix_lt (hR.2.1 _ (by omega))) hg
  have c1 : Calls Tryz.prog 202 #[.pointer (some ⟨b, 0, none⟩), .int .u8 ((S 1 : Nat) : Int)] W.drew fun e w' => e = .returned (.int .u8 (fm 285 c (S 1) : Nat)) ∧ w' = W.drew.drew := one_nat c (S 1) b W.drew T.2.2.drew l3
  have A1 := u8_and_nat (F (o + 1)) keep (hR.2.1 _ (by omega)) hkp
  have X1 : bits .xor .u8 ((F (o + 1) &&& keep : Nat) : Int) ((fm 285 c (S 1) : Nat) : Int) = ((vmix c keep (F (o + 1)) (S 1) : Nat) : Int) := u8_xor_nat _ _ (Nat.lt_of_le_of_lt Nat.and_le_left (hR.2.1 _ (by omega))) (fm8_lt _ _)
  clear T l3
  generalize hV : vmix c keep (F (o + 1)) (S 1) = V at X1 HT
  generalize hD : F (o + 1) &&& keep = D at A1 X1
  generalize hM : fm 285 c (S 1) = M at c1 X1
  generalize hE : F (o + 1) = E at f1 A1
  generalize hZ : S 1 = Z at f3 c1
  clear hV hD hM hE hZ
  refine region_planT (fun w' => w'.cell? ⟨g, o + 1, none⟩ = some (.int .u8 (E : Nat)) ∧ w'.cell? ⟨h, q + 1, none⟩ = some (.int .u8 (Z : Nat))) 12 [10, 1] 115 ⟨f1, f3⟩ (by kernel_rfl) (by kernel_rfl) (fun _ a d v _ h => by cases d <;> exact h) ?_
  refine planT_step ?A1x1 rfl (fun w' hS => ?s1x1) rfl (fun K hK => ?n1x1)
  case s1x1 =>
    obtain ⟨y1, y2⟩ := hS
    simp only [List.take_succ_cons, List.take_zero]
    repeat still_step
    exact rfl
  case n1x1 =>
  go_simp
  go_wp2_with (go_at_call 202; ((with_reducible refine c1.mono ?_); rintro e w9 ⟨rfl, rfl⟩))
  refine hK _ _ ⟨f1, f3⟩ ?_
  clear hK K c1
  refine planT_last ?A2x1 rfl (fun w' hS => ?s2x1) rfl ?n2x1
  case s2x1 =>
    simp only [List.take_succ_cons, List.take_zero]
    repeat still_step
    exact rfl
  case n2x1 =>
  simp only [List.drop_succ_cons, List.drop_zero]
  go_wp2
  have T := HT.out
  clear HT f1 f2 f3 A1 X1
  generalize (W.setCell ⟨g, o + 1, none⟩ (.int .u8 (V : Nat))).drew.drew = W at T ⊢
  -- place 0
  have f1 : W.cell? ⟨g, o, none⟩ = some (.int .u8 (F (o) : Nat)) := T.here (k := 0) (by decide) hoN
  have f2 := T.open_ (o)
  obtain ⟨l3, f3'⟩ := T.src (k := 0) hx (by decide)
  have f3 : W.cell? ⟨h, q, none⟩ = some (.int .u8 (S 0 : Nat)) := f3'
  clear f3'
  have HT : Hid (Ts w ((W.setCell ⟨g, o, none⟩ (.int .u8 (vmix c keep (F (o)) (S 0) : Nat))).drew.drew) g N b c o 6 0 F (fun j => vmix c keep (F (o + j)) (S j))) := T.step (by decide) (vmix_lt (hR.2.1 _ (by omega))) hg
  have c1 : Calls Tryz.prog 202 #[.pointer (some ⟨b, 0, none⟩), .int .u8 ((S 0 : Nat) : Int)] W.drew fun e w' => e = .returned (.int .u8 (fm 285 c (S 0) : Nat)) ∧ w' = W.drew.drew := one_nat c (S 0) b W.drew T.2.2.drew l3
  have A1 := u8_and_nat (F (o)) keep (hR.2.1 _ (by omega)) hkp
  have X1 : bits .xor .u8 ((F (o) &&& keep : Nat) : Int) ((fm 285 c (S 0) : Nat) : Int) = ((vmix c keep (F (o)) (S 0) : Nat) : Int) := u8_xor_nat _ _ (Nat.lt_of_le_of_lt Nat.and_le_left (hR.2.1 _ (by omega))) (fm8_lt _ _)
  clear T l3
  generalize hV : vmix c keep (F (o)) (S 0) = V at X1 HT
  generalize hD : F (o) &&& keep = D at A1 X1
  generalize hM : fm 285 c (S 0) = M at c1 X1
  generalize hE : F (o) = E at f1 A1
  generalize hZ : S 0 = Z at f3 c1
  clear hV hD hM hE hZ
  refine region_planT (fun w' => w'.cell? ⟨g, o, none⟩ = some (.int .u8 (E : Nat)) ∧ w'.cell? ⟨h, q, none⟩ = some (.int .u8 (Z : Nat))) 12 [10, 1] 115 ⟨f1, f3⟩ (by kernel_rfl) (by kernel_rfl) (fun _ a d v _ h => by cases d <;> exact h) ?_
  refine planT_step ?A1x0 rfl (fun w' hS => ?s1x0) rfl (fun K hK => ?n1x0)
  case s1x0 =>
    obtain ⟨y1, y2⟩ := hS
    simp only [List.take_succ_cons, List.take_zero]
    repeat still_step
    exact rfl
  case n1x0 =>
  go_simp
  go_wp2_with (go_at_call 202; ((with_reducible refine c1.mono ?_); rintro e w9 ⟨rfl, rfl⟩))
  refine hK _ _ ⟨f1, f3⟩ ?_
  clear hK K c1
  refine planT_last ?A2x0 rfl (fun w' hS => ?s2x0) rfl ?n2x0
  case s2x0 =>
    simp only [List.take_succ_cons, List.take_zero]
    repeat still_step
    exact rfl
  case n2x0 =>
  simp only [List.drop_succ_cons, List.drop_zero]
  go_wp2
  go_end0
  exact ⟨⟨_, rfl⟩, HT.out.end_⟩
set_option maxHeartbeats 8000000 in
set_option maxRecDepth 100000 in
theorem tail_7 (b c keep g o ca h q cx N : Nat) (F S : Nat → Nat) (w : World) (hb : Cb c b w) (hg : g ≠ b) (hkp : keep < 256) (hR : Rw w g N F) (hoN : o + 7 ≤ N) (hx : Rdg w g N o 7 h q F S) :
    Calls Tryz.prog 201 #[.pointer (some ⟨b, 0, none⟩), .int .u8 (keep : Int), .slice (some ⟨g, o, none⟩) 7 ca, .slice (some ⟨h, q, none⟩) 7 cx] w fun e w' => (∃ v, e = .returned v) ∧ Kp g w w' ∧ Rw w' g N (pl F o 7 (fun j => vmix c keep (F (o + j)) (S j))) := by
  obtain ⟨W, hW⟩ : ∃ W, W = w := ⟨_, rfl⟩
  have T : Ts w W g N b c o 7 7 F (fun j => vmix c keep (F (o + j)) (S j)) := by rw [hW]; exact Ts.start hR hb
  have HR : Hid (Rw w g N F ∧ Rdg w g N o 7 h q F S ∧ Ts w W g N b c o 7 7 F (fun j => vmix c keep (F (o + j)) (S j))) := ⟨hR, hx, T⟩
  have HP : Hid (g ≠ b ∧ keep < 256 ∧ o + 7 ≤ N) := ⟨hg, hkp, hoN⟩
  suffices HC : Calls Tryz.prog 201 #[.pointer (some ⟨b, 0, none⟩), .int .u8 (keep : Int), .slice (some ⟨g, o, none⟩) 7 ca, .slice (some ⟨h, q, none⟩) 7 cx] W fun e w' => (∃ v, e = .returned v) ∧ Kp g w w' ∧ Rw w' g N (pl F o 7 (fun j => vmix c keep (F (o + j)) (S j))) by rw [hW] at HC; exact HC
  clear T hb hR hx hW hg hkp hoN
  go_enter Tryz.func201, Tryz.ntmps201
  go_wp2
  obtain ⟨hR, hx, T⟩ := HR.out
  obtain ⟨hg, hkp, hoN⟩ := HP.out
  clear HR HP
  -- place 6
  have f1 : W.cell? ⟨g, o + 6, none⟩ = some (.int .u8 (F (o + 6) : Nat)) := T.here (k := 6) (by decide) hoN
  have f2 := T.open_ (o + 6)
  obtain ⟨l3, f3'⟩ := T.src (k := 6) hx (by decide)
  have f3 : W.cell? ⟨h, q + 6, none⟩ = some (.int .u8 (S 6 : Nat)) := f3'
  clear f3'
  have HT : Hid (Ts w ((W.setCell ⟨g, o + 6, none⟩ (.int .u8 (vmix c keep (F (o + 6)) (S 6) : Nat))).drew.drew) g N b c o 7 6 F (fun j => vmix c keep (F (o + j)) (S j))) := T.step (by decide) (vmix_lt (hR.2.1 _ (by omega))) hg
  have c1 : Calls Tryz.prog 202 #[.pointer (some ⟨b, 0, none⟩), .int .u8 ((S 6 : Nat) : Int)] W.drew fun e w' => e = .returned (.int .u8 (fm 285 c (S 6) : Nat)) ∧ w' = W.drew.drew := one_nat c (S 6) b W.drew T.2.2.drew l3
  have A1 := u8_and_nat (F (o + 6)) keep (hR.2.1 _ (by omega)) hkp
  have X1 : bits .xor .u8 ((F (o + 6) &&& keep : Nat) : Int) ((fm 285 c (S 6) : Nat) : Int) = ((vmix c keep (F (o + 6)) (S 6) : Nat) : Int) := u8_xor_nat _ _ (Nat.lt_of_le_of_lt Nat.and_le_left (hR.2.1 _ (by omega))) (fm8_lt _ _)
  clear T l3
  generalize hV : vmix c keep (F (o + 6)) (S 6) = V at X1 HT
  generalize hD : F (o + 6) &&& keep = D at A1 X1
  generalize hM : fm 285 c (S 6) = M at c1 X1
  generalize hE : F (o + 6) = E at f1 A1
  generalize hZ : S 6 = Z at f3 c1
  clear hV hD hM hE hZ
  refine region_planT (fun w' => w'.cell? ⟨g, o + 6, none⟩ = some (.int .u8 (E : Nat)) ∧ w'.cell? ⟨h, q + 6, none⟩ = some (.int .u8 (Z : Nat))) 12 [10, 1] 115 ⟨f1, f3⟩ (by kernel_rfl) (by kernel_rfl) (fun _ a d v _ h => by cases d <;> exact h) ?_
  refine planT_step ?A1x6 rfl (fun w' hS => ?s1x6) rfl (fun K hK => ?n1x6)
  case s1x6 =>
    obtain ⟨y1, y2⟩ := hS
    simp only [List.take_succ_cons, List.take_zero]
    repeat still_step
    exact rfl
  case n1x6 =>
  go_simp
  go_wp2_with (go_at_call 202; ((with_reducible refine c1.mono ?_); rintro e w9 ⟨rfl, rfl⟩))
  refine hK _ _ ⟨f1, f3⟩ ?_
  clear hK K c1
  refine planT_last ?A2x6 rfl (fun w' hS => ?s2x6) rfl ?n2x6
  case s2x6 =>
    simp only [List.take_succ_cons, List.take_zero]
    repeat still_step
    exact rfl
  case n2x6 =>
  simp only [List.drop_succ_cons, List.drop_zero]
  go_wp2
  have T := HT.out
  clear HT f1 f2 f3 A1 X1
  generalize (W.setCell ⟨g, o + 6, none⟩ (.int .u8 (V : Nat))).drew.drew = W at T ⊢
  -- place 5
  have f1 : W.cell? ⟨g, o + 5, none⟩ = some (.int .u8 (F (o + 5) : Nat)) := T.here (k := 5) (by decide) hoN
  have f2 := T.open_ (o + 5)
  obtain ⟨l3, f3'⟩ := T.src (k := 5) hx (by decide)
  have f3 : W.cell? ⟨h, q + 5, none⟩ = some (.int .u8 (S 5 : Nat)) := f3'
  clear f3'
  have HT : Hid (Ts w ((W.setCell ⟨g, o + 5, none⟩ (.int .u8 (vmix c keep (F (o + 5)) (S 5) : Nat))).drew.drew) g N b c o 7 5 F (fun j => vmix c keep (F (o + j)) (S j))) := T.step (by decide) (vmix_lt (hR.2.1 _ (by omega))) hg
  have c1 : Calls Tryz.prog 202 #[.pointer (some ⟨b, 0, none⟩), .int .u8 ((S 5 : Nat) : Int)] W.drew fun e w' => e = .returned (.int .u8 (fm 285 c (S 5) : Nat)) ∧ w' = W.drew.drew := one_nat c (S 5) b W.drew T.2.2.drew l3
  have A1 := u8_and_nat (F (o + 5)) keep (hR.2.1 _ (by omega)) hkp
  have X1 : bits .xor .u8 ((F (o + 5) &&& keep : Nat) : Int) ((fm 285 c (S 5) : Nat) : Int) = ((vmix c keep (F (o + 5)) (S 5) : Nat) : Int) := u8_xor_nat _ _ (Nat.lt_of_le_of_lt Nat.and_le_left (hR.2.1 _ (by omega))) (fm8_lt _ _)
  clear T l3
  generalize hV : vmix c keep (F (o + 5)) (S 5) = V at X1 HT
  generalize hD : F (o + 5) &&& keep = D at A1 X1
  generalize hM : fm 285 c (S 5) = M at c1 X1
  generalize hE : F (o + 5) = E at f1 A1
  generalize hZ : S 5 = Z at f3 c1
  clear hV hD hM hE hZ
  refine region_planT (fun w' => w'.cell? ⟨g, o + 5, none⟩ = some (.int .u8 (E : Nat)) ∧ w'.cell? ⟨h, q + 5, none⟩ = some (.int .u8 (Z : Nat))) 12 [10, 1] 115 ⟨f1, f3⟩ (by kernel_rfl) (by kernel_rfl) (fun _ a d v _ h => by cases d <;> exact h) ?_
  refine planT_step ?A1x5 rfl (fun w' hS => ?s1x5) rfl (fun K hK => ?n1x5)
  case s1x5 =>
    obtain ⟨y1, y2⟩ := hS
    simp only [List.take_succ_cons, List.take_zero]
    repeat still_step
    exact rfl
  case n1x5 =>
  go_simp
  go_wp2_with (go_at_call 202; ((with_reducible refine c1.mono ?_); rintro e w9 ⟨rfl, rfl⟩))
  refine hK _ _ ⟨f1, f3⟩ ?_
  clear hK K c1
  refine planT_last ?A2x5 rfl (fun w' hS => ?s2x5) rfl ?n2x5
  case s2x5 =>
    simp only [List.take_succ_cons, List.take_zero]
    repeat still_step
    exact rfl
  case n2x5 =>
  simp only [List.drop_succ_cons, List.drop_zero]
  go_wp2
  have T := HT.out
  clear HT f1 f2 f3 A1 X1
  generalize (W.setCell ⟨g, o + 5, none⟩ (.int .u8 (V : Nat))).drew.drew = W at T ⊢
  -- place 4
  have f1 : W.cell? ⟨g, o + 4, none⟩ = some (.int .u8 (F (o + 4) : Nat)) := T.here (k := 4) (by decide) hoN
  have f2 := T.open_ (o + 4)
  obtain ⟨l3, f3'⟩ := T.src (k := 4) hx (by decide)
  have f3 : W.cell? ⟨h, q + 4, none⟩ = some (.int .u8 (S 4 : Nat)) := f3'
  clear f3'
  have HT : Hid (Ts w ((W.setCell ⟨g, o + 4, none⟩ (.int .u8 (vmix c keep (F (o + 4)) (S 4) : Nat))).drew.drew) g N b c o 7 4 F (fun j => vmix c keep (F (o + j)) (S j))) := T.step (by decide) (vmix_lt (hR.2.1 _ (by omega))) hg
  have c1 : Calls Tryz.prog 202 #[.pointer (some ⟨b, 0, none⟩), .int .u8 ((S 4 : Nat) : Int)] W.drew fun e w' => e = .returned (.int .u8 (fm 285 c (S 4) : Nat)) ∧ w' = W.drew.drew := one_nat c (S 4) b W.drew T.2.2.drew l3
  have A1 := u8_and_nat (F (o + 4)) keep (hR.2.1 _ (by omega)) hkp
  have X1 : bits .xor .u8 ((F (o + 4) &&& keep : Nat) : Int) ((fm 285 c (S 4) : Nat) : Int) = ((vmix c keep (F (o + 4)) (S 4) : Nat) : Int) := u8_xor_nat _ _ (Nat.lt_of_le_of_lt Nat.and_le_left (hR.2.1 _ (by omega))) (fm8_lt _ _)
  clear T l3
  generalize hV : vmix c keep (F (o + 4)) (S 4) = V at X1 HT
  generalize hD : F (o + 4) &&& keep = D at A1 X1
  generalize hM : fm 285 c (S 4) = M at c1 X1
  generalize hE : F (o + 4) = E at f1 A1
  generalize hZ : S 4 = Z at f3 c1
  clear hV hD hM hE hZ
  refine region_planT (fun w' => w'.cell? ⟨g, o + 4, none⟩ = some (.int .u8 (E : Nat)) ∧ w'.cell? ⟨h, q + 4, none⟩ = some (.int .u8 (Z : Nat))) 12 [10, 1] 115 ⟨f1, f3⟩ (by kernel_rfl) (by kernel_rfl) (fun _ a d v _ h => by cases d <;> exact h) ?_
  refine planT_step ?A1x4 rfl (fun w' hS => ?s1x4) rfl (fun K hK => ?n1x4)
  case s1x4 =>
    obtain ⟨y1, y2⟩ := hS
    simp only [List.take_succ_cons, List.take_zero]
    repeat still_step
    exact rfl
  case n1x4 =>
  go_simp
  go_wp2_with (go_at_call 202; ((with_reducible refine c1.mono ?_); rintro e w9 ⟨rfl, rfl⟩))
  refine hK _ _ ⟨f1, f3⟩ ?_
  clear hK K c1
  refine planT_last ?A2x4 rfl (fun w' hS => ?s2x4) rfl ?n2x4
  case s2x4 =>
    simp only [List.take_succ_cons, List.take_zero]
    repeat still_step
    exact rfl
  case n2x4 =>
  simp only [List.drop_succ_cons, List.drop_zero]
  go_wp2
  have T := HT.out
  clear HT f1 f2 f3 A1 X1
  generalize (W.setCell ⟨g, o + 4, none⟩ (.int .u8 (V : Nat))).drew.drew = W at T ⊢
  -- place 3
  have f1 : W.cell? ⟨g, o + 3, none⟩ = some (.int .u8 (F (o + 3) : Nat)) := T.here (k := 3) (by decide) hoN
  have f2 := T.open_ (o + 3)
  obtain ⟨l3, f3'⟩ := T.src (k := 3) hx (by decide)
  have f3 : W.cell? ⟨h, q + 3, none⟩ = some (.int .u8 (S 3 : Nat)) := f3'
  clear f3'
  have HT : Hid (Ts w ((W.setCell ⟨g, o + 3, none⟩ (.int .u8 (vmix c keep (F (o + 3)) (S 3) : Nat))).drew.drew) g N b c o 7 3 F (fun j => vmix c keep (F (o + j)) (S j))) := T.step (by decide) (vmix_lt (hR.2.1 _ (by omega))) hg
  have c1 : Calls Tryz.prog 202 #[.pointer (some ⟨b, 0, none⟩), .int .u8 ((S 3 : Nat) : Int)] W.drew fun e w' => e = .returned (.int .u8 (fm 285 c (S 3) : Nat)) ∧ w' = W.drew.drew := one_nat c (S 3) b W.drew T.2.2.drew l3
  have A1 := u8_and_nat (F (o + 3)) keep (hR.2.1 _ (by omega)) hkp
  have X1 : bits .xor .u8 ((F (o + 3) &&& keep : Nat) : Int) ((fm 285 c (S 3) : Nat) : Int) = ((vmix c keep (F (o + 3)) (S 3) : Nat) : Int) := u8_xor_nat _ _ (Nat.lt_of_le_of_lt Nat.and_le_left (hR.2.1 _ (by omega))) (fm8_lt _ _)
  clear T l3
  generalize hV : vmix c keep (F (o + 3)) (S 3) = V at X1 HT
  generalize hD : F (o + 3) &&& keep = D at A1 X1
  generalize hM : fm 285 c (S 3) = M at c1 X1
  generalize hE : F (o + 3) = E at f1 A1
  generalize hZ : S 3 = Z at f3 c1
  clear hV hD hM hE hZ
  refine region_planT (fun w' => w'.cell? ⟨g, o + 3, none⟩ = some (.int .u8 (E : Nat)) ∧ w'.cell? ⟨h, q + 3, none⟩ = some (.int .u8 (Z : Nat))) 12 [10, 1] 115 ⟨f1, f3⟩ (by kernel_rfl) (by kernel_rfl) (fun _ a d v _ h => by cases d <;> exact h) ?_
  refine planT_step ?A1x3 rfl (fun w' hS => ?s1x3) rfl (fun K hK => ?n1x3)
  case s1x3 =>
    obtain ⟨y1, y2⟩ := hS
    simp only [List.take_succ_cons, List.take_zero]
    repeat still_step
    exact rfl
  case n1x3 =>
  go_simp
  go_wp2_with (go_at_call 202; ((with_reducible refine c1.mono ?_); rintro e w9 ⟨rfl, rfl⟩))
  refine hK _ _ ⟨f1, f3⟩ ?_
  clear hK K c1
  refine planT_last ?A2x3 rfl (fun w' hS => ?s2x3) rfl ?n2x3
  case s2x3 =>
    simp only [List.take_succ_cons, List.take_zero]
    repeat still_step
    exact rfl
  case n2x3 =>
  simp only [List.drop_succ_cons, List.drop_zero]
  go_wp2
  have T := HT.out
  clear HT f1 f2 f3 A1 X1
  generalize (W.setCell ⟨g, o + 3, none⟩ (.int .u8 (V : Nat))).drew.drew = W at T ⊢
  -- place 2
  have f1 : W.cell? ⟨g, o + 2, none⟩ = some (.int .u8 (F (o + 2) : Nat)) := T.here (k := 2) (by decide) hoN
  have f2 := T.open_ (o + 2)
  obtain ⟨l3, f3'⟩ := T.src (k := 2) hx (by decide)
  have f3 : W.cell? ⟨h, q + 2, none⟩ = some (.int .u8 (S 2 : Nat)) := f3'
  clear f3'
  have HT : Hid (Ts w ((W.setCell ⟨g, o + 2, none⟩ (.int .u8 (vmix c keep (F (o + 2)) (S 2) : Nat))).drew.drew) g N b c o 7 2 F (fun j => vmix c keep (F (o + j)) (S j))) := T.step (by decide) (vmix_lt (hR.2.1 _ (by omega))) hg
  have c1 : Calls Tryz.prog 202 #[.pointer (some ⟨b, 0, none⟩), .int .u8 ((S 2 : Nat) : Int)] W.drew fun e w' => e = .returned (.int .u8 (fm 285 c (S 2) : Nat)) ∧ w' = W.drew.drew := one_nat c (S 2) b W.drew T.2.2.drew l3
  have A1 := u8_and_nat (F (o + 2)) keep (hR.2.1 _ (by omega)) hkp
  have X1 : bits .xor .u8 ((F (o + 2) &&& keep : Nat) : Int) ((fm 285 c (S 2) : Nat) : Int) = ((vmix c keep (F (o + 2)) (S 2) : Nat) : Int) := u8_xor_nat _ _ (Nat.lt_of_le_of_lt Nat.and_le_left (hR.2.1 _ (by omega))) (fm8_lt _ _)
  clear T l3
  generalize hV : vmix c keep (F (o + 2)) (S 2) = V at X1 HT
  generalize hD : F (o + 2) &&& keep = D at A1 X1
  generalize hM : fm 285 c (S 2) = M at c1 X1
  generalize hE : F (o + 2) = E at f1 A1
  generalize hZ : S 2 = Z at f3 c1
  clear hV hD hM hE hZ
  refine region_planT (fun w' => w'.cell? ⟨g, o + 2, none⟩ = some (.int .u8 (E : Nat)) ∧ w'.cell? ⟨h, q + 2, none⟩ = some (.int .u8 (Z : Nat))) 12 [10, 1] 115 ⟨f1, f3⟩ (by kernel_rfl) (by kernel_rfl) (fun _ a d v _ h => by cases d <;> exact h) ?_
  refine planT_step ?A1x2 rfl (fun w' hS => ?s1x2) rfl (fun K hK => ?n1x2)
  case s1x2 =>
    obtain ⟨y1, y2⟩ := hS
    simp only [List.take_succ_cons, List.take_zero]
    repeat still_step
    exact rfl
  case n1x2 =>
  go_simp
  go_wp2_with (go_at_call 202; ((with_reducible refine c1.mono ?_); rintro e w9 ⟨rfl, rfl⟩))
  refine hK _ _ ⟨f1, f3⟩ ?_
  clear hK K c1
  refine planT_last ?A2x2 rfl (fun w' hS => ?s2x2) rfl ?n2x2
  case s2x2 =>
    simp only [List.take_succ_cons, List.take_zero]
    repeat still_step
    exact rfl
  case n2x2 =>
  simp only [List.drop_succ_cons, List.drop_zero]
  go_wp2
  have T := HT.out
  clear HT f1 f2 f3 A1 X1
  generalize (W.setCell ⟨g, o + 2, none⟩ (.int .u8 (V : Nat))).drew.drew = W at T ⊢
  -- place 1
  have f1 : W.cell? ⟨g, o + 1, none⟩ = some (.int .u8 (F (o + 1) : Nat)) := T.here (k := 1) (by decide) hoN
  have f2 := T.open_ (o + 1)
  obtain ⟨l3, f3'⟩ := T.src (k := 1) hx (by decide)
  have f3 : W.cell? ⟨h, q + 1, none⟩ = some (.int .u8 (S 1 : Nat)) := f3'
  clear f3'
  have HT : Hid (Ts w ((W.setCell ⟨g, o + 1, none⟩ (.int .u8 (vmix c keep (F (o + 1)) (S 1) : Nat))).drew.drew) g N b c o 7 1 F (fun j => vmix c keep (F (o + j)) (S j))) := T.step (by decide) (vmix_lt (hR.2.1 _ (by omega))) hg
  have c1 : Calls Tryz.prog 202 #[.pointer (some ⟨b, 0, none⟩), .int .u8 ((S 1 : Nat) : Int)] W.drew fun e w' => e = .returned (.int .u8 (fm 285 c (S 1) : Nat)) ∧ w' = W.drew.drew := one_nat c (S 1) b W.drew T.2.2.drew l3
  have A1 := u8_and_nat (F (o + 1)) keep (hR.2.1 _ (by omega)) hkp
  have X1 : bits .xor .u8 ((F (o + 1) &&& keep : Nat) : Int) ((fm 285 c (S 1) : Nat) : Int) = ((vmix c keep (F (o + 1)) (S 1) : Nat) : Int) := u8_xor_nat _ _ (Nat.lt_of_le_of_lt Nat.and_le_left (hR.2.1 _ (by omega))) (fm8_lt _ _)
  clear T l3
  generalize hV : vmix c keep (F (o + 1)) (S 1) = V at X1 HT
  generalize hD : F (o + 1) &&& keep = D at A1 X1
  generalize hM : fm 285 c (S 1) = M at c1 X1
  generalize hE : F (o + 1) = E at f1 A1
  generalize hZ : S 1 = Z at f3 c1
  clear hV hD hM hE hZ
  refine region_planT (fun w' => w'.cell? ⟨g, o + 1, none⟩ = some (.int .u8 (E : Nat)) ∧ w'.cell? ⟨h, q + 1, none⟩ = some (.int .u8 (Z : Nat))) 12 [10, 1] 115 ⟨f1, f3⟩ (by kernel_rfl) (by kernel_rfl) (fun _ a d v _ h => by cases d <;> exact h) ?_
  refine planT_step ?A1x1 rfl (fun w' hS => ?s1x1) rfl (fun K hK => ?n1x1)
  case s1x1 =>
    obtain ⟨y1, y2⟩ := hS
    simp only [List.take_succ_cons, List.take_zero]
    repeat still_step
    exact rfl
  case n1x1 =>
  go_simp
  go_wp2_with (go_at_call 202; ((with_reducible refine c1.mono ?_); rintro e w9 ⟨rfl, rfl⟩))
  refine hK _ _ ⟨f1, f3⟩ ?_
  clear hK K c1
  refine planT_last ?A2x1 rfl (fun w' hS => ?s2x1) rfl ?n2x1
  case s2x1 =>
    simp only [List.take_succ_cons, List.take_zero]
    repeat still_step
    exact rfl
  case n2x1 =>
  simp only [List.drop_succ_cons, List.drop_zero]
  go_wp2
  have T := HT.out
  clear HT f1 f2 f3 A1 X1
  generalize (W.setCell ⟨g, o + 1, none⟩ (.int .u8 (V : Nat))).drew.drew = W at T ⊢
  -- place 0
  have f1 : W.cell? ⟨g, o, none⟩ = some (.int .u8 (F (o) : Nat)) := T.here (k := 0) (by decide) hoN
  have f2 := T.open_ (o)
  obtain ⟨l3, f3'⟩ := T.src (k := 0) hx (by decide)
  have f3 : W.cell? ⟨h, q, none⟩ = some (.int .u8 (S 0 : Nat)) := f3'
  clear f3'
  have HT : Hid (Ts w ((W.setCell ⟨g, o, none⟩ (.int .u8 (vmix c keep (F (o)) (S 0) : Nat))).drew.drew) g N b c o 7 0 F (fun j => vmix c keep (F (o + j)) (S j))) := T.step (by decide) (vmix_lt (hR.2.1 _ (by omega))) hg
  have c1 : Calls Tryz.prog 202 #[.pointer (some ⟨b, 0, none⟩), .int .u8 ((S 0 : Nat) : Int)] W.drew fun e w' => e = .returned (.int .u8 (fm 285 c (S 0) : Nat)) ∧ w' = W.drew.drew := one_nat c (S 0) b W.drew T.2.2.drew l3
  have A1 := u8_and_nat (F (o)) keep (hR.2.1 _ (by omega)) hkp
  have X1 : bits .xor .u8 ((F (o) &&& keep : Nat) : Int) ((fm 285 c (S 0) : Nat) : Int) = ((vmix c keep (F (o)) (S 0) : Nat) : Int) := u8_xor_nat _ _ (Nat.lt_of_le_of_lt Nat.and_le_left (hR.2.1 _ (by omega))) (fm8_lt _ _)
  clear T l3
  generalize hV : vmix c keep (F (o)) (S 0) = V at X1 HT
  generalize hD : F (o) &&& keep = D at A1 X1
  generalize hM : fm 285 c (S 0) = M at c1 X1
  generalize hE : F (o) = E at f1 A1
  generalize hZ : S 0 = Z at f3 c1
  clear hV hD hM hE hZ
  refine region_planT (fun w' => w'.cell? ⟨g, o, none⟩ = some (.int .u8 (E : Nat)) ∧ w'.cell? ⟨h, q, none⟩ = some (.int .u8 (Z : Nat))) 12 [10, 1] 115 ⟨f1, f3⟩ (by kernel_rfl) (by kernel_rfl) (fun _ a d v _ h => by cases d <;> exact h) ?_
  refine planT_step ?A1x0 rfl (fun w' hS => ?s1x0) rfl (fun K hK => ?n1x0)
  case s1x0 =>
    obtain ⟨y1, y2⟩ := hS
    simp only [List.take_succ_cons, List.take_zero]
    repeat still_step
    exact rfl
  case n1x0 =>
  go_simp
  go_wp2_with (go_at_call 202; ((with_reducible refine c1.mono ?_); rintro e w9 ⟨rfl, rfl⟩))
  refine hK _ _ ⟨f1, f3⟩ ?_
  clear hK K c1
  refine planT_last ?A2x0 rfl (fun w' hS => ?s2x0) rfl ?n2x0
  case s2x0 =>
    simp only [List.take_succ_cons, List.take_zero]
    repeat still_step
    exact rfl
  case n2x0 =>
  simp only [List.drop_succ_cons, List.drop_zero]
  go_wp2
  go_end0
  exact ⟨⟨_, rfl⟩, HT.out.end_⟩
end Go.Proofs.YtefolifecbhgoaaGreat
