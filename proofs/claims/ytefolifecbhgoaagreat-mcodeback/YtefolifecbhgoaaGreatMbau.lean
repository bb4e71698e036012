import Derived.Test.YtefolifecbhgoaaGreatMbat
import Derived.Test.YtefolifecbhgoaaGreatMban
namespace Go.Proofs.YtefolifecbhgoaaGreat
open Go.RowKit Gf2
set_option linter.unusedVariables false

def Rdg (w : World) (g N o n h q : Nat) (F S : Nat → Nat) : Prop := ∀ w' G, Kp g w w' → Rw w' g N G → ∀ i, i < n → G (o + i) = F (o + i) → S i < 256 ∧ w'.cell? ⟨h, q + i, none⟩ = some (.int .u8 (S i : Nat))
def vmix (c keep d s : Nat) : Nat := (d &&& keep) ^^^ fm 285 c s
theorem vmix_lt {c keep d s : Nat} (hd : d < 256) : vmix c keep d s < 256 := Nat.xor_lt_two_pow (n := 8) (Nat.lt_of_le_of_lt Nat.and_le_left hd) (fm8_lt _ _)
theorem tail_next (F V : Nat → Nat) (o n k i : Nat) (hk : k < n) : (if i = o + k then V k else pl F (o + (k + 1)) (n - (k + 1)) (fun j => V (k + 1 + j)) i) = pl F (o + k) (n - k) (fun j => V (k + j)) i := by
  unfold pl
  by_cases e : i = o + k
  · subst e
    rw [if_pos rfl, if_pos (by omega)]
    show V k = V (k + (o + k - (o + k)))
    congr 1
    omega
  · rw [if_neg e]
    by_cases h : o + (k + 1) ≤ i ∧ i < o + (k + 1) + (n - (k + 1))
    · rw [if_pos h, if_pos (by omega)]
      show V (k + 1 + (i - (o + (k + 1)))) = V (k + (i - (o + k)))
      congr 1
      omega
    · rw [if_neg h, if_neg (by omega)]
def Ts (w W : World) (g N b c o n k : Nat) (F V : Nat → Nat) : Prop := Kp g w W ∧ Rw W g N (pl F (o + k) (n - k) (fun j => V (k + j))) ∧ Cb c b W
section
variable {w W : World} {g N b c o n k : Nat} {F V : Nat → Nat}
theorem Ts.start (hR : Rw w g N F) (hb : Cb c b w) : Ts w w g N b c o n n F V := ⟨Kp.refl _ _, hR.congr (fun i _ => by rw [Nat.sub_self, pl_out (by omega)]), hb⟩
theorem Ts.here (h : Ts w W g N b c o n (k + 1) F V) (hk : k < n) (hoN : o + n ≤ N) : W.cell? ⟨g, o + k, none⟩ = some (.int .u8 (F (o + k) : Nat)) := by
  have := h.2.1.2.2.cell (i := o + k) (by omega)
  rw [pl_out (by omega)] at this
  exact this
theorem Ts.open_ (h : Ts w W g N b c o n k F V) (i : Nat) : W.frozen? ⟨g, i, none⟩ = false := h.2.1.2.2.frozen i
theorem Ts.src {S : Nat → Nat} {a q : Nat} (h : Ts w W g N b c o n (k + 1) F V) (hr : Rdg w g N o n a q F S) (hk : k < n) : S k < 256 ∧ W.cell? ⟨a, q + k, none⟩ = some (.int .u8 (S k : Nat)) :=
  hr W _ h.1 h.2.1 k hk (by rw [pl_out (by omega)])
theorem Ts.step (h : Ts w W g N b c o n (k + 1) F V) (hk : k < n) (hV : V k < 256) (hg : g ≠ b) : Ts w (W.drew.drew.setCell ⟨g, o + k, none⟩ (.int .u8 (V k : Nat))) g N b c o n k F V := by
  refine ⟨(h.1.drew.drew).setCell _ _, ?_, ?_⟩
  · have r : Rw W.drew.drew g N (pl F (o + (k + 1)) (n - (k + 1)) (fun j => V (k + 1 + j))) := ⟨h.2.1.1, h.2.1.2.1, (h.2.1.2.2.drew).drew⟩
    exact (r.set (o + k) (V k) hV).congr (fun i _ => tail_next F V o n k i hk)
  · exact (h.2.2.drew.drew).keep ((Kp.refl g _).setCell _ _) hg
theorem Ts.end_ (h : Ts w W g N b c o n 0 F V) : Kp g w W ∧ Rw W g N (pl F o n V) := ⟨h.1, h.2.1.congr (fun i _ => by rw [Nat.add_zero, Nat.sub_zero]; congr 1; funext j; rw [Nat.zero_add])⟩
end
end Go.Proofs.YtefolifecbhgoaaGreat
namespace Go.Proofs.YtefolifecbhgoaaGreat
open Go.RowKit Gf2
set_option linter.unusedVariables false

set_option maxHeartbeats 8000000 in
set_option maxRecDepth 100000 in
theorem tail_1 (b c keep g o ca h q cx N : Nat) (F S : Nat → Nat) (w : World) (hb : Cb c b w) (hg : g ≠ b) (hkp : keep < 256) (hR : Rw w g N F) (hoN : o + 1 ≤ N) (hx : Rdg w g N o 1 h q F S) :
    Calls Tryz.prog 201 #[.pointer (some ⟨b, 0, none⟩), .int .u8 (keep : Int), .slice (some ⟨g, o, none⟩) 1 ca, .slice (some ⟨h, q, none⟩) 1 cx] w fun e w' => (∃ v, e = .returned v) ∧ Kp g w w' ∧ Rw w' g N (pl F o 1 (fun j => vmix c keep (F (o + j)) (S j))) := by
  obtain ⟨W, hW⟩ : ∃ W, W = w := ⟨_, rfl⟩
  have T : Ts w W g N b c o 1 1 F (fun j => vmix c keep (F (o + j)) (S j)) := by rw [hW]; exact Ts.start hR hb
  have HR : Hid (Rw w g N F ∧ Rdg w g N o 1 h q F S ∧ Ts w W g N b c o 1 1 F (fun j => vmix c keep (F (o + j)) (S j))) := ⟨hR, hx, T⟩
  have HP : Hid (g ≠ b ∧ keep < 256 ∧ o + 1 ≤ N) := ⟨hg, hkp, hoN⟩
  suffices HC : Calls Tryz.prog 201 #[.pointer (some ⟨b, 0, none⟩), .int .u8 (keep : Int), .slice (some ⟨g, o, none⟩) 1 ca, .slice (some ⟨h, q, none⟩) 1 cx] W fun e w' => (∃ v, e = .returned v) ∧ Kp g w w' ∧ Rw w' g N (pl F o 1 (fun j => vmix c keep (F (o + j)) (S j))) by rw [hW] at HC; exact HC
  clear T hb hR hx hW hg hkp hoN
  go_enter Tryz.func201, Tryz.ntmps201
  go_wp2
  obtain ⟨hR, hx, T⟩ := HR.out
  obtain ⟨hg, hkp, hoN⟩ := HP.out
  clear HR HP
  -- place 0
  have f1 : W.cell? ⟨g, o, none⟩ = some (.int .u8 (F (o) : Nat)) := T.here (k := 0) (by decide) hoN
  have f2 := T.open_ (o)
  obtain ⟨l3, f3'⟩ := T.src (k := 0) hx (by decide)
  have f3 : W.cell? ⟨h, q, none⟩ = some (.int .u8 (S 0 : Nat)) := f3'
  clear f3'
  have HT : Hid (Ts w ((W.setCell ⟨g, o, none⟩ (.int .u8 (vmix c keep (F (o)) (S 0) : Nat))).drew.drew) g N b c o 1 0 F (fun j => vmix c keep (F (o + j)) (S j))) := T.step (by decide) (vmix_lt (hR.2.1 _ (by omega))) hg
  have c1 : Calls Tryz.prog 202 #[.pointer (some ⟨b, 0, none⟩), .int .u8 ((S 0 : Nat) : Int)] W.drew fun e w' => e = .returned (.int .u8 (fm 285 c (S 0) : Nat)) ∧ w' = W.drew.drew := one_nat c (S 0) b W.drew T.2.2.drew l3
  have A1 := u8_and_nat (F (o)) keep (hR.2.1 _ (by omega)) hkp
  have X1 : bits .xor .u8 ((F (o) &&& keep : Nat) : Int) ((fm 285 c (S 0) : Nat) : Int) = ((vmix c keep (F (o)) (S 0) : Nat) : Int) := u8_xor_nat _ _ (Nat.lt_of_le_of_lt Nat.and_le_left (hR.2.1 _ (by omega))) (fm8_lt _ _)
  clear T l3
  generalize hV : vmix c keep (F (o)) (S 0) = V at X1 HT
  generalize hD : F (o) &&& keep = D at A1 X1
  generalize hM : fm 285 c (S 0) = M at c1 X1
  generalize hE : F (o) = E at f1 A1
  generalize hZ : S 0 = Z at f3 c1
  clear hV hD hM hE hZ
  refine region_planT (fun w' => w'.cell? ⟨g, o, none⟩ = some (.int .u8 (E : Nat)) ∧ w'.cell? ⟨h, q, none⟩ = some (.int .u8 (Z : Nat))) 12 [10, 1] 115 ⟨f1, f3⟩ (by kernel_rfl) (by kernel_rfl) (fun _ a d v _ h => by cases d <;> exact h) ?_
  refine planT_step ?A1x0 rfl (fun w' hS => ?s1x0) rfl (fun K hK => ?n1x0)
  case s1x0 =>
    obtain ⟨y1, y2⟩ := hS
    simp only [List.take_succ_cons, List.take_zero]
    repeat still_step
    exact rfl
  case n1x0 =>
  go_simp
  go_wp2_with (go_at_call 202; ((with_reducible refine c1.mono ?_); rintro e w9 ⟨rfl, rfl⟩))
  refine hK _ _ ⟨f1, f3⟩ ?_
  clear hK K c1
  refine planT_last ?A2x0 rfl (fun w' hS => ?s2x0) rfl ?n2x0
  case s2x0 =>
    simp only [List.take_succ_cons, List.take_zero]
    repeat still_step
    exact rfl
  case n2x0 =>
  simp only [List.drop_succ_cons, List.drop_zero]
  go_wp2
  go_end0
  exact ⟨⟨_, rfl⟩, HT.out.end_⟩
set_option maxHeartbeats 8000000 in
set_option maxRecDepth 100000 in
theorem tail_2 (b c keep g o ca h q cx N : Nat) (F S : Nat → Nat) (w : World) (hb : Cb c b w) (hg : g ≠ b) (hkp : keep < 256) (hR : Rw w g N F) (hoN : o + 2 ≤ N) (hx : Rdg w g N o 2 h q F S) :
    Calls Tryz.prog 201 #[.pointer (some ⟨b, 0, none⟩), .int .u8 (keep : Int), .slice (some ⟨g, o, none⟩) 2 ca, .slice (some ⟨h, q, none⟩) 2 cx] w fun e w' => (∃ v, e = .returned v) ∧ Kp g w w' ∧ Rw w' g N (pl F o 2 (fun j => vmix c keep (F (o + j)) (S j))) := by
  obtain ⟨W, hW⟩ : ∃ W, W = w := ⟨_, rfl⟩
  have T : Ts w W g N b c o 2 2 F (fun j => vmix c keep (F (o + j)) (S j)) := by rw [hW]; exact Ts.start hR hb
  have HR : Hid (Rw w g N F ∧ Rdg w g N o 2 h q F S ∧ Ts w W g N b c o 2 2 F (fun j => vmix c keep (F (o + j)) (S j))) := ⟨hR, hx, T⟩
  have HP : Hid (g ≠ b ∧ keep < 256 ∧ o + 2 ≤ N) := ⟨hg, hkp, hoN⟩
  suffices HC : Calls Tryz.prog 201 #[.pointer (some ⟨b, 0, none⟩), .int .u8 (keep : Int), .slice (some ⟨g, o, none⟩) 2 ca, .slice (some ⟨h, q, none⟩) 2 cx] W fun e w' => (∃ v, e = .returned v) ∧ Kp g w w' ∧ Rw w' g N (pl F o 2 (fun j => vmix c keep (F (o + j)) (S j))) by rw [hW] at HC; exact HC
  clear T hb hR hx hW hg hkp hoN
  go_enter Tryz.func201, Tryz.ntmps201
  go_wp2
  obtain ⟨hR, hx, T⟩ := HR.out
  obtain ⟨hg, hkp, hoN⟩ := HP.out
  clear HR HP
  -- place 1
  have f1 : W.cell? ⟨g, o + 1, none⟩ = some (.int .u8 (F (o + 1) : Nat)) := T.here (k := 1) (by decide) hoN
  have f2 := T.open_ (o + 1)
  obtain ⟨l3, f3'⟩ := T.src (k := 1) hx (by decide)
  have f3 : W.cell? ⟨h, q + 1, none⟩ = some (.int .u8 (S 1 : Nat)) := f3'
  clear f3'
  have HT : Hid (Ts w ((W.setCell ⟨g, o + 1, none⟩ (.int .u8 (vmix c keep (F (o + 1)) (S 1) : Nat))).drew.drew) g N b c o 2 1 F (fun j => vmix c keep (F (o + j)) (S j))) := T.step (by decide) (vmix_lt (hR.2.1 _ (by omega))) hg
  have c1 : Calls Tryz.prog 202 #[.pointer (some ⟨b, 0, none⟩), .int .u8 ((S 1 : Nat) : Int)] W.drew fun e w' => e = .returned (.int .u8 (fm 285 c (S 1) : Nat)) ∧ w' = W.drew.drew := one_nat c (S 1) b W.drew T.2.2.drew l3
  have A1 := u8_and_nat (F (o + 1)) keep (hR.2.1 _ (by omega)) hkp
  have X1 : bits .xor .u8 ((F (o + 1) &&& keep : Nat) : Int) ((fm 285 c (S 1) : Nat) : Int) = ((vmix c keep (F (o + 1)) (S 1) : Nat) : Int) := u8_xor_nat _ _ (Nat.lt_of_le_of_lt Nat.and_le_left (hR.2.1 _ (by omega))) (fm8_lt _ _)
  clear T l3
  generalize hV : vmix c keep (F (o + 1)) (S 1) = V at X1 HT
  generalize hD : F (o + 1) &&& keep = D at A1 X1
  generalize hM : fm 285 c (S 1) = M at c1 X1
  generalize hE : F (o + 1) = E at f1 A1
  generalize hZ : S 1 = Z at f3 c1
  clear hV hD hM hE hZ
  refine region_planT (fun w' => w'.cell? ⟨g, o + 1, none⟩ = some (.int .u8 (E : Nat)) ∧ w'.cell? ⟨h, q + 1, none⟩ = some (.int .u8 (Z : Nat))) 12 [10, 1] 115 ⟨f1, f3⟩ (by kernel_rfl) (by kernel_rfl) (fun _ a d v _ h => by cases d <;> exact h) ?_
  refine planT_step ?A1x1 rfl (fun w' hS => ?s1x1) rfl (fun K hK => ?n1x1)
  case s1x1 =>
    obtain ⟨y1, y2⟩ := hS
    simp only [List.take_succ_cons, List.take_zero]
    repeat still_step
    exact rfl
  case n1x1 =>
  go_simp
  go_wp2_with (go_at_call 202; ((with_reducible refine c1.mono ?_); rintro e w9 ⟨rfl, rfl⟩))
  refine hK _ _ ⟨f1, f3⟩ ?_
  clear hK K c1
  refine planT_last ?A2x1 rfl (fun w' hS => ?s2x1) rfl ?n2x1
  case s2x1 =>
    simp only [List.take_succ_cons, List.take_zero]
    repeat still_step
    exact rfl
  case n2x1 =>
  simp only [List.drop_succ_cons, List.drop_zero]
  go_wp2
  have T := HT.out
  clear HT f1 f2 f3 A1 X1
  generalize (W.setCell ⟨g, o + 1, none⟩ (.int .u8 (V : Nat))).drew.drew = W at T ⊢
  -- place 0
  have f1 : W.cell? ⟨g, o, none⟩ = some (.int .u8 (F (o) : Nat)) := T.here (k := 0) (by decide) hoN
  have f2 := T.open_ (o)
  obtain ⟨l3, f3'⟩ := T.src (k := 0) hx (by decide)
  have f3 : W.cell? ⟨h, q, none⟩ = some (.int .u8 (S 0 : Nat)) := f3'
  clear f3'
  have HT : Hid (Ts w ((W.setCell ⟨g, o, none⟩ (.int .u8 (vmix c keep (F (o)) (S 0) : Nat))).drew.drew) g N b c o 2 0 F (fun j => vmix c keep (F (o + j)) (S j))) := T.step (by decide) (vmix_lt (hR.2.1 _ (by omega))) hg
  have c1 : Calls Tryz.prog 202 #[.pointer (some ⟨b, 0, none⟩), .int .u8 ((S 0 : Nat) : Int)] W.drew fun e w' => e = .returned (.int .u8 (fm 285 c (S 0) : Nat)) ∧ w' = W.drew.drew := one_nat c (S 0) b W.drew T.2.2.drew l3
  have A1 := u8_and_nat (F (o)) keep (hR.2.1 _ (by omega)) hkp
  have X1 : bits .xor .u8 ((F (o) &&& keep : Nat) : Int) ((fm 285 c (S 0) : Nat) : Int) = ((vmix c keep (F (o)) (S 0) : Nat) : Int) := u8_xor_nat _ _ (Nat.lt_of_le_of_lt Nat.and_le_left (hR.2.1 _ (by omega))) (fm8_lt _ _)
  clear T l3
  generalize hV : vmix c keep (F (o)) (S 0) = V at X1 HT
  generalize hD : F (o) &&& keep = D at A1 X1
  generalize hM : fm 285 c (S 0) = M at c1 X1
  generalize hE : F (o) = E at f1 A1
  generalize hZ : S 0 = Z at f3 c1
  clear hV hD hM hE hZ
  refine region_planT (fun w' => w'.cell? ⟨g, o, none⟩ = some (.int .u8 (E : Nat)) ∧ w'.cell? ⟨h, q, none⟩ = some (.int .u8 (Z : Nat))) 12 [10, 1] 115 ⟨f1, f3⟩ (by kernel_rfl) (by kernel_rfl) (fun _ a d v _ h => by cases d <;> exact h) ?_
  refine planT_step ?A1x0 rfl (fun w' hS => ?s1x0) rfl (fun K hK => ?n1x0)
  case s1x0 =>
    obtain ⟨y1, y2⟩ := hS
    simp only [List.take_succ_cons, List.take_zero]
    repeat still_step
    exact rfl
  case n1x0 =>
  go_simp
  go_wp2_with (go_at_call 202; ((with_reducible refine c1.mono ?_); rintro e w9 ⟨rfl, rfl⟩))
  refine hK _ _ ⟨f1, f3⟩ ?_
  clear hK K c1
  refine planT_last ?A2x0 rfl (fun w' hS => ?s2x0) rfl ?n2x0
  case s2x0 =>
    simp only [List.take_succ_cons, List.take_zero]
    repeat still_step
    exact rfl
  case n2x0 =>
  simp only [List.drop_succ_cons, List.drop_zero]
  go_wp2
  go_end0
  exact ⟨⟨_, rfl⟩, HT.out.end_⟩
set_option maxHeartbeats 8000000 in
set_option maxRecDepth 100000 in
theorem tail_3 (b c keep g o ca h q cx N : Nat) (F S : Nat → Nat) (w : World) (hb : Cb c b w) (hg : g ≠ b) (hkp : keep < 256) (hR : Rw w g N F) (hoN : o + 3 ≤ N) (hx : Rdg w g N o 3 h q F S) :
    Calls Tryz.prog 201 #[.pointer (some ⟨b, 0, none⟩), .int .u8 (keep : Int), .slice (some ⟨g, o, none⟩) 3 ca, .slice (some ⟨h, q, none⟩) 3 cx] w fun e w' => (∃ v, e = .returned v) ∧ Kp g w w' ∧ Rw w' g N (pl F o 3 (fun j => vmix c keep (F (o + j)) (S j))) := by
  obtain ⟨W, hW⟩ : ∃ W, W = w := ⟨_, rfl⟩
  have T : Ts w W g N b c o 3 3 F (fun j => vmix c keep (F (o + j)) (S j)) := by rw [hW]; exact Ts.start hR hb
  have HR : Hid (Rw w g N F ∧ Rdg w g N o 3 h q F S ∧ Ts w W g N b c o 3 3 F (fun j => vmix c keep (F (o + j)) (S j))) := ⟨hR, hx, T⟩
  have HP : Hid (g ≠ b ∧ keep < 256 ∧ o + 3 ≤ N) := ⟨hg, hkp, hoN⟩
  suffices HC : Calls Tryz.prog 201 #[.pointer (some ⟨b, 0, none⟩), .int .u8 (keep : Int), .slice (some ⟨g, o, none⟩) 3 ca, .slice (some ⟨h, q, none⟩) 3 cx] W fun e w' => (∃ v, e = .returned v) ∧ Kp g w w' ∧ Rw w' g N (pl F o 3 (fun j => vmix c keep (F (o + j)) (S j))) by rw [hW] at HC; exact HC
  clear T hb hR hx hW hg hkp hoN
  go_enter Tryz.func201, Tryz.ntmps201
  go_wp2
  obtain ⟨hR, hx, T⟩ := HR.out
  obtain ⟨hg, hkp, hoN⟩ := HP.out
  clear HR HP
  -- place 2
  have f1 : W.cell? ⟨g, o + 2, none⟩ = some (.int .u8 (F (o + 2) : Nat)) := T.here (k := 2) (by decide) hoN
  have f2 := T.open_ (o + 2)
  obtain ⟨l3, f3'⟩ := T.src (k := 2) hx (by decide)
  have f3 : W.cell? ⟨h, q + 2, none⟩ = some (.int .u8 (S 2 : Nat)) := f3'
  clear f3'
  have HT : Hid (Ts w ((W.setCell ⟨g, o + 2, none⟩ (.int .u8 (vmix c keep (F (o + 2)) (S 2) : Nat))).drew.drew) g N b c o 3 2 F (fun j => vmix c keep (F (o + j)) (S j))) := T.step (by decide) (vmix_lt (hR.2.1 _ (by omega))) hg
  have c1 : Calls Tryz.prog 202 #[.pointer (some ⟨b, 0, none⟩), .int .u8 ((S 2 : Nat) : Int)] W.drew fun e w' => e = .returned (.int .u8 (fm 285 c (S 2) : Nat)) ∧ w' = W.drew.drew := one_nat c (S 2) b W.drew T.2.2.drew l3
  have A1 := u8_and_nat (F (o + 2)) keep (hR.2.1 _ (by omega)) hkp
  have X1 : bits .xor .u8 ((F (o + 2) &&& keep : Nat) : Int) ((fm 285 c (S 2) : Nat) : Int) = ((vmix c keep (F (o + 2)) (S 2) : Nat) : Int) := u8_xor_nat _ _ (Nat.lt_of_le_of_lt Nat.and_le_left (hR.2.1 _ (by omega))) (fm8_lt _ _)
  clear T l3
  generalize hV : vmix c keep (F (o + 2)) (S 2) = V at X1 HT
  generalize hD : F (o + 2) &&& keep = D at A1 X1
  generalize hM : fm 285 c (S 2) = M at c1 X1
  generalize hE : F (o + 2) = E at f1 A1
  generalize hZ : S 2 = Z at f3 c1
  clear hV hD hM hE hZ
  refine region_planT (fun w' => w'.cell? ⟨g, o + 2, none⟩ = some (.int .u8 (E : Nat)) ∧ w'.cell? ⟨h, q + 2, none⟩ = some (.int .u8 (Z : Nat))) 12 [10, 1] 115 ⟨f1, f3⟩ (by kernel_rfl) (by kernel_rfl) (fun _ a d v _ h => by cases d <;> exact h) ?_
  refine planT_step ?A1x2 rfl (fun w' hS => ?s1x2) rfl (fun K hK => ?n1x2)
  case s1x2 =>
    obtain ⟨y1, y2⟩ := hS
    simp only [List.take_succ_cons, List.take_zero]
    repeat still_step
    exact rfl
  case n1x2 =>
  go_simp
  go_wp2_with (go_at_call 202; ((with_reducible refine c1.mono ?_); rintro e w9 ⟨rfl, rfl⟩))
  refine hK _ _ ⟨f1, f3⟩ ?_
  clear hK K c1
  refine planT_last ?A2x2 rfl (fun w' hS => ?s2x2) rfl ?n2x2
  case s2x2 =>
    simp only [List.take_succ_cons, List.take_zero]
    repeat still_step
    exact rfl
  case n2x2 =>
  simp only [List.drop_succ_cons, List.drop_zero]
  go_wp2
  have T := HT.out
  clear HT f1 f2 f3 A1 X1
  generalize (W.setCell ⟨g, o + 2, none⟩ (.int .u8 (V : Nat))).drew.drew = W at T ⊢
  -- place 1
  have f1 : W.cell? ⟨g, o + 1, none⟩ = some (.int .u8 (F (o + 1) : Nat)) := T.here (k := 1) (by decide) hoN
  have f2 := T.open_ (o + 1)
  obtain ⟨l3, f3'⟩ := T.src (k := 1) hx (by decide)
  have f3 : W.cell? ⟨h, q + 1, none⟩ = some (.int .u8 (S 1 : Nat)) := f3'
  clear f3'
  have HT : Hid (Ts w ((W.setCell ⟨g, o + 1, none⟩ (.int .u8 (vmix c keep (F (o + 1)) (S 1) : Nat))).drew.drew) g N b c o 3 1 F (fun j => vmix c keep (F (o + j)) (S j))) := T.step (by decide) (vmix_lt (hR.2.1 _ (by omega))) hg
  have c1 : Calls Tryz.prog 202 #[.pointer (some ⟨b, 0, none⟩), .int .u8 ((S 1 : Nat) : Int)] W.drew fun e w' => e = .returned (.int .u8 (fm 285 c (S 1) : Nat)) ∧ w' = W.drew.drew := one_nat c (S 1) b W.drew T.2.2.drew l3
  have A1 := u8_and_nat (F (o + 1)) keep (hR.2.1 _ (by omega)) hkp
  have X1 : bits .xor .u8 ((F (o + 1) &&& keep : Nat) : Int) ((fm 285 c (S 1) : Nat) : Int) = ((vmix c keep (F (o + 1)) (S 1) : Nat) : Int) := u8_xor_nat _ _ (Nat.lt_of_le_of_lt Nat.and_le_left (hR.2.1 _ (by omega))) (fm8_lt _ _)
  clear T l3
  generalize hV : vmix c keep (F (o + 1)) (S 1) = V at X1 HT
  generalize hD : F (o + 1) &&& keep = D at A1 X1
  generalize hM : fm 285 c (S 1) = M at c1 X1
  generalize hE : F (o + 1) = E at f1 A1
  generalize hZ : S 1 = Z at f3 c1
  clear hV hD hM hE hZ
  refine region_planT (fun w' => w'.cell? ⟨g, o + 1, none⟩ = some (.int .u8 (E : Nat)) ∧ w'.cell? ⟨h, q + 1, none⟩ = some (.int .u8 (Z : Nat))) 12 [10, 1] 115 ⟨f1, f3⟩ (by kernel_rfl) (by kernel_rfl) (fun _ a d v _ h => by cases d <;> exact h) ?_
  refine planT_step ?A1x1 rfl (fun w' hS => ?s1x1) rfl (fun K hK => ?n1x1)
  case s1x1 =>
    obtain ⟨y1, y2⟩ := hS
    simp only [List.take_succ_cons, List.take_zero]
    repeat still_step
    exact rfl
  case n1x1 =>
  go_simp
  go_wp2_with (go_at_call 202; ((with_reducible refine c1.mono ?_); rintro e w9 ⟨rfl, rfl⟩))
  refine hK _ _ ⟨f1, f3⟩ ?_
  clear hK K c1
  refine planT_last ?A2x1 rfl (fun w' hS => ?s2x1) rfl ?n2x1
  case s2x1 =>
    simp only [List.take_succ_cons, List.take_zero]
    repeat still_step
    exact rfl
  case n2x1 =>
  simp only [List.drop_succ_cons, List.drop_zero]
  go_wp2
  have T := HT.out
  clear HT f1 f2 f3 A1 X1
  generalize (W.setCell ⟨g, o + 1, none⟩ (.int .u8 (V : Nat))).drew.drew = W at T ⊢
  -- place 0
  have f1 : W.cell? ⟨g, o, none⟩ = some (.int .u8 (F (o) : Nat)) := T.here (k := 0) (by decide) hoN
  have f2 := T.open_ (o)
  obtain ⟨l3, f3'⟩ := T.src (k := 0) hx (by decide)
  have f3 : W.cell? ⟨h, q, none⟩ = some (.int .u8 (S 0 : Nat)) := f3'
  clear f3'
  have HT : Hid (Ts w ((W.setCell ⟨g, o, none⟩ (.int .u8 (vmix c keep (F (o)) (S 0) : Nat))).drew.drew) g N b c o 3 0 F (fun j => vmix c keep (F (o + j)) (S j))) := T.step (by decide) (vmix_lt (hR.2.1 _ (by omega))) hg
  have c1 : Calls Tryz.prog 202 #[.pointer (some ⟨b, 0, none⟩), .int .u8 ((S 0 : Nat) : Int)] W.drew fun e w' => e = .returned (.int .u8 (fm 285 c (S 0) : Nat)) ∧ w' = W.drew.drew := one_nat c (S 0) b W.drew T.2.2.drew l3
  have A1 := u8_and_nat (F (o)) keep (hR.2.1 _ (by omega)) hkp
  have X1 : bits .xor .u8 ((F (o) &&& keep : Nat) : Int) ((fm 285 c (S 0) : Nat) : Int) = ((vmix c keep (F (o)) (S 0) : Nat) : Int) := u8_xor_nat _ _ (Nat.lt_of_le_of_lt Nat.and_le_left (hR.2.1 _ (by omega))) (fm8_lt _ _)
  clear T l3
  generalize hV : vmix c keep (F (o)) (S 0) = V at X1 HT
  generalize hD : F (o) &&& keep = D at A1 X1
  generalize hM : fm 285 c (S 0) = M at c1 X1
  generalize hE : F (o) = E at f1 A1
  generalize hZ : S 0 = Z at f3 c1
  clear hV hD hM hE hZ
  refine region_planT (fun w' => w'.cell? ⟨g, o, none⟩ = some (.int .u8 (E : Nat)) ∧ w'.cell? ⟨h, q, none⟩ = some (.int .u8 (Z : Nat))) 12 [10, 1] 115 ⟨f1, f3⟩ (by kernel_rfl) (by kernel_rfl) (fun _ a d v _ h => by cases d <;> exact h) ?_
  refine planT_step ?A1x0 rfl (fun w' hS => ?s1x0) rfl (fun K hK => ?n1x0)
  case s1x0 =>
    obtain ⟨y1, y2⟩ := hS
    simp only [List.take_succ_cons, List.take_zero]
    repeat still_step
    exact rfl
  case n1x0 =>
  go_simp
  go_wp2_with (go_at_call 202; ((with_reducible refine c1.mono ?_); rintro e w9 ⟨rfl, rfl⟩))
  refine hK _ _ ⟨f1, f3⟩ ?_
  clear hK K c1
  refine planT_last ?A2x0 rfl (fun w' hS => ?s2x0) rfl ?n2x0
  case s2x0 =>
    simp only [List.take_succ_cons, List.take_zero]
    repeat still_step
    exact rfl
  case n2x0 =>
  simp only [List.drop_succ_cons, List.drop_zero]
  go_wp2
  go_end0
  exact ⟨⟨_, rfl⟩, HT.out.end_⟩
set_option maxHeartbeats 8000000 in
set_option maxRecDepth 100000 in
theorem tail_4 (b c keep g o ca h q cx N : Nat) (F S : Nat → Nat) (w : World) (hb : Cb c b w) (hg : g ≠ b) (hkp : keep < 256) (hR : Rw w g N F) (hoN : o + 4 ≤ N) (hx : Rdg w g N o 4 h q F S) :
    Calls Tryz.prog 201 #[.pointer (some ⟨b, 0, none⟩), .int .u8 (keep : Int), .slice (some ⟨g, o, none⟩) 4 ca, .slice (some ⟨h, q, none⟩) 4 cx] w fun e w' => (∃ v, e = .returned v) ∧ Kp g w w' ∧ Rw w' g N (pl F o 4 (fun j => vmix c keep (F (o + j)) (S j))) := by
  obtain ⟨W, hW⟩ : ∃ W, W = w := ⟨_, rfl⟩
  have T : Ts w W g N b c o 4 4 F (fun j => vmix c keep (F (o + j)) (S j)) := by rw [hW]; exact Ts.start hR hb
  have HR : Hid (Rw w g N F ∧ Rdg w g N o 4 h q F S ∧ Ts w W g N b c o 4 4 F (fun j => vmix c keep (F (o + j)) (S j))) := ⟨hR, hx, T⟩
  have HP : Hid (g ≠ b ∧ keep < 256 ∧ o + 4 ≤ N) := ⟨hg, hkp, hoN⟩
  suffices HC : Calls Tryz.prog 201 #[.pointer (some ⟨b, 0, none⟩), .int .u8 (keep : Int), .slice (some ⟨g, o, none⟩) 4 ca, .slice (some ⟨h, q, none⟩) 4 cx] W fun e w' => (∃ v, e = .returned v) ∧ Kp g w w' ∧ Rw w' g N (pl F o 4 (fun j => vmix c keep (F (o + j)) (S j))) by rw [hW] at HC; exact HC
  clear T hb hR hx hW hg hkp hoN
  go_enter Tryz.func201, Tryz.ntmps201
  go_wp2
  obtain ⟨hR, hx, T⟩ := HR.out
  obtain ⟨hg, hkp, hoN⟩ := HP.out
  clear HR HP
  -- place 3
  have f1 : W.cell? ⟨g, o + 3, none⟩ = some (.int .u8 (F (o + 3) : Nat)) := T.here (k := 3) (by decide) hoN
  have f2 := T.open_ (o + 3)
  obtain ⟨l3, f3'⟩ := T.src (k := 3) hx (by decide)
  have f3 : W.cell? ⟨h, q + 3, none⟩ = some (.int .u8 (S 3 : Nat)) := f3'
  clear f3'
  have HT : Hid (Ts w ((W.setCell ⟨g, o + 3, none⟩ (.int .u8 (vmix c keep (F (o + 3)) (S 3) : Nat))).drew.drew) g N b c o 4 3 F (fun j => vmix c keep (F (o + j)) (S j))) := T.step (by decide) (vmix_lt (hR.2.1 _ (by omega))) hg
  have c1 : Calls Tryz.prog 202 #[.pointer (some ⟨b, 0, none⟩), .int .u8 ((S 3 : Nat) : Int)] W.drew fun e w' => e = .returned (.int .u8 (fm 285 c (S 3) : Nat)) ∧ w' = W.drew.drew := one_nat c (S 3) b W.drew T.2.2.drew l3
  have A1 := u8_and_nat (F (o + 3)) keep (hR.2.1 _ (by omega)) hkp
  have X1 : bits .xor .u8 ((F (o + 3) &&& keep : Nat) : Int) ((fm 285 c (S 3) : Nat) : Int) = ((vmix c keep (F (o + 3)) (S 3) : Nat) : Int) := u8_xor_nat _ _ (Nat.lt_of_le_of_lt Nat.and_le_left (hR.2.1 _ (by omega))) (fm8_lt _ _)
  clear T l3
  generalize hV : vmix c keep (F (o + 3)) (S 3) = V at X1 HT
  generalize hD : F (o + 3) &&& keep = D at A1 X1
  generalize hM : fm 285 c (S 3) = M at c1 X1
  generalize hE : F (o + 3) = E at f1 A1
  generalize hZ : S 3 = Z at f3 c1
  clear hV hD hM hE hZ
  refine region_planT (fun w' => w'.cell? ⟨g, o + 3, none⟩ = some (.int .u8 (E : Nat)) ∧ w'.cell? ⟨h, q + 3, none⟩ = some (.int .u8 (Z : Nat))) 12 [10, 1] 115 ⟨f1, f3⟩ (by kernel_rfl) (by kernel_rfl) (fun _ a d v _ h => by cases d <;> exact h) ?_
  refine planT_step ?A1x3 rfl (fun w' hS => ?s1x3) rfl (fun K hK => ?n1x3)
  case s1x3 =>
    obtain ⟨y1, y2⟩ := hS
    simp only [List.take_succ_cons, List.take_zero]
    repeat still_step
    exact rfl
  case n1x3 =>
  go_simp
  go_wp2_with (go_at_call 202; ((with_reducible refine c1.mono ?_); rintro e w9 ⟨rfl, rfl⟩))
  refine hK _ _ ⟨f1, f3⟩ ?_
  clear hK K c1
  refine planT_last ?A2x3 rfl (fun w' hS => ?s2x3) rfl ?n2x3
  case s2x3 =>
    simp only [List.take_succ_cons, List.take_zero]
    repeat still_step
    exact rfl
  case n2x3 =>
  simp only [List.drop_succ_cons, List.drop_zero]
  go_wp2
  have T := HT.out
  clear HT f1 f2 f3 A1 X1
  generalize (W.setCell ⟨g, o + 3, none⟩ (.int .u8 (V : Nat))).drew.drew = W at T ⊢
  -- place 2
  have f1 : W.cell? ⟨g, o + 2, none⟩ = some (.int .u8 (F (o + 2) : Nat)) := T.here (k := 2) (by decide) hoN
  have f2 := T.open_ (o + 2)
  obtain ⟨l3, f3'⟩ := T.src (k := 2) hx (by decide)
  have f3 : W.cell? ⟨h, q + 2, none⟩ = some (.int .u8 (S 2 : Nat)) := f3'
  clear f3'
  have HT : Hid (Ts w ((W.setCell ⟨g, o + 2, none⟩ (.int .u8 (vmix c keep (F (o + 2)) (S 2) : Nat))).drew.drew) g N b c o 4 2 F (fun j => vmix c keep (F (o + j)) (S j))) := T.step (by decide) (vmix_lt (hR.2.1 _ (by omega))) hg
  have c1 : Calls Tryz.prog 202 #[.pointer (some ⟨b, 0, none⟩), .int .u8 ((S 2 : Nat) : Int)] W.drew fun e w' => e = .returned (.int .u8 (fm 285 c (S 2) : Nat)) ∧ w' = W.drew.drew := one_nat c (S 2) b W.drew T.2.2.drew l3
  have A1 := u8_and_nat (F (o + 2)) keep (hR.2.1 _ (by omega)) hkp
  have X1 : bits .xor .u8 ((F (o + 2) &&& keep : Nat) : Int) ((fm 285 c (S 2) : Nat) : Int) = ((vmix c keep (F (o + 2)) (S 2) : Nat) : Int) := u8_xor_nat _ _ (Nat.lt_of_le_of_lt Nat.and_le_left (hR.2.1 _ (by omega))) (fm8_lt _ _)
  clear T l3
  generalize hV : vmix c keep (F (o + 2)) (S 2) = V at X1 HT
  generalize hD : F (o + 2) &&& keep = D at A1 X1
  generalize hM : fm 285 c (S 2) = M at c1 X1
  generalize hE : F (o + 2) = E at f1 A1
  generalize hZ : S 2 = Z at f3 c1
  clear hV hD hM hE hZ
  refine region_planT (fun w' => w'.cell? ⟨g, o + 2, none⟩ = some (.int .u8 (E : Nat)) ∧ w'.cell? ⟨h, q + 2, none⟩ = some (.int .u8 (Z : Nat))) 12 [10, 1] 115 ⟨f1, f3⟩ (by kernel_rfl) (by kernel_rfl) (fun _ a d v _ h => by cases d <;> exact h) ?_
  refine planT_step ?A1x2 rfl (fun w' hS => ?s1x2) rfl (fun K hK => ?n1x2)
  case s1x2 =>
    obtain ⟨y1, y2⟩ := hS
    simp only [List.take_succ_cons, List.take_zero]
    repeat still_step
    exact rfl
  case n1x2 =>
  go_simp
  go_wp2_with (go_at_call 202; ((with_reducible refine c1.mono ?_); rintro e w9 ⟨rfl, rfl⟩))
  refine hK _ _ ⟨f1, f3⟩ ?_
  clear hK K c1
  refine planT_last ?A2x2 rfl (fun w' hS => ?s2x2) rfl ?n2x2
  case s2x2 =>
    simp only [List.take_succ_cons, List.take_zero]
    repeat still_step
    exact rfl
  case n2x2 =>
  simp only [List.drop_succ_cons, List.drop_zero]
  go_wp2
  have T := HT.out
  clear HT f1 f2 f3 A1 X1
  generalize (W.setCell ⟨g, o + 2, none⟩ (.int .u8 (V : Nat))).drew.drew = W at T ⊢
  -- place 1
  have f1 : W.cell? ⟨g, o + 1, none⟩ = some (.int .u8 (F (o + 1) : Nat)) := T.here (k := 1) (by decide) hoN
  have f2 := T.open_ (o + 1)
  obtain ⟨l3, f3'⟩ := T.src (k := 1) hx (by decide)
  have f3 : W.cell? ⟨h, q + 1, none⟩ = some (.int .u8 (S 1 : Nat)) := f3'
  clear f3'
  have HT : Hid (Ts w ((W.setCell ⟨g, o + 1, none⟩ (.int .u8 (vmix c keep (F (o + 1)) (S 1) : Nat))).drew.drew) g N b c o 4 1 F (fun j => vmix c keep (F (o + j)) (S j))) := T.step (by decide) (vmix_lt (hR.2.1 _ (by omega))) hg
  have c1 : Calls Tryz.prog 202 #[.pointer (some ⟨b, 0, none⟩), .int .u8 ((S 1 : Nat) : Int)] W.drew fun e w' => e = .returned (.int .u8 (fm 285 c (S 1) : Nat)) ∧ w' = W.drew.drew := one_nat c (S 1) b W.drew T.2.2.drew l3
  have A1 := u8_and_nat (F (o + 1)) keep (hR.2.1 _ (by omega)) hkp
  have X1 : bits .xor .u8 ((F (o + 1) &&& keep : Nat) : Int) ((fm 285 c (S 1) : Nat) : Int) = ((vmix c keep (F (o + 1)) (S 1) : Nat) : Int) := u8_xor_nat _ _ (Nat.lt_of_le_of_lt Nat.and_le_left (hR.2.1 _ (by omega))) (fm8_lt _ _)
  clear T l3
  generalize hV : vmix c keep (F (o + 1)) (S 1) = V at X1 HT
  generalize hD : F (o + 1) &&& keep = D at A1 X1
  generalize hM : fm 285 c (S 1) = M at c1 X1
  generalize hE : F (o + 1) = E at f1 A1
  generalize hZ : S 1 = Z at f3 c1
  clear hV hD hM hE hZ
  refine region_planT (fun w' => w'.cell? ⟨g, o + 1, none⟩ = some (.int .u8 (E : Nat)) ∧ w'.cell? ⟨h, q + 1, none⟩ = some (.int .u8 (Z : Nat))) 12 [10, 1] 115 ⟨f1, f3⟩ (by kernel_rfl) (by kernel_rfl) (fun _ a d v _ h => by cases d <;> exact h) ?_
  refine planT_step ?A1x1 rfl (fun w' hS => ?s1x1) rfl (fun K hK => ?n1x1)
  case s1x1 =>
    obtain ⟨y1, y2⟩ := hS
    simp only [List.take_succ_cons, List.take_zero]
    repeat still_step
    exact rfl
  case n1x1 =>
  go_simp
  go_wp2_with (go_at_call 202; ((with_reducible refine c1.mono ?_); rintro e w9 ⟨rfl, rfl⟩))
  refine hK _ _ ⟨f1, f3⟩ ?_
  clear hK K c1
  refine planT_last ?A2x1 rfl (fun w' hS => ?s2x1) rfl ?n2x1
  case s2x1 =>
    simp only [List.take_succ_cons, List.take_zero]
    repeat still_step
    exact rfl
  case n2x1 =>
  simp only [List.drop_succ_cons, List.drop_zero]
  go_wp2
  have T := HT.out
  clear HT f1 f2 f3 A1 X1
  generalize (W.setCell ⟨g, o + 1, none⟩ (.int .u8 (V : Nat))).drew.drew = W at T ⊢
  -- place 0
  have f1 : W.cell? ⟨g, o, none⟩ = some (.int .u8 (F (o) : Nat)) := T.here (k := 0) (by decide) hoN
  have f2 := T.open_ (o)
  obtain ⟨l3, f3'⟩ := T.src (k := 0) hx (by decide)
  have f3 : W.cell? ⟨h, q, none⟩ = some (.int .u8 (S 0 : Nat)) := f3'
  clear f3'
  have HT : Hid (Ts w ((W.setCell ⟨g, o, none⟩ (.int .u8 (vmix c keep (F (o)) (S 0) : Nat))).drew.drew) g N b c o 4 0 F (fun j => vmix c keep (F (o + j)) (S j))) := T.step (by decide) (vmix_lt (hR.2.1 _ (by omega))) hg
  have c1 : Calls Tryz.prog 202 #[.pointer (some ⟨b, 0, none⟩), .int .u8 ((S 0 : Nat) : Int)] W.drew fun e w' => e = .returned (.int .u8 (fm 285 c (S 0) : Nat)) ∧ w' = W.drew.drew := one_nat c (S 0) b W.drew T.2.2.drew l3
  have A1 := u8_and_nat (F (o)) keep (hR.2.1 _ (by omega)) hkp
  have X1 : bits .xor .u8 ((F (o) &&& keep : Nat) : Int) ((fm 285 c (S 0) : Nat) : Int) = ((vmix c keep (F (o)) (S 0) : Nat) : Int) := u8_xor_nat _ _ (Nat.lt_of_le_of_lt Nat.and_le_left (hR.2.1 _ (by omega))) (fm8_lt _ _)
  clear T l3
  generalize hV : vmix c keep (F (o)) (S 0) = V at X1 HT
  generalize hD : F (o) &&& keep = D at A1 X1
  generalize hM : fm 285 c (S 0) = M at c1 X1
  generalize hE : F (o) = E at f1 A1
  generalize hZ : S 0 = Z at f3 c1
  clear hV hD hM hE hZ
  refine region_planT (fun w' => w'.cell? ⟨g, o, none⟩ = some (.int .u8 (E : Nat)) ∧ w'.cell? ⟨h, q, none⟩ = some (.int .u8 (Z : Nat))) 12 [10, 1] 115 ⟨f1, f3⟩ (by kernel_rfl) (by kernel_rfl) (fun _ a d v _ h => by cases d <;> exact h) ?_
  refine planT_step ?A1x0 rfl (fun w' hS => ?s1x0) rfl (fun K hK => ?n1x0)
  case s1x0 =>
    obtain ⟨y1, y2⟩ := hS
    simp only [List.take_succ_cons, List.take_zero]
    repeat still_step
    exact rfl
  case n1x0 =>
  go_simp
  go_wp2_with (go_at_call 202; ((with_reducible refine c1.mono ?_); rintro e w9 ⟨rfl, rfl⟩))
  refine hK _ _ ⟨f1, f3⟩ ?_
  clear hK K c1
  refine planT_last ?A2x0 rfl (fun w' hS => ?s2x0) rfl ?n2x0
  case s2x0 =>
    simp only [List.take_succ_cons, List.take_zero]
    repeat still_step
    exact rfl
  case n2x0 =>
  simp only [List.drop_succ_cons, List.drop_zero]
  go_wp2
  go_end0
  exact ⟨⟨_, rfl⟩, HT.out.end_⟩
set_option maxHeartbeats 8000000 in
set_option maxRecDepth 100000 in
theorem tail_5 (b c keep g o ca h q cx N : Nat) (F S : Nat → Nat) (w : World) (hb : Cb c b w) (hg : g ≠ b) (hkp : keep < 256) (hR : Rw w g N F) (hoN : o + 5 ≤ N) (hx : Rdg w g N o 5 h q F S) :
    Calls Tryz.prog 201 #[.pointer (some ⟨b, 0, none⟩), .int .u8 (keep : Int), .slice (some ⟨g, o, none⟩) 5 ca, .slice (some ⟨h, q, none⟩) 5 cx] w fun e w' => (∃ v, e = .returned v) ∧ Kp g w w' ∧ Rw w' g N (pl F o 5 (fun j => vmix c keep (F (o + j)) (S j))) := by
  obtain ⟨W, hW⟩ : ∃ W, W = w := ⟨_, rfl⟩
  have T : Ts w W g N b c o 5 5 F (fun j => vmix c keep (F (o + j)) (S j)) := by rw [hW]; exact Ts.start hR hb
  have HR : Hid (Rw w g N F ∧ Rdg w g N o 5 h q F S ∧ Ts w W g N b c o 5 5 F (fun j => vmix c keep (F (o + j)) (S j))) := ⟨hR, hx, T⟩
  have HP : Hid (g ≠ b ∧ keep < 256 ∧ o + 5 ≤ N) := ⟨hg, hkp, hoN⟩
  suffices HC : Calls Tryz.prog 201 #[.pointer (some ⟨b, 0, none⟩), .int .u8 (keep : Int), .slice (some ⟨g, o, none⟩) 5 ca, .slice (some ⟨h, q, none⟩) 5 cx] W fun e w' => (∃ v, e = .returned v) ∧ Kp g w w' ∧ Rw w' g N (pl F o 5 (fun j => vmix c keep (F (o + j)) (S j))) by rw [hW] at HC; exact HC
  clear T hb hR hx hW hg hkp hoN
  go_enter Tryz.func201, Tryz.ntmps201
  go_wp2
  obtain ⟨hR, hx, T⟩ := HR.out
  obtain ⟨hg, hkp, hoN⟩ := HP.out
  clear HR HP
  -- place 4
  have f1 : W.cell? ⟨g, o + 4, none⟩ = some (.int .u8 (F (o + 4) : Nat)) := T.here (k := 4) (by decide) hoN
  have f2 := T.open_ (o + 4)
  obtain ⟨l3, f3'⟩ := T.src (k := 4) hx (by decide)
  have f3 : W.cell? ⟨h, q + 4, none⟩ = some (.int .u8 (S 4 : Nat)) := f3'
  clear f3'
  have HT : Hid (Ts w ((W.setCell ⟨g, o + 4, none⟩ (.int .u8 (vmix c keep (F (o + 4)) (S 4) : Nat))).drew.drew) g N b c o 5 4 F (fun j => vmix c keep (F (o + j)) (S j))) := T.step (by decide) (vmix_lt (hR.2.1 _ (by omega))) hg
  have c1 : Calls Tryz.prog 202 #[.pointer (some ⟨b, 0, none⟩), .int .u8 ((S 4 : Nat) : Int)] W.drew fun e w' => e = .returned (.int .u8 (fm 285 c (S 4) : Nat)) ∧ w' = W.drew.drew := one_nat c (S 4) b W.drew T.2.2.drew l3
  have A1 := u8_and_nat (F (o + 4)) keep (hR.2.1 _ (by omega)) hkp
  have X1 : bits .xor .u8 ((F (o + 4) &&& keep : Nat) : Int) ((fm 285 c (S 4) : Nat) : Int) = ((vmix c keep (F (o + 4)) (S 4) : Nat) : Int) := u8_xor_nat _ _ (Nat.lt_of_le_of_lt Nat.and_le_left (hR.2.1 _ (by omega))) (fm8_lt _ _)
  clear T l3
  generalize hV : vmix c keep (F (o + 4)) (S 4) = V at X1 HT
  generalize hD : F (o + 4) &&& keep = D at A1 X1
  generalize hM : fm 285 c (S 4) = M at c1 X1
  generalize hE : F (o + 4) = E at f1 A1
  generalize hZ : S 4 = Z at f3 c1
  clear hV hD hM hE hZ
  refine region_planT (fun w' => w'.cell? ⟨g, o + 4, none⟩ = some (.int .u8 (E : Nat)) ∧ w'.cell? ⟨h, q + 4, none⟩ = some (.int .u8 (Z : Nat))) 12 [10, 1] 115 ⟨f1, f3⟩ (by kernel_rfl) (by kernel_rfl) (fun _ a d v _ h => by cases d <;> exact h) ?_
  refine planT_step ?A1x4 rfl (fun w' hS => ?s1x4) rfl (fun K hK => ?n1x4)
  case s1x4 =>
    obtain ⟨y1, y2⟩ := hS
    simp only [List.take_succ_cons, List.take_zero]
    repeat still_step
    exact rfl
  case n1x4 =>
  go_simp
  go_wp2_with (go_at_call 202; ((with_reducible refine c1.mono ?_); rintro e w9 ⟨rfl, rfl⟩))
  refine hK _ _ ⟨f1, f3⟩ ?_
  clear hK K c1
  refine planT_last ?A2x4 rfl (fun w' hS => ?s2x4) rfl ?n2x4
  case s2x4 =>
    simp only [List.take_succ_cons, List.take_zero]
    repeat still_step
    exact rfl
  case n2x4 =>
  simp only [List.drop_succ_cons, List.drop_zero]
  go_wp2
  have T := HT.out
  clear HT f1 f2 f3 A1 X1
  generalize (W.setCell ⟨g, o + 4, none⟩ (.int .u8 (V : Nat))).drew.drew = W at T ⊢
  -- place 3
  have f1 : W.cell? ⟨g, o + 3, none⟩ = some (.int .u8 (F (o + 3) : Nat)) := T.here (k := 3) (by decide) hoN
  have f2 := T.open_ (o + 3)
  obtain ⟨l3, f3'⟩ := T.src (k := 3) hx (by decide)
  have f3 : W.cell? ⟨h, q + 3, none⟩ = some (.int .u8 (S 3 : Nat)) := f3'
  clear f3'
  have HT : Hid (Ts w ((W.setCell ⟨g, o + 3, none⟩ (.int .u8 (vmix c keep (F (o + 3)) (S 3) : Nat))).drew.drew) g N b c o 5 3 F (fun j => vmix c keep (F (o + j)) (S j))) := T.step (by decide) (vmix_lt (hR.2.1 _ (by omega))) hg
  have c1 : Calls Tryz.prog 202 #[.pointer (some ⟨b, 0, none⟩), .int .u8 ((S 3 : Nat) : Int)] W.drew fun e w' => e = .returned (.int .u8 (fm 285 c (S 3) : Nat)) ∧ w' = W.drew.drew := one_nat c (S 3) b W.drew T.2.2.drew l3
  have A1 := u8_and_nat (F (o + 3)) keep (hR.2.1 _ (by omega)) hkp
  have X1 : bits .xor .u8 ((F (o + 3) &&& keep : Nat) : Int) ((fm 285 c (S 3) : Nat) : Int) = ((vmix c keep (F (o + 3)) (S 3) : Nat) : Int) := u8_xor_nat _ _ (Nat.lt_of_le_of_lt Nat.and_le_left (hR.2.1 _ (by omega))) (fm8_lt _ _)
  clear T l3
  generalize hV : vmix c keep (F (o + 3)) (S 3) = V at X1 HT
  generalize hD : F (o + 3) &&& keep = D at A1 X1
  generalize hM : fm 285 c (S 3) = M at c1 X1
  generalize hE : F (o + 3) = E at f1 A1
  generalize hZ : S 3 = Z at f3 c1
  clear hV hD hM hE hZ
  refine region_planT (fun w' => w'.cell? ⟨g, o + 3, none⟩ = some (.int .u8 (E : Nat)) ∧ w'.cell? ⟨h, q + 3, none⟩ = some (.int .u8 (Z : Nat))) 12 [10, 1] 115 ⟨f1, f3⟩ (by kernel_rfl) (by kernel_rfl) (fun _ a d v _ h => by cases d <;> exact h) ?_
  refine planT_step ?A1x3 rfl (fun w' hS => ?s1x3) rfl (fun K hK => ?n1x3)
  case s1x3 =>
    obtain ⟨y1, y2⟩ := hS
    simp only [List.take_succ_cons, List.take_zero]
    repeat still_step
    exact rfl
  case n1x3 =>
  go_simp
  go_wp2_with (go_at_call 202; ((with_reducible refine c1.mono ?_); rintro e w9 ⟨rfl, rfl⟩))
  refine hK _ _ ⟨f1, f3⟩ ?_
  clear hK K c1
  refine planT_last ?A2x3 rfl (fun w' hS => ?s2x3) rfl ?n2x3
  case s2x3 =>
    simp only [List.take_succ_cons, List.take_zero]
    repeat still_step
    exact rfl
  case n2x3 =>
  simp only [List.drop_succ_cons, List.drop_zero]
  go_wp2
  have T := HT.out
  clear HT f1 f2 f3 A1 X1
  generalize (W.setCell ⟨g, o + 3, none⟩ (.int .u8 (V : Nat))).drew.drew = W at T ⊢
  -- place 2
  have f1 : W.cell? ⟨g, o + 2, none⟩ = some (.int .u8 (F (o + 2) : Nat)) := T.here (k := 2) (by decide) hoN
  have f2 := T.open_ (o + 2)
  obtain ⟨l3, f3'⟩ := T.src (k := 2) hx (by decide)
  have f3 : W.cell? ⟨h, q + 2, none⟩ = some (.int .u8 (S 2 : Nat)) := f3'
  clear f3'
  have HT : Hid (Ts w ((W.setCell ⟨g, o + 2, none⟩ (.int .u8 (vmix c keep (F (o + 2)) (S 2) : Nat))).drew.drew) g N b c o 5 2 F (fun j => vmix c keep (F (o + j)) (S j))) := T.step (by decide) (vmix_lt (hR.2.1 _ (by omega))) hg
  have c1 : Calls Tryz.prog 202 #[.pointer (some ⟨b, 0, none⟩), .int .u8 ((S 2 : Nat) : Int)] W.drew fun e w' => e = .returned (.int .u8 (fm 285 c (S 2) : Nat)) ∧ w' = W.drew.drew := one_nat c (S 2) b W.drew T.2.2.drew l3
  have A1 := u8_and_nat (F (o + 2)) keep (hR.2.1 _ (by omega)) hkp
  have X1 : bits .xor .u8 ((F (o + 2) &&& keep : Nat) : Int) ((fm 285 c (S 2) : Nat) : Int) = ((vmix c keep (F (o + 2)) (S 2) : Nat) : Int) := u8_xor_nat _ _ (Nat.lt_of_le_of_lt Nat.and_le_left (hR.2.1 _ (by omega))) (fm8_lt _ _)
  clear T l3
  generalize hV : vmix c keep (F (o + 2)) (S 2) = V at X1 HT
  generalize hD : F (o + 2) &&& keep = D at A1 X1
  generalize hM : fm 285 c (S 2) = M at c1 X1
  generalize hE : F (o + 2) = E at f1 A1
  generalize hZ : S 2 = Z at f3 c1
  clear hV hD hM hE hZ
  refine region_planT (fun w' => w'.cell? ⟨g, o + 2, none⟩ = some (.int .u8 (E : Nat)) ∧ w'.cell? ⟨h, q + 2, none⟩ = some (.int .u8 (Z : Nat))) 12 [10, 1] 115 ⟨f1, f3⟩ (by kernel_rfl) (by kernel_rfl) (fun _ a d v _ h => by cases d <;> exact h) ?_
  refine planT_step ?A1x2 rfl (fun w' hS => ?s1x2) rfl (fun K hK => ?n1x2)
  case s1x2 =>
    obtain ⟨y1, y2⟩ := hS
    simp only [List.take_succ_cons, List.take_zero]
    repeat still_step
    exact rfl
  case n1x2 =>
  go_simp
  go_wp2_with (go_at_call 202; ((with_reducible refine c1.mono ?_); rintro e w9 ⟨rfl, rfl⟩))
  refine hK _ _ ⟨f1, f3⟩ ?_
  clear hK K c1
  refine planT_last ?A2x2 rfl (fun w' hS => ?s2x2) rfl ?n2x2
  case s2x2 =>
    simp only [List.take_succ_cons, List.take_zero]
    repeat still_step
    exact rfl
  case n2x2 =>
  simp only [List.drop_succ_cons, List.drop_zero]
  go_wp2
  have T := HT.out
  clear HT f1 f2 f3 A1 X1
  generalize (W.setCell ⟨g, o + 2, none⟩ (.int .u8 (V : Nat))).drew.drew = W at T ⊢
  -- place 1
  have f1 : W.cell? ⟨g, o + 1, none⟩ = some (.int .u8 (F (o + 1) : Nat)) := T.here (k := 1) (by decide) hoN
  have f2 := T.open_ (o + 1)
  obtain ⟨l3, f3'⟩ := T.src (k := 1) hx (by decide)
  have f3 : W.cell? ⟨h, q + 1, none⟩ = some (.int .u8 (S 1 : Nat)) := f3'
  clear f3'
  have HT : Hid (Ts w ((W.setCell ⟨g, o + 1, none⟩ (.int .u8 (vmix c keep (F (o + 1)) (S 1) : Nat))).drew.drew) g N b c o 5 1 F (fun j => vmix c keep (F (o + j)) (S j))) := T.step (by decide) (vmix_lt (hR.2.1 _ (by omega))) hg
  have c1 : Calls Tryz.prog 202 #[.pointer (some ⟨b, 0, none⟩), .int .u8 ((S 1 : Nat) : Int)] W.drew fun e w' => e = .returned (.int .u8 (fm 285 c (S 1) : Nat)) ∧ w' = W.drew.drew := one_nat c (S 1) b W.drew T.2.2.drew l3
  have A1 := u8_and_nat (F (o + 1)) keep (hR.2.1 _ (by omega)) hkp
  have X1 : bits .xor .u8 ((F (o + 1) &&& keep : Nat) : Int) ((fm 285 c (S 1) : Nat) : Int) = ((vmix c keep (F (o + 1)) (S 1) : Nat) : Int) := u8_xor_nat _ _ (Nat.lt_of_le_of_lt Nat.and_le_left (hR.2.1 _ (by omega))) (fm8_lt _ _)
  clear T l3
  generalize hV : vmix c keep (F (o + 1)) (S 1) = V at X1 HT
  generalize hD : F (o + 1) &&& keep = D at A1 X1
  generalize hM : fm 285 c (S 1) = M at c1 X1
  generalize hE : F (o + 1) = E at f1 A1
  generalize hZ : S 1 = Z at f3 c1
  clear hV hD hM hE hZ
  refine region_planT (fun w' => w'.cell? ⟨g, o + 1, none⟩ = some (.int .u8 (E : Nat)) ∧ w'.cell? ⟨h, q + 1, none⟩ = some (.int .u8 (Z : Nat))) 12 [10, 1] 115 ⟨f1, f3⟩ (by kernel_rfl) (by kernel_rfl) (fun _ a d v _ h => by cases d <;> exact h) ?_
  refine planT_step ?A1x1 rfl (fun w' hS => ?s1x1) rfl (fun K hK => ?n1x1)
  case s1x1 =>
    obtain ⟨y1, y2⟩ := hS
    simp only [List.take_succ_cons, List.take_zero]
    repeat still_step
    exact rfl
  case n1x1 =>
  go_simp
  go_wp2_with (go_at_call 202; ((with_reducible refine c1.mono ?_); rintro e w9 ⟨rfl, rfl⟩))
  refine hK _ _ ⟨f1, f3⟩ ?_
  clear hK K c1
  refine planT_last ?A2x1 rfl (fun w' hS => ?s2x1) rfl ?n2x1
  case s2x1 =>
    simp only [List.take_succ_cons, List.take_zero]
    repeat still_step
    exact rfl
  case n2x1 =>
  simp only [List.drop_succ_cons, List.drop_zero]
  go_wp2
  have T := HT.out
  clear HT f1 f2 f3 A1 X1
  generalize (W.setCell ⟨g, o + 1, none⟩ (.int .u8 (V : Nat))).drew.drew = W at T ⊢
  -- place 0
  have f1 : W.cell? ⟨g, o, none⟩ = some (.int .u8 (F (o) : Nat)) := T.here (k := 0) (by decide) hoN
  have f2 := T.open_ (o)
  obtain ⟨l3, f3'⟩ := T.src (k := 0) hx (by decide)
  have f3 : W.cell? ⟨h, q, none⟩ = some (.int .u8 (S 0 : Nat)) := f3'
  clear f3'
  have HT : Hid (Ts w ((W.setCell ⟨g, o, none⟩ (.int .u8 (vmix c keep (F (o)) (S 0) : Nat))).drew.drew) g N b c o 5 0 F (fun j => vmix c keep (F (o + j)) (S j))) := T.step (by decide) (vmix_lt (hR.2.1 _ (by omega))) hg
  have c1 : Calls Tryz.prog 202 #[.pointer (some ⟨b, 0, none⟩), .int .u8 ((S 0 : Nat) : Int)] W.drew fun e w' => e = .returned (.int .u8 (fm 285 c (S 0) : Nat)) ∧ w' = W.drew.drew := one_nat c (S 0) b W.drew T.2.2.drew l3
  have A1 := u8_and_nat (F (o)) keep (hR.2.1 _ (by omega)) hkp
  have X1 : bits .xor .u8 ((F (o) &&& keep : Nat) : Int) ((fm 285 c (S 0) : Nat) : Int) = ((vmix c keep (F (o)) (S 0) : Nat) : Int) := u8_xor_nat _ _ (Nat.lt_of_le_of_lt Nat.and_le_left (hR.2.1 _ (by omega))) (fm8_lt _ _)
  clear T l3
  generalize hV : vmix c keep (F (o)) (S 0) = V at X1 HT
  generalize hD : F (o) &&& keep = D at A1 X1
  generalize hM : fm 285 c (S 0) = M at c1 X1
  generalize hE : F (o) = E at f1 A1
  generalize hZ : S 0 = Z at f3 c1
  clear hV hD hM hE hZ
  refine region_planT (fun w' => w'.cell? ⟨g, o, none⟩ = some (.int .u8 (E : Nat)) ∧ w'.cell? ⟨h, q, none⟩ = some (.int .u8 (Z : Nat))) 12 [10, 1] 115 ⟨f1, f3⟩ (by kernel_rfl) (by kernel_rfl) (fun _ a d v _ h => by cases d <;> exact h) ?_
  refine planT_step ?A1x0 rfl (fun w' hS => ?s1x0) rfl (fun K hK => ?n1x0)
  case s1x0 =>
    obtain ⟨y1, y2⟩ := hS
    simp only [List.take_succ_cons, List.take_zero]
    repeat still_step
    exact rfl
  case n1x0 =>
  go_simp
  go_wp2_with (go_at_call 202; ((with_reducible refine c1.mono ?_); rintro e w9 ⟨rfl, rfl⟩))
  refine hK _ _ ⟨f1, f3⟩ ?_
  clear hK K c1
  refine planT_last ?A2x0 rfl (fun w' hS => ?s2x0) rfl ?n2x0
  case s2x0 =>
    simp only [List.take_succ_cons, List.take_zero]
    repeat still_step
    exact rfl
  case n2x0 =>
  simp only [List.drop_succ_cons, List.drop_zero]
  go_wp2
  go_end0
  exact ⟨⟨_, rfl⟩, HT.out.end_⟩
end Go.Proofs.YtefolifecbhgoaaGreat
