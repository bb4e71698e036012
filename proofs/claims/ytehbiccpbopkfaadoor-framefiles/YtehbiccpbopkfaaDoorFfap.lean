import Derived.Test.YtehbiccpbopkfaaDoorFfam
import Derived.Test.YtehbiccpbopkfaaDoorFfao
import Derived.Lib.LazyBuf
namespace Go.Proofs.YtehbiccpbopkfaaDoor
open Go.RowKit Gf2
set_option linter.unusedVariables false

-- layer 25: the head is laid
def mg25 (c : Nat) : Nat := [67, 85, 76, 76, 1].getD c 0
def pm25 (F : Nat → Nat) (c : Nat) : Nat := if c < 5 then mg25 c else F c
theorem mg_lt25 : ∀ c, c < 5 → mg25 c < 256 := by decide
theorem copy_magic25 {w : World} {g N cap : Nat} {F : Nat → Nat} (h : Rw w g N F) (hN : 5 ≤ N) :
    ∃ w', (Builtin.copy_ #[27, 9] 3 #[.slice (some ⟨g, 0, none⟩) N cap, .string { data := #[67, 85, 76, 76, 1] }]).run Tryd.prog w = .ok (goInt 5) w' ∧ Rw w' g N (pm25 F) ∧ Only g w w' := by
  have hz : ∀ w, (Go.sizeOf 5).run Tryd.prog w = .ok 1 w := size_u25
  have e := run_copy_string (P := Tryd.prog) w 27 9 3 5 g 0 N cap { data := #[67, 85, 76, 76, 1] } Tryd.underlying27 hz (by show 5 ≤ N; exact hN) (fun j hj => by
    have hj : j < 5 := hj
    rw [Nat.zero_add, h.2.2.cell (show j < N by omega)]; rfl) (fun j hj => by rw [Nat.zero_add]; exact h.2.2.frozen j)
  refine ⟨_, e, ?_, ?_⟩
  · show Rw (((((w.setCell ⟨g, 0, none⟩ (.int .u8 ((67 : Nat) : Int))).setCell ⟨g, 1, none⟩ (.int .u8 ((85 : Nat) : Int))).setCell ⟨g, 2, none⟩ (.int .u8 ((76 : Nat) : Int))).setCell ⟨g, 3, none⟩ (.int .u8 ((76 : Nat) : Int))).setCell ⟨g, 4, none⟩ (.int .u8 ((1 : Nat) : Int))) g N (pm25 F)
    refine (((((h.set 0 67 (by decide)).set 1 85 (by decide)).set 2 76 (by decide)).set 3 76 (by decide)).set 4 1 (by decide)).congr (fun c _ => ?_)
    unfold pm25
    by_cases h5 : c < 5
    · rw [if_pos h5]
      have : c = 0 ∨ c = 1 ∨ c = 2 ∨ c = 3 ∨ c = 4 := by omega
      rcases this with rfl | rfl | rfl | rfl | rfl <;> rfl
    · rw [if_neg h5, if_neg (by omega), if_neg (by omega), if_neg (by omega), if_neg (by omega), if_neg (by omega)]
  · exact (((((Only.refl g w).setCell 0 _).setCell 1 _).setCell 2 _).setCell 3 _).setCell 4 _
/-- while the head is laid: the file in block fb, the head in a box. -/
structure Ph25 (w X : World) (fb N : Nat) (F : Nat → Nat) (f k m i s l b : Int) (st : Nat) : Prop where
  lt : fb < w.heap.size
  kp : Kp fb w X
  rw : Rw X fb N F
  blk : X.heap[w.heap.size]? = some (.cells (hc25 f k m i s l b st) 38 (0, 0))
section
variable {w X X' : World} {fb N : Nat} {F F' : Nat → Nat} {f k m i s l b : Int} {st : Nat}
theorem Ph25.only (h : Ph25 w X fb N F f k m i s l b st) (ho : Only fb X X') (hr : Rw X' fb N F') : Ph25 w X' fb N F' f k m i s l b st :=
  ⟨h.lt, h.kp.trans ho.kp, hr, (ho.2.2 _ (by have := h.lt; omega)).trans h.blk⟩
theorem Ph25.drewN (h : Ph25 w X fb N F f k m i s l b st) (q : Nat) : Ph25 w (X.drewN q) fb N F f k m i s l b st := ⟨h.lt, h.kp.drewN q, h.rw, h.blk⟩
theorem Ph25.drew (h : Ph25 w X fb N F f k m i s l b st) : Ph25 w X.drew fb N F f k m i s l b st := ⟨h.lt, h.kp.drew, h.rw.drewN 1, h.blk⟩
theorem Ph25.c0 (h : Ph25 w X fb N F f k m i s l b st) : X.cell? ⟨w.heap.size, 0, none⟩ = some (.int .i64 f) := by rw [cell_of_row _ _ 0 _ _ _ h.blk]; rfl
theorem Ph25.c1 (h : Ph25 w X fb N F f k m i s l b st) : X.cell? ⟨w.heap.size, 1, none⟩ = some (.int .i64 k) := by rw [cell_of_row _ _ 1 _ _ _ h.blk]; rfl
theorem Ph25.c2 (h : Ph25 w X fb N F f k m i s l b st) : X.cell? ⟨w.heap.size, 2, none⟩ = some (.int .i64 m) := by rw [cell_of_row _ _ 2 _ _ _ h.blk]; rfl
theorem Ph25.c3 (h : Ph25 w X fb N F f k m i s l b st) : X.cell? ⟨w.heap.size, 3, none⟩ = some (.int .i64 i) := by rw [cell_of_row _ _ 3 _ _ _ h.blk]; rfl
theorem Ph25.c4 (h : Ph25 w X fb N F f k m i s l b st) : X.cell? ⟨w.heap.size, 4, none⟩ = some (.int .i64 s) := by rw [cell_of_row _ _ 4 _ _ _ h.blk]; rfl
theorem Ph25.c5 (h : Ph25 w X fb N F f k m i s l b st) : X.cell? ⟨w.heap.size, 5, none⟩ = some (.int .i64 l) := by rw [cell_of_row _ _ 5 _ _ _ h.blk]; rfl
theorem Ph25.c6 (h : Ph25 w X fb N F f k m i s l b st) : X.cell? ⟨w.heap.size, 6, none⟩ = some (.int .i64 b) := by rw [cell_of_row _ _ 6 _ _ _ h.blk]; rfl
theorem Ph25.c7 (h : Ph25 w X fb N F f k m i s l b st) : X.cell? ⟨w.heap.size, 7, none⟩ = some (.int .u64 (st : Int)) := by rw [cell_of_row _ _ 7 _ _ _ h.blk]; rfl
end
theorem Fsh.kp {w w' : World} {g : Nat} (h : Fsh w) (k : Kp g w w') (hne : 0 ≠ g) : Fsh w' := by
  obtain ⟨t1, f1, h1⟩ := h
  exact ⟨t1, f1, by rw [k.2 _ (Array.getElem?_eq_some_iff.1 h1).1 hne]; exact h1⟩
/-- the head's bytes ahead of its sum, laid one by one. -/
def hp25 (F : Nat → Nat) (f k m i s l b st : Nat) : Nat → Nat :=
  pn25 (pn25 (pn25 (pn25 (pn25 (pn25 (pn25 (fun c => if c = 5 then f else pm25 F c) 6 2 k) 8 2 m) 10 2 i) 12 4 b) 16 8 s) 24 8 l) 32 8 st
set_option maxHeartbeats 8000000 in
set_option maxRecDepth 100000 in
theorem putHead25 (fb N : Nat) (F : Nat → Nat) (f k m i s l b st : Nat) (w : World) (h : Rw w fb N F) (hN : 48 ≤ N) (hT : Fsh w) (hf : f < 256) (hk : k < 9223372036854775808) (hm : m < 9223372036854775808) (hi : i < 9223372036854775808) (hs : s < 9223372036854775808) (hl : l < 9223372036854775808) (hb : b < 9223372036854775808) (hst : st < 18446744073709551616) (hne : 0 ≠ fb) :
    Calls Tryd.prog 19 #[.slice (some ⟨fb, 0, none⟩) N N, hd25 f k m i s l b st] w fun e w' => e = .returned (.tuple #[]) ∧ Kp fb w w' ∧ Rw w' fb N (pn25 (hp25 F f k m i s l b st) 44 4 (nt (fol25 (nt 0) (hp25 F f k m i s l b st) 44))) := by
  have b0 : Below w.heap.size w (w.alloc (.cells (hc25 f k m i s l b st) 38)) := (Below.refl _ _).alloc (Nat.le_refl _) _
  have A0 : Ph25 w (w.alloc (.cells (hc25 f k m i s l b st) 38)) fb N F f k m i s l b st := ⟨h.lt, ⟨(Below.refl _ _).alloc (Nat.zero_le _) _, fun x hx _ => b0.block x hx⟩, h.of_block (b0.block _ h.lt), heap_alloc_new _ _⟩
  obtain ⟨w1, hcp, r1, o1⟩ := copy_magic25 (cap := N) A0.rw (by omega)
  have A1 := A0.only o1 r1
  have A2 : Ph25 w (w1.setCell ⟨fb, 5, none⟩ (.int .u8 ((f : Nat) : Int))) fb N (fun c => if c = 5 then f else pm25 F c) f k m i s l b st := A1.only ((Only.refl _ _).setCell _ _) (r1.set 5 f hf)
  have V0 : IntKind.u8.wrap ((f : Nat) : Int) = ((f : Nat) : Int) := by rw [IntKind.wrap_u8]; omega
  have q0 := A1.c0
  have HV : Hid (IntKind.u64.wrap ((k : Nat) : Int) = ((k : Nat) : Int) ∧ IntKind.u64.wrap ((m : Nat) : Int) = ((m : Nat) : Int) ∧ IntKind.u64.wrap ((i : Nat) : Int) = ((i : Nat) : Int) ∧ IntKind.u64.wrap ((b : Nat) : Int) = ((b : Nat) : Int) ∧ IntKind.u64.wrap ((s : Nat) : Int) = ((s : Nat) : Int) ∧ IntKind.u64.wrap ((l : Nat) : Int) = ((l : Nat) : Int)) := by
    show _ ∧ _
    simp only [IntKind.wrap_u64]
    omega
  have n5 : (5 : Int) < ((N : Nat) : Int) := by omega
  have n8 : (8 : Int) ≤ ((N : Nat) : Int) := by omega
  have n10 : (10 : Int) ≤ ((N : Nat) : Int) := by omega
  have n12 : (12 : Int) ≤ ((N : Nat) : Int) := by omega
  have n16 : (16 : Int) ≤ ((N : Nat) : Int) := by omega
  have n24 : (24 : Int) ≤ ((N : Nat) : Int) := by omega
  have n32 : (32 : Int) ≤ ((N : Nat) : Int) := by omega
  have n40 : (40 : Int) ≤ ((N : Nat) : Int) := by omega
  have n44 : (44 : Int) ≤ ((N : Nat) : Int) := by omega
  have n48 : (48 : Int) ≤ ((N : Nat) : Int) := by omega
  have q5 := r1.2.2.cell (show 5 < N by omega)
  have q6 := r1.2.2.frozen 5
  have HA : Hid (Ph25 w (w1.setCell ⟨fb, 5, none⟩ (.int .u8 ((f : Nat) : Int))) fb N (fun c => if c = 5 then f else pm25 F c) f k m i s l b st) := A2
  have HN : Hid (48 ≤ N ∧ Fsh w ∧ k < 9223372036854775808 ∧ m < 9223372036854775808 ∧ i < 9223372036854775808 ∧ s < 9223372036854775808 ∧ l < 9223372036854775808 ∧ b < 9223372036854775808 ∧ st < 18446744073709551616) := ⟨hN, hT, hk, hm, hi, hs, hl, hb, hst⟩
  obtain ⟨S, hS9⟩ : ∃ S, Hid (nt (fol25 (nt 0) (hp25 F f k m i s l b st) 44) = S) := ⟨_, rfl⟩
  rw [hS9.out]
  unfold hd25
  unfold hc25 at hcp
  clear b0 A0 A1 A2 r1 o1 h hN hT hf hk hm hi hs hl hb hst
  go_enter Tryd.func19, Tryd.ntmps19
  go_wp2
  obtain ⟨x2, hx2⟩ : ∃ x2, w1.setCell ⟨fb, 5, none⟩ (.int .u8 ((f : Nat) : Int)) = x2 := ⟨_, rfl⟩
  rw [hx2] at HA ⊢
  clear hcp q0 V0 q5 q6 hx2
  have z := HA.out.c1
  have V := HV.out.1
  have c1 := put25 fb 6 N 2 (N - 6) k _ x2.drew HA.out.drew.rw (by have := HN.out; omega) (by omega) (by have := HN.out; omega)
  have HO : Hid (Ph25 w x2.drew fb N _ f k m i s l b st) := HA.out.drew
  clear HA
  refine region_planT (fun w' => w'.cell? ⟨w.heap.size, 1, none⟩ = some (.int .i64 ((k : Nat) : Int))) 5 [5] 59 z (by kernel_rfl) (by kernel_rfl) (fun _ a d v _ h => by cases d <;> exact h) ?_
  refine planT_last ?A3 rfl (fun w' hS => ?s3) rfl ?n3
  case s3 =>
    simp only [List.take_succ_cons, List.take_zero]
    repeat still_step
    exact rfl
  case n3 =>
  simp only [List.drop_succ_cons, List.drop_zero]
  clear z V
  go_wp2_with (go_at_call 23; (with_reducible refine c1.mono ?_); rintro e x3 ⟨rfl, ho, hr⟩; clear c1)
  have HA : Hid (Ph25 w x3 fb N _ f k m i s l b st) := HO.out.only ho hr
  clear ho hr HO
  have z := HA.out.c2
  have V := HV.out.2.1
  have c1 := put25 fb 8 N 2 (N - 8) m _ x3.drew HA.out.drew.rw (by have := HN.out; omega) (by omega) (by have := HN.out; omega)
  have HO : Hid (Ph25 w x3.drew fb N _ f k m i s l b st) := HA.out.drew
  clear HA
  refine region_planT (fun w' => w'.cell? ⟨w.heap.size, 2, none⟩ = some (.int .i64 ((m : Nat) : Int))) 5 [5] 59 z (by kernel_rfl) (by kernel_rfl) (fun _ a d v _ h => by cases d <;> exact h) ?_
  refine planT_last ?A4 rfl (fun w' hS => ?s4) rfl ?n4
  case s4 =>
    simp only [List.take_succ_cons, List.take_zero]
    repeat still_step
    exact rfl
  case n4 =>
  simp only [List.drop_succ_cons, List.drop_zero]
  clear z V
  go_wp2_with (go_at_call 23; (with_reducible refine c1.mono ?_); rintro e x4 ⟨rfl, ho, hr⟩; clear c1)
  have HA : Hid (Ph25 w x4 fb N _ f k m i s l b st) := HO.out.only ho hr
  clear ho hr HO
  have z := HA.out.c3
  have V := HV.out.2.2.1
  have c1 := put25 fb 10 N 2 (N - 10) i _ x4.drew HA.out.drew.rw (by have := HN.out; omega) (by omega) (by have := HN.out; omega)
  have HO : Hid (Ph25 w x4.drew fb N _ f k m i s l b st) := HA.out.drew
  clear HA
  refine region_planT (fun w' => w'.cell? ⟨w.heap.size, 3, none⟩ = some (.int .i64 ((i : Nat) : Int))) 5 [5] 59 z (by kernel_rfl) (by kernel_rfl) (fun _ a d v _ h => by cases d <;> exact h) ?_
  refine planT_last ?A5 rfl (fun w' hS => ?s5) rfl ?n5
  case s5 =>
    simp only [List.take_succ_cons, List.take_zero]
    repeat still_step
    exact rfl
  case n5 =>
  simp only [List.drop_succ_cons, List.drop_zero]
  clear z V
  go_wp2_with (go_at_call 23; (with_reducible refine c1.mono ?_); rintro e x5 ⟨rfl, ho, hr⟩; clear c1)
  have HA : Hid (Ph25 w x5 fb N _ f k m i s l b st) := HO.out.only ho hr
  clear ho hr HO
  have z := HA.out.c6
  have V := HV.out.2.2.2.1
  have c1 := put25 fb 12 N 4 (N - 12) b _ x5.drew HA.out.drew.rw (by have := HN.out; omega) (by omega) (by have := HN.out; omega)
  have HO : Hid (Ph25 w x5.drew fb N _ f k m i s l b st) := HA.out.drew
  clear HA
  refine region_planT (fun w' => w'.cell? ⟨w.heap.size, 6, none⟩ = some (.int .i64 ((b : Nat) : Int))) 5 [5] 59 z (by kernel_rfl) (by kernel_rfl) (fun _ a d v _ h => by cases d <;> exact h) ?_
  refine planT_last ?A6 rfl (fun w' hS => ?s6) rfl ?n6
  case s6 =>
    simp only [List.take_succ_cons, List.take_zero]
    repeat still_step
    exact rfl
  case n6 =>
  simp only [List.drop_succ_cons, List.drop_zero]
  clear z V
  go_wp2_with (go_at_call 23; (with_reducible refine c1.mono ?_); rintro e x6 ⟨rfl, ho, hr⟩; clear c1)
  have HA : Hid (Ph25 w x6 fb N _ f k m i s l b st) := HO.out.only ho hr
  clear ho hr HO
  have z := HA.out.c4
  have V := HV.out.2.2.2.2.1
  have c1 := put25 fb 16 N 8 (N - 16) s _ x6.drew HA.out.drew.rw (by have := HN.out; omega) (by omega) (by have := HN.out; omega)
  have HO : Hid (Ph25 w x6.drew fb N _ f k m i s l b st) := HA.out.drew
  clear HA
  refine region_planT (fun w' => w'.cell? ⟨w.heap.size, 4, none⟩ = some (.int .i64 ((s : Nat) : Int))) 5 [5] 59 z (by kernel_rfl) (by kernel_rfl) (fun _ a d v _ h => by cases d <;> exact h) ?_
  refine planT_last ?A7 rfl (fun w' hS => ?s7) rfl ?n7
  case s7 =>
    simp only [List.take_succ_cons, List.take_zero]
    repeat still_step
    exact rfl
  case n7 =>
  simp only [List.drop_succ_cons, List.drop_zero]
  clear z V
  go_wp2_with (go_at_call 23; (with_reducible refine c1.mono ?_); rintro e x7 ⟨rfl, ho, hr⟩; clear c1)
  have HA : Hid (Ph25 w x7 fb N _ f k m i s l b st) := HO.out.only ho hr
  clear ho hr HO
  have z := HA.out.c5
  have V := HV.out.2.2.2.2.2
  have c1 := put25 fb 24 N 8 (N - 24) l _ x7.drew HA.out.drew.rw (by have := HN.out; omega) (by omega) (by have := HN.out; omega)
  have HO : Hid (Ph25 w x7.drew fb N _ f k m i s l b st) := HA.out.drew
  clear HA
  refine region_planT (fun w' => w'.cell? ⟨w.heap.size, 5, none⟩ = some (.int .i64 ((l : Nat) : Int))) 5 [5] 59 z (by kernel_rfl) (by kernel_rfl) (fun _ a d v _ h => by cases d <;> exact h) ?_
  refine planT_last ?A8 rfl (fun w' hS => ?s8) rfl ?n8
  case s8 =>
    simp only [List.take_succ_cons, List.take_zero]
    repeat still_step
    exact rfl
  case n8 =>
  simp only [List.drop_succ_cons, List.drop_zero]
  clear z V
  go_wp2_with (go_at_call 23; (with_reducible refine c1.mono ?_); rintro e x8 ⟨rfl, ho, hr⟩; clear c1)
  have HA : Hid (Ph25 w x8 fb N _ f k m i s l b st) := HO.out.only ho hr
  clear ho hr HO
  have z := HA.out.c7
  have c1 := put25 fb 32 N 8 (N - 32) st _ x8.drew HA.out.drew.rw (by have := HN.out; omega) (by omega) (by have := HN.out; omega)
  have HO : Hid (Ph25 w x8.drew fb N _ f k m i s l b st) := HA.out.drew
  clear HA
  refine region_planT (fun w' => w'.cell? ⟨w.heap.size, 7, none⟩ = some (.int .u64 ((st : Nat) : Int))) 4 [4] 59 z (by kernel_rfl) (by kernel_rfl) (fun _ a d v _ h => by cases d <;> exact h) ?_
  refine planT_last ?A9 rfl (fun w' hS => ?s9) rfl ?n9
  case s9 =>
    simp only [List.take_succ_cons, List.take_zero]
    repeat still_step
    exact rfl
  case n9 =>
  simp only [List.drop_succ_cons, List.drop_zero]
  clear z
  go_wp2_with (go_at_call 23; (with_reducible refine c1.mono ?_); rintro e x9 ⟨rfl, ho, hr⟩; clear c1)
  have HA : Hid (Ph25 w x9 fb N (hp25 F f k m i s l b st) f k m i s l b st) := HO.out.only ho hr
  clear ho hr HO
  have hF : Fsh x9.drew := (HN.out.2.1.kp HA.out.kp hne).below (below_drewN (Below.refl _ _) 1)
  have r9 : Rw x9.drew fb N (hp25 F f k m i s l b st) := HA.out.drew.rw
  have c2 := sum25 _ 44 _ x9.drew ((r9.rb (o := 0) (n := 44) (cap := N) (by have := HN.out; omega) (by have := HN.out; omega) r9.1).congr (G := hp25 F f k m i s l b st) (fun j _ => by rw [Nat.zero_add])) hF
  have hlt : S < 4294967296 := by
    rw [← hS9.out]
    exact nt_lt (fol_lt (nt_lt (by decide)) 44 (fun j hj => r9.2.1 j (by have := HN.out; omega)))
  rw [hS9.out] at c2
  have c3 := put25 fb 44 N 4 (N - 44) S _ x9.drew r9 (by have := HN.out; omega) (by omega) (by omega)
  have U1 : IntKind.u64.wrap ((S : Nat) : Int) = ((S : Nat) : Int) := by rw [IntKind.wrap_u64]; omega
  have HO : Hid (Ph25 w x9.drew fb N (hp25 F f k m i s l b st) f k m i s l b st) := HA.out.drew
  clear HA hF r9 hlt
  refine region_planT (fun w' => True) 6 [4, 1] 59 trivial (by kernel_rfl) (by kernel_rfl) (fun _ a d v _ h => by cases d <;> exact h) ?_
  refine planT_step ?A10 rfl (fun w' hS => ?s10) rfl (fun K hK => ?n10)
  case s10 =>
    simp only [List.take_succ_cons, List.take_zero]
    repeat still_step
    exact rfl
  case n10 =>
  go_simp
  go_wp2_with (go_at_call 8; ((with_reducible refine c2.mono ?_); rintro e y ⟨rfl, hy⟩; have hy := hy.symm; subst hy))
  refine hK _ _ trivial ?_
  clear hK K c2
  refine planT_last ?A11 rfl (fun w' hS => ?s11) rfl ?n11
  case s11 =>
    simp only [List.take_succ_cons, List.take_zero]
    repeat still_step
    exact rfl
  case n11 =>
  simp only [List.drop_succ_cons, List.drop_zero]
  go_wp2_with (go_at_call 23; (with_reducible refine c3.mono ?_); rintro e x10 ⟨rfl, ho, hr⟩; clear c3)
  ((try simp only [Exit.inBlock, Exit.then]); first | (refine bodyPost_ret (results_none rfl _ _ _) rfl ?_) | (refine bodyPost_end (results_none rfl _ _ _) rfl ?_))
  exact ⟨rfl, HO.out.kp.trans ho.kp, hr⟩
end Go.Proofs.YtehbiccpbopkfaaDoor
namespace Go.Proofs.YtehbiccpbopkfaaDoor
open Go.RowKit Gf2
set_option linter.unusedVariables false

-- layer 25: mathematics of a whole file
/-- the bytes of block j. -/
def gb25 (L b j : Nat) : Nat := Nat.min (j * b + b) L - j * b
/-- where block j begins in the file. -/
def en25 (L b j : Nat) : Nat := 48 + Nat.min (j * b) L + 4 * j
/-- a file's byte c. -/
def fl25 (HD : Nat → Nat) (HS L b : Nat) (Sh : Nat → Nat) (c : Nat) : Nat :=
  if c < 48 then HD c else if (c - 48) % (b + 4) < gb25 L b ((c - 48) / (b + 4)) then Sh ((c - 48) / (b + 4) * b + (c - 48) % (b + 4))
  else by25 (bsm25 HS ((c - 48) / (b + 4)) (gb25 L b ((c - 48) / (b + 4))) (fun x => Sh ((c - 48) / (b + 4) * b + x))) ((c - 48) % (b + 4) - gb25 L b ((c - 48) / (b + 4)))
theorem nb_lt25 {L b j : Nat} (hb : 1 ≤ b) : j < nb25 L b ↔ j * b < L := by
  unfold nb25
  rw [show (j < (L + b - 1) / b) ↔ j + 1 ≤ (L + b - 1) / b from Iff.rfl, Nat.le_div_iff_mul_le (by omega), Nat.add_mul, Nat.one_mul]
  omega
theorem nb_all25 {L b : Nat} (hb : 1 ≤ b) : L ≤ nb25 L b * b := by
  have h := (nb_lt25 (L := L) (j := nb25 L b) hb)
  exact Nat.le_of_not_lt (fun h9 => Nat.lt_irrefl _ (h.2 h9))
theorem en_last25 {L b : Nat} (hb : 1 ≤ b) : en25 L b (nb25 L b) = 48 + L + 4 * nb25 L b := by
  unfold en25
  have e : Nat.min (nb25 L b * b) L = L := Nat.min_eq_right (nb_all25 hb)
  rw [e]
theorem en_first25 {L b : Nat} : en25 L b 0 = 48 := by
  unfold en25
  rw [Nat.zero_mul]
  have : Nat.min 0 L = 0 := Nat.zero_min L
  omega
theorem en_mid25 {L b j : Nat} (h : j * b < L) : en25 L b j = 48 + j * b + 4 * j := by
  unfold en25
  have e : Nat.min (j * b) L = j * b := Nat.min_eq_left (by omega)
  omega
theorem gb_le25 (L b j : Nat) : gb25 L b j ≤ b := by
  unfold gb25
  have h : Nat.min (j * b + b) L ≤ j * b + b := Nat.min_le_left _ _
  omega
theorem gb_pos25 {L b j : Nat} (hb : 1 ≤ b) (h : j * b < L) : j * b < Nat.min (j * b + b) L := Nat.lt_min.2 ⟨by omega, h⟩
theorem en_next25 {L b j : Nat} (hb : 1 ≤ b) (h : j * b < L) : en25 L b (j + 1) = 48 + j * b + 4 * j + gb25 L b j + 4 := by
  have h2 := gb_pos25 hb h
  unfold en25 gb25
  rw [Nat.add_mul, Nat.one_mul]
  omega
theorem fl_in25 {HD : Nat → Nat} {HS L b : Nat} {Sh : Nat → Nat} {j r : Nat} (hr : r < b + 4) :
    fl25 HD HS L b Sh (48 + j * b + 4 * j + r) = if r < gb25 L b j then Sh (j * b + r) else by25 (bsm25 HS j (gb25 L b j) (fun x => Sh (j * b + x))) (r - gb25 L b j) := by
  have e : 48 + j * b + 4 * j + r - 48 = j * (b + 4) + r := by rw [Nat.mul_add]; omega
  have e1 : (j * (b + 4) + r) / (b + 4) = j := by
    rw [Nat.add_comm, Nat.add_mul_div_right _ _ (by omega), Nat.div_eq_of_lt hr, Nat.zero_add]
  have e2 : (j * (b + 4) + r) % (b + 4) = r := by
    rw [Nat.add_comm, Nat.add_mul_mod_self_right, Nat.mod_eq_of_lt hr]
  unfold fl25
  rw [if_neg (by omega), e, e1, e2]
theorem fl_head25 {HD : Nat → Nat} {HS L b : Nat} {Sh : Nat → Nat} {c : Nat} (h : c < 48) : fl25 HD HS L b Sh c = HD c := by
  unfold fl25
  rw [if_pos h]
/-- the file behind j blocks. -/
def fp25 (HD : Nat → Nat) (HS L b : Nat) (Sh : Nat → Nat) (j c : Nat) : Nat := if c < en25 L b j then fl25 HD HS L b Sh c else 0
theorem fp_step25 {HD : Nat → Nat} {HS L b : Nat} {Sh : Nat → Nat} {j c : Nat} (hb : 1 ≤ b) (h : j * b < L) :
    pn25 (pl (fp25 HD HS L b Sh j) (48 + j * b + 4 * j) (gb25 L b j) (fun x => Sh (j * b + x))) (48 + j * b + 4 * j + gb25 L b j) 4 (bsm25 HS j (gb25 L b j) (fun x => Sh (j * b + x))) c = fp25 HD HS L b Sh (j + 1) c := by
  have e1 := en_mid25 h
  have e2 := en_next25 hb h
  have hg := gb_le25 L b j
  unfold pn25 pl fp25
  rw [e1, e2]
  by_cases h1 : c < 48 + j * b + 4 * j
  · rw [if_neg (by omega), if_neg (by omega), if_pos h1, if_pos (by omega)]
  · obtain ⟨r, rfl⟩ : ∃ r, c = 48 + j * b + 4 * j + r := ⟨c - (48 + j * b + 4 * j), by omega⟩
    by_cases h2 : r < gb25 L b j
    · rw [if_neg (by omega), if_pos (by omega), if_pos (by omega), fl_in25 (by omega), if_pos h2]
      congr 1
      omega
    · by_cases h3 : r < gb25 L b j + 4
      · rw [if_pos (by omega), if_pos (by omega), fl_in25 (by omega), if_neg h2]
        congr 1
        omega
      · rw [if_neg (by omega), if_neg (by omega), if_neg h1, if_neg (by omega)]
theorem fp_last25 {HD : Nat → Nat} {HS L b : Nat} {Sh : Nat → Nat} {c : Nat} (hb : 1 ≤ b) (h : c < 48 + L + 4 * nb25 L b) : fp25 HD HS L b Sh (nb25 L b) c = fl25 HD HS L b Sh c := by
  unfold fp25
  rw [en_last25 hb, if_pos h]
/-- the head's own sum is read. -/
theorem hs_put25 (F : Nat → Nat) {x : Nat} (hx : x < 4294967296) : hs25 (pn25 F 44 4 x) = x := by
  unfold hs25
  rw [le_congr25 (G := by25 x) (fun i hi => by unfold pn25; rw [if_pos (by omega), Nat.add_sub_cancel_left]), le_by25]
  exact Nat.mod_eq_of_lt hx
theorem hs_congr25 {F G : Nat → Nat} (h : ∀ c, c < 48 → F c = G c) : hs25 F = hs25 G := le_congr25 (fun i hi => h _ (by omega))
end Go.Proofs.YtehbiccpbopkfaaDoor
namespace Go.Proofs.YtehbiccpbopkfaaDoor
open Go.RowKit Gf2
set_option linter.unusedVariables false

-- layer 25: Pack
theorem hp_out25 {F : Nat → Nat} {f k m i s l b st c : Nat} (h : 40 ≤ c) : hp25 F f k m i s l b st c = F c := by
  unfold hp25 pn25 pm25
  rw [if_neg (by omega), if_neg (by omega), if_neg (by omega), if_neg (by omega), if_neg (by omega), if_neg (by omega), if_neg (by omega)]
  show (if c = 5 then f else if c < 5 then mg25 c else F c) = F c
  rw [if_neg (by omega), if_neg (by omega)]
/-- the head's own sum, the head's bytes. -/
def hsm25 (f k m i s l b st : Nat) : Nat := nt (fol25 (nt 0) (hp25 (fun _ => 0) f k m i s l b st) 44)
def hdb25 (f k m i s l b st : Nat) : Nat → Nat := pn25 (hp25 (fun _ => 0) f k m i s l b st) 44 4 (hsm25 f k m i s l b st)
theorem hp_lt25 {f k m i s l b st : Nat} (hf : f < 256) (c : Nat) : hp25 (fun _ => 0) f k m i s l b st c < 256 := by
  unfold hp25 pn25 pm25
  have h0 : (if c = 5 then f else if c < 5 then mg25 c else 0) < 256 := by
    split
    · exact hf
    · split
      · exact mg_lt25 _ (by assumption)
      · omega
  repeat' split
  all_goals first | exact by_lt25 _ _ | exact h0
theorem hsm_lt25 {f k m i s l b st : Nat} (hf : f < 256) : hsm25 f k m i s l b st < 4294967296 := nt_lt (fol_lt (nt_lt (by decide)) 44 (fun j _ => hp_lt25 hf j))
/-- a head in its box, a file in block g. -/
structure Pk25 (w X : World) (g N : Nat) (F : Nat → Nat) (f k m i s l b : Int) (st : Nat) : Prop where
  bel : Below w.heap.size w X
  blk : X.heap[w.heap.size]? = some (.cells (hc25 f k m i s l b st) 38 (0, 0))
  lt : w.heap.size < g
  rw : Rw X g N F
section
variable {w X X' : World} {g N : Nat} {F F' : Nat → Nat} {f k m i s l b : Int} {st : Nat}
theorem Pk25.szl (h : Pk25 w X g N F f k m i s l b st) : w.heap.size < X.heap.size := (Array.getElem?_eq_some_iff.1 h.blk).1
theorem Pk25.below (h : Pk25 w X g N F f k m i s l b st) (hb : Below X.heap.size X X') : Pk25 w X' g N F f k m i s l b st :=
  ⟨h.bel.trans (hb.mono h.bel.size), (hb.block _ h.szl).trans h.blk, h.lt, h.rw.of_block (hb.block _ h.rw.lt)⟩
theorem Pk25.kp (h : Pk25 w X g N F f k m i s l b st) (hk : Kp g X X') (hr : Rw X' g N F') : Pk25 w X' g N F' f k m i s l b st :=
  ⟨h.bel.trans (hk.below (Nat.le_of_lt h.lt) h.bel.size), (hk.2 _ h.szl (Nat.ne_of_lt h.lt)).trans h.blk, h.lt, hr⟩
theorem Pk25.only (h : Pk25 w X g N F f k m i s l b st) (ho : Only g X X') (hr : Rw X' g N F') : Pk25 w X' g N F' f k m i s l b st := h.kp ho.kp hr
theorem Pk25.congr (h : Pk25 w X g N F f k m i s l b st) (e : ∀ c, c < N → F c = F' c) : Pk25 w X g N F' f k m i s l b st := ⟨h.bel, h.blk, h.lt, h.rw.congr e⟩
end
theorem hcells25 {X : World} {bx : Nat} {f k m i s l b : Int} {st : Nat} (h : X.heap[bx]? = some (.cells (hc25 f k m i s l b st) 38 (0, 0))) :
    X.cell? ⟨bx, 0, none⟩ = some (.int .i64 f) ∧ X.cell? ⟨bx, 1, none⟩ = some (.int .i64 k) ∧ X.cell? ⟨bx, 2, none⟩ = some (.int .i64 m) ∧ X.cell? ⟨bx, 3, none⟩ = some (.int .i64 i) ∧ X.cell? ⟨bx, 4, none⟩ = some (.int .i64 s) ∧ X.cell? ⟨bx, 5, none⟩ = some (.int .i64 l) ∧ X.cell? ⟨bx, 6, none⟩ = some (.int .i64 b) ∧ X.cell? ⟨bx, 7, none⟩ = some (.int .u64 (st : Int)) :=
  ⟨by rw [cell_of_row _ _ 0 _ _ _ h]; rfl, by rw [cell_of_row _ _ 1 _ _ _ h]; rfl, by rw [cell_of_row _ _ 2 _ _ _ h]; rfl, by rw [cell_of_row _ _ 3 _ _ _ h]; rfl, by rw [cell_of_row _ _ 4 _ _ _ h]; rfl, by rw [cell_of_row _ _ 5 _ _ _ h]; rfl, by rw [cell_of_row _ _ 6 _ _ _ h]; rfl, by rw [cell_of_row _ _ 7 _ _ _ h]; rfl⟩
theorem fp_head25 {HD : Nat → Nat} {HS L b : Nat} {Sh : Nat → Nat} {j c : Nat} (h : c < 48) : fp25 HD HS L b Sh j c = HD c := by
  unfold fp25
  have h2 : 48 ≤ en25 L b j := by unfold en25; omega
  rw [if_pos (by omega), fl_head25 h]
theorem blockSum_pk25 {w X : World} {g N : Nat} {f k m i s l0 b0 : Int} {st : Nat} {HD : Nat → Nat} {HS L b : Nat} {Sh : Nat → Nat} {j t q x : Nat} (P : Pk25 w X g N (pl (fp25 HD HS L b Sh j) t q (fun c => Sh (x + c))) f k m i s l0 b0 st)
    (hT : Fsh w) (ht : 48 ≤ t) (htq : t + q ≤ N) (hHS : hs25 HD = HS) (hj : j ≤ 1048576) (hN : N ≤ big) :
    Calls Tryd.prog 24 #[.slice (some ⟨g, 0, none⟩) N N, .int .i64 (j : Int), .slice (some ⟨g, t, none⟩) q (N - t)] X fun e w' => e = .returned (.int .u32 ((bsm25 HS j q (fun c => Sh (x + c)) : Nat) : Int)) ∧ Below X.heap.size X w' := by
  have c := blockSum25 _ _ N q j _ (fun c => Sh (x + c)) X P.rw.rb0 ((P.rw.rb (o := t) (n := q) (cap := N - t) htq (by omega) (by omega)).congr (fun c hc => pl_in hc)) (hT.below P.bel) (by omega) hj
  rw [hs_congr25 (G := HD) (fun c hc => by rw [pl_out (.inl (by omega)), fp_head25 hc]), hHS] at c
  exact c
theorem fp_first25 {f k m i s l b st HS L B : Nat} {Sh : Nat → Nat} {c : Nat} : hdb25 f k m i s l b st c = fp25 (hdb25 f k m i s l b st) HS L B Sh 0 c := by
  unfold fp25
  rw [en_first25]
  by_cases h : c < 48
  · rw [if_pos h, fl_head25 h]
  · rw [if_neg h]
    unfold hdb25 pn25
    rw [if_neg (by omega), hp_out25 (by omega)]
set_option maxHeartbeats 8000000 in
set_option maxRecDepth 100000 in
theorem pack25_yes (f k m i s l b st : Nat) (v : Value) (Sh : Nat → Nat) (w : World) (h : Gh25 f k m i s l b) (hst : st < 18446744073709551616) (hv : Rb w v l Sh) (hT : Fsh w) :
    Calls Tryd.prog 7 #[hd25 f k m i s l b st, v] w fun e w' => ∃ g, e = .returned (.tuple #[.slice (some ⟨g, 0, none⟩) (48 + l + 4 * nb25 l b) (48 + l + 4 * nb25 l b), .int .i64 0]) ∧ Below w.heap.size w w' ∧ w.heap.size < g ∧ Rw w' g (48 + l + 4 * nb25 l b) (fl25 (hdb25 f k m i s l b st) (hsm25 f k m i s l b st) l b Sh) := by
  have hv1 := h.pv
  have hf : f < 256 := by have := hv1.fam; omega
  have hb1 : 1 ≤ b := by have := h.blk.1; omega
  have hb2 : b ≤ 1048576 := by have := h.blk.2.1; omega
  have hl2 := h.l2
  have hcn := h.cnt
  have hk9 := hv1.hk
  have hm9 := hv1.hm
  have hs9 := hv1.sum
  have hl1 : 1 ≤ l := by
    have h1 := ln16_ge (f : Int) (k := k) (n := s) (by omega)
    rw [← h.len] at h1
    rcases Nat.eq_zero_or_pos l with e | e
    · rw [e, Nat.mul_zero] at h1
      have := h.s1
      omega
    · exact e
  obtain ⟨hnb, hF, va, cs, rfl, hc1, hc2, h4⟩ := id hv
  obtain ⟨bs, os, rfl, hbl, hcc⟩ := h4 hl1
  obtain ⟨X0, hX0⟩ : ∃ X0, w.alloc (.cells (hc25 f k m i s l b st) 38) = X0 := ⟨_, rfl⟩
  have b0 : Below w.heap.size w X0 := by rw [← hX0]; exact (Below.refl _ _).alloc (Nat.le_refl _) _
  have k0 : X0.heap[w.heap.size]? = some (.cells (hc25 f k m i s l b st) 38 (0, 0)) := by rw [← hX0]; exact heap_alloc_new _ _
  have c1 : Hid (∀ W, Calls Tryd.prog 12 #[hd25 f k m i s l b st] W fun e w' => e = .returned (.int .i64 0) ∧ Below W.heap.size W w') := fun W => check25_yes f k m i s l b st W h
  have c2 : Hid (∀ W, Calls Tryd.prog 18 #[hd25 f k m i s l b st] W fun e w' => e = .returned (.int .i64 ((48 + l + 4 * nb25 l b : Nat) : Int)) ∧ Below W.heap.size W w') := fun W => whole25 f k m i s l b st W (by omega) hb1 hb2
  have c3 : Hid (∀ W, Calls Tryd.prog 20 #[hd25 f k m i s l b st] W fun e w' => e = .returned (.int .i64 ((nb25 l b : Nat) : Int)) ∧ Below W.heap.size W w') := fun W => blocksOf25 f k m i s l b st W (by omega) hb1 hb2
  have iA : (Tryd.prog.info? 38).map (·.size) = some (hc25 f k m i s l b st).size := by unfold hc25; kernel_rfl
  have D1 : (((l : Nat) : Int) != ((l : Nat) : Int)) = false := by simp
  have D2 : (((l : Nat) : Int) == ((l : Nat) : Int)) = true := by simp
  obtain ⟨nb, hnb9⟩ : ∃ nb, Hid (nb25 l b = nb) := ⟨_, rfl⟩
  rw [hnb9.out] at c2 c3 hcn ⊢
  obtain ⟨N, hN⟩ : ∃ N, Hid (48 + l + 4 * nb = N) := ⟨_, rfl⟩
  rw [hN.out] at c2 ⊢
  have hN2 : N ≤ 67371056 := by have := hN.out; omega
  have hmk : ∀ w, (Instr.makeSlice 27 (.int .i64 (N : Int)) (.int .i64 (N : Int))).run Tryd.prog w = .ok (.slice (some ⟨w.heap.size, 0, none⟩) N N) (w.alloc (.cells (madeCells #[.int .u8 0] N) 5)) := fun w => make_u8 N (by omega) w
  obtain ⟨HD, hHD⟩ : ∃ HD, Hid (hdb25 f k m i s l b st = HD) := ⟨_, rfl⟩
  obtain ⟨HS, hHS⟩ : ∃ HS, Hid (hsm25 f k m i s l b st = HS) := ⟨_, rfl⟩
  have lHS : HS < 4294967296 := by rw [← hHS.out]; exact hsm_lt25 hf
  rw [hHD.out, hHS.out]
  have hH : ∀ g X, Pk25 w X g N (fun _ => 0) f k m i s l b st → Calls Tryd.prog 19 #[.slice (some ⟨g, 0, none⟩) N N, hd25 f k m i s l b st] X fun e w' => e = .returned (.tuple #[]) ∧ Pk25 w w' g N (fp25 HD HS l b Sh 0) f k m i s l b st := fun g X hP => by
    have q := putHead25 g N (fun _ => 0) f k m i s l b st X hP.rw (by have := hN.out; omega) (hT.below hP.bel) hf (by omega) (by omega) (by have := h.idx; omega) (by have := h.s2; omega) (by omega) (by omega) hst (by
      obtain ⟨t1, f1, h1⟩ := hT
      have := (Array.getElem?_eq_some_iff.1 h1).1
      have := hP.lt
      omega)
    refine q.mono ?_
    rintro e w' ⟨rfl, hk, hr⟩
    refine ⟨rfl, (hP.kp hk hr).congr (fun c _ => ?_)⟩
    show hdb25 f k m i s l b st c = _
    rw [← hHD.out]
    exact fp_first25
  have hHH : Hid (∀ g X, Pk25 w X g N (fun _ => 0) f k m i s l b st → Calls Tryd.prog 19 #[.slice (some ⟨g, 0, none⟩) N N, hd25 f k m i s l b st] X fun e w' => e = .returned (.tuple #[]) ∧ Pk25 w w' g N (fp25 HD HS l b Sh 0) f k m i s l b st) := hH
  have HH : Hid (1 ≤ b ∧ b ≤ 1048576 ∧ l ≤ 67108864 ∧ nb ≤ 65536 ∧ HS < 4294967296 ∧ Fsh w ∧ Rb w (.slice (some ⟨bs, os, none⟩) l cs) l Sh ∧ l ≤ cs ∧ Below w.heap.size w X0 ∧ bs < w.heap.size ∧ w.heap.size < X0.heap.size ∧ N ≤ 67371056) := ⟨hb1, hb2, hl2, hcn, lHS, hT, hv, hc1, b0, hbl, (Array.getElem?_eq_some_iff.1 k0).1, hN2⟩
  have HC : Hid (∀ i, i < l → Sh i < 256) := hF
  have HF2 : Hid (f < 256) := hf
  subst hX0
  clear hH
  clear h hv1 hf hb1 hb2 hl2 hcn hk9 hm9 hs9 hl1 hnb hF hc1 hc2 h4 hbl hcc lHS hN2 hst hv hT
  unfold hd25 at *
  unfold hc25 at *
  go_enter Tryd.func7, Tryd.ntmps7
  go_wp2_with (first
    | (go_at_call 12; (with_reducible refine (c1.out _).mono ?_); rintro e w1 ⟨rfl, hb⟩; clear c1; have k1 := (hb.block _ HH.out.2.2.2.2.2.2.2.2.2.2.1).trans k0; have b1 := HH.out.2.2.2.2.2.2.2.2.1.trans (hb.mono (Nat.le_of_lt HH.out.2.2.2.2.2.2.2.2.2.2.1)); clear hb k0; obtain ⟨q0, q1, q2, q3, q4, q5, q6, q7⟩ := hcells25 k1)
    | (go_at_call 18; (with_reducible refine (c2.out _).mono ?_); rintro e w2 ⟨rfl, hb⟩; clear c2 q0 q1 q2 q3 q4 q5 q6 q7; have k2 := (hb.block _ (Array.getElem?_eq_some_iff.1 k1).1).trans k1; have b2 := b1.trans (hb.mono b1.size); clear hb k1 b1;
       have P3 : Pk25 w (w2.alloc (.cells (madeCells #[.int .u8 0] N) 5)) w2.heap.size N (fun _ => 0) f k m i s l b st := ⟨b2.trans ((Below.refl _ _).alloc b2.size _), (((Below.refl w2.heap.size w2).alloc (Nat.le_refl _) _).block _ (Array.getElem?_eq_some_iff.1 k2).1).trans k2, (Array.getElem?_eq_some_iff.1 k2).1, made_rw N (by have := HH.out; omega) w2⟩;
       obtain ⟨q0, q1, q2, q3, q4, q5, q6, q7⟩ := hcells25 P3.blk)
    | (go_at_call 19; (with_reducible refine (hHH.out _ _ P3).mono ?_); rintro e w4 ⟨rfl, P4⟩; clear hHH P3 k2 b2 q0 q1 q2 q3 q4 q5 q6 q7; obtain ⟨q0, q1, q2, q3, q4, q5, q6, q7⟩ := hcells25 P4.blk; obtain ⟨g, hg⟩ : ∃ g, w2.heap.size = g := ⟨_, rfl⟩; rw [hg] at P4 ⊢; clear hg)
    | (go_at_call 20; (with_reducible refine (c3.out _).mono ?_); rintro e w5 ⟨rfl, hb⟩; clear c3 q0 q1 q2 q3 q4 q5 q6 q7; have P5 := P4.below hb; clear hb P4))
  clear hmk b0
  go_loopw [32] (fun sv wr => ∃ j : Nat, j ≤ nb ∧ sv = .int .i64 ((j : Nat) : Int) ∧ Pk25 w wr g N (fp25 HD HS l b Sh j) f k m i s l b st) (fun sv _ => nb - (intOf sv).toNat)
  case atStart => exact ⟨0, Nat.zero_le _, rfl, P5⟩
  case round =>
    clear P5
    obtain ⟨j, hj, rfl, P⟩ := hrel
    by_cases hjn : j < nb
    · have ib : ((j : Nat) : Int) < (nb : Int) := Int.ofNat_lt.2 hjn
      have hjl : j * b < l := (nb_lt25 HH.out.1).1 (by rw [hnb9.out]; exact hjn)
      have hj2 : j ≤ 1048576 := by have := HH.out; omega
      have HB : Hid (∀ W, Calls Tryd.prog 21 #[hd25 f k m i s l b st, .int .i64 (j : Int)] W fun e w' => e = .returned (.tuple #[.int .i64 ((j * b : Nat) : Int), .int .i64 ((Nat.min (j * b + b) l : Nat) : Int)]) ∧ Below W.heap.size W w') := fun W => bounds25 f k m i s l b st j W (by have := HH.out; omega) HH.out.2.1 hj2
      have hnl : 48 + j * b + 4 * j + gb25 l b j + 4 ≤ N := by
        have h1 := en_next25 HH.out.1 hjl
        have h2 : en25 l b (j + 1) ≤ 48 + l + 4 * nb := by
          unfold en25
          have : Nat.min ((j + 1) * b) l ≤ l := Nat.min_le_right _ _
          omega
        have := hN.out
        omega
      have hyx := gb_pos25 HH.out.1 hjl
      have HE : Hid (∀ W, Calls Tryd.prog 22 #[.slice (some ⟨g, 0, none⟩) N N, hd25 f k m i s l b st, .int .i64 (j : Int)] W fun e w' => e = .returned (.tuple #[.slice (some ⟨g, 48 + j * b + 4 * j, none⟩) (gb25 l b j) (N - (48 + j * b + 4 * j)), .slice (some ⟨g, 48 + j * b + 4 * j + gb25 l b j, none⟩) 4 (N - (48 + j * b + 4 * j + gb25 l b j)), .bool true]) ∧ Below W.heap.size W w') := fun W => by
        have c := held25_yes g 0 N N f k m i s l b st j _ W (by have := HH.out; omega) HH.out.2.1 hj2 rfl hyx (by unfold gb25 at hnl; omega) (Nat.le_refl _)
        have e : 48 + 4 * j + Nat.min (j * b + b) l = 48 + j * b + 4 * j + gb25 l b j := by unfold gb25; omega
        rw [Nat.zero_add, Nat.zero_add, e] at c
        exact c
      have hHSD : hs25 HD = HS := by rw [← hHD.out, ← hHS.out]; exact hs_put25 _ (hsm_lt25 HF2.out)
      have hS : ∀ c, c < gb25 l b j → Sh (j * b + c) < 256 := fun c hc => HC.out _ (by unfold gb25 at hc; have : Nat.min (j * b + b) l ≤ l := Nat.min_le_right _ _; omega)
      have hyl : Nat.min (j * b + b) l ≤ l := Nat.min_le_right _ _
      have HC1 : Hid (∀ W, (Instr.slice 27 (.slice (some ⟨bs, os, none⟩) l cs) (some (.int .i64 ((j * b : Nat) : Int))) (some (.int .i64 ((Nat.min (j * b + b) l : Nat) : Int))) none).run Tryd.prog W = .ok (.slice (some ⟨bs, os + j * b, none⟩) (gb25 l b j) (cs - j * b)) W) := fun W =>
        cut25 bs os l cs (j * b) _ hyx (by have := HH.out; omega) W
      have H2 : Hid (∀ X, Pk25 w X g N (fp25 HD HS l b Sh j) f k m i s l b st → ∃ w8, (Builtin.copy_ #[27, 27] 3 #[.slice (some ⟨g, 48 + j * b + 4 * j, none⟩) (gb25 l b j) (N - (48 + j * b + 4 * j)), .slice (some ⟨bs, os + j * b, none⟩) (gb25 l b j) (cs - j * b)]).run Tryd.prog X = .ok (goInt (gb25 l b j)) w8 ∧ Pk25 w w8 g N (pl (fp25 HD HS l b Sh j) (48 + j * b + 4 * j) (gb25 l b j) (fun c => Sh (j * b + c))) f k m i s l b st) := fun X hP => by
        obtain ⟨w8, h1, h2, h3⟩ := copy8_min X (g := g) (o := 48 + j * b + 4 * j) (N := N) (dl := gb25 l b j) (cap := N - (48 + j * b + 4 * j)) hP.rw (a := some ⟨bs, os + j * b, none⟩) (m := gb25 l b j) (n := gb25 l b j) (cap' := cs - j * b) (S := fun c => Sh (j * b + c)) hS (fun _ => ⟨bs, os + j * b, rfl, fun c hc => by
          obtain ⟨-, -, a9, c9, e9, -, -, h9⟩ := HH.out.2.2.2.2.2.2.1.below hP.bel
          cases e9
          obtain ⟨b8, o8, e8, -, h8⟩ := h9 (by omega)
          cases e8
          rw [Nat.add_assoc]
          exact h8 _ (by unfold gb25 at hc; omega)⟩) (by omega) (Nat.le_refl _) (Nat.le_refl _) (Nat.min_self _)
        exact ⟨w8, h1, hP.only h3 h2⟩
      have H3 : Hid (∀ X, Pk25 w X g N (pl (fp25 HD HS l b Sh j) (48 + j * b + 4 * j) (gb25 l b j) (fun c => Sh (j * b + c))) f k m i s l b st → Calls Tryd.prog 24 #[.slice (some ⟨g, 0, none⟩) N N, .int .i64 (j : Int), .slice (some ⟨g, 48 + j * b + 4 * j, none⟩) (gb25 l b j) (N - (48 + j * b + 4 * j))] X fun e w' => e = .returned (.int .u32 ((bsm25 HS j (gb25 l b j) (fun c => Sh (j * b + c)) : Nat) : Int)) ∧ Below X.heap.size X w') := fun X hP =>
        blockSum_pk25 hP HH.out.2.2.2.2.2.1 (by omega) (by omega) hHSD hj2 (by have := HH.out; unfold big; omega)
      have lB : bsm25 HS j (gb25 l b j) (fun c => Sh (j * b + c)) < 4294967296 := bsm_lt25 HH.out.2.2.2.2.1 hS
      have H4 : Hid (∀ X, Pk25 w X g N (pl (fp25 HD HS l b Sh j) (48 + j * b + 4 * j) (gb25 l b j) (fun c => Sh (j * b + c))) f k m i s l b st → Calls Tryd.prog 23 #[.slice (some ⟨g, 48 + j * b + 4 * j + gb25 l b j, none⟩) 4 (N - (48 + j * b + 4 * j + gb25 l b j)), .int .u64 ((bsm25 HS j (gb25 l b j) (fun c => Sh (j * b + c)) : Nat) : Int)] X fun e w' => e = .returned (.tuple #[]) ∧ Pk25 w w' g N (fp25 HD HS l b Sh (j + 1)) f k m i s l b st) := fun X hP => by
        refine (put25 g (48 + j * b + 4 * j + gb25 l b j) N 4 _ _ _ X hP.rw (by omega) (by omega) (by omega)).mono ?_
        rintro e w' ⟨rfl, ho, hr⟩
        exact ⟨rfl, (hP.only ho hr).congr (fun c _ => fp_step25 HH.out.1 hjl)⟩
      have U1 : IntKind.u64.wrap ((bsm25 HS j (gb25 l b j) (fun c => Sh (j * b + c)) : Nat) : Int) = ((bsm25 HS j (gb25 l b j) (fun c => Sh (j * b + c)) : Nat) : Int) := by rw [IntKind.wrap_u64]; omega
      have HW : Hid (wrap64 (((j : Nat) : Int) + 1) = ((j : Nat) : Int) + 1 ∧ j < nb) := ⟨wrap_succ8 (j := j) (by unfold big; omega), hjn⟩
      obtain ⟨q0, q1, q2, q3, q4, q5, q6, q7⟩ := hcells25 P.blk
      unfold hd25 at HB HE
      generalize bsm25 HS j (gb25 l b j) (fun c => Sh (j * b + c)) = bs9 at H3 H4 U1
      generalize 48 + j * b + 4 * j + gb25 l b j = z at HE H4
      generalize 48 + j * b + 4 * j = t at HE H2 H3 H4
      generalize Nat.min (j * b + b) l = y at HB HC1
      generalize gb25 l b j = q at HE HC1 H2 H3 H4
      generalize j * b = x at HB HE HC1 H2 H3 H4
      have C1 := HC1.out
      have HHP : Hid (Pk25 w wr g N (fp25 HD HS l b Sh j) f k m i s l b st) := P
      clear HC1 P hj hjn hjl hj2 hnl hyx hHSD hS hyl lB D1 D2 iA
      go_wp2_with (first
        | (go_at_call 21; (with_reducible refine (HB.out _).mono ?_); rintro e w6 ⟨rfl, hb⟩; clear HB q0 q1 q2 q3 q4 q5 q6 q7; have P6 := HHP.out.below hb; clear hb HHP; obtain ⟨q0, q1, q2, q3, q4, q5, q6, q7⟩ := hcells25 P6.blk)
        | (go_at_call 22; (with_reducible refine (HE.out _).mono ?_); rintro e w7 ⟨rfl, hb⟩; clear HE q0 q1 q2 q3 q4 q5 q6 q7; have P7 := P6.below hb; clear hb P6; obtain ⟨w8, hcp, P8⟩ := H2.out _ P7; clear H2)
        | (go_at_call 24; (with_reducible refine (H3.out _ P8).mono ?_); rintro e w9 ⟨rfl, hb⟩; clear H3 hcp C1 P7; have P9 := P8.below hb; clear hb P8)
        | (go_at_call 23; (with_reducible refine (H4.out _ P9).mono ?_); rintro e w10 ⟨rfl, P10⟩; clear H4 P9))
      have W3 := HW.out.1
      go_wp2
      go_roundw
      case rel => exact ⟨j + 1, HW.out.2, by first | rfl | (rw [W3]; rfl), P10⟩
      case measure => first | exact meas_lt8 HW.out.2 | (rw [W3]; exact meas_lt8 HW.out.2)
    · have hin2 : j = nb := by omega
      have ib : ¬ ((j : Nat) : Int) < (nb : Int) := by omega
      have D9 : decide (((j : Nat) : Int) < (nb : Int)) = false := decide_eq_false ib
      have HF : Hid (Below w.heap.size w wr ∧ w.heap.size < g ∧ Rw wr g N (fl25 HD HS l b Sh)) := ⟨P.bel, P.lt, P.rw.congr (fun c hc => by
        rw [hin2, ← hnb9.out]
        exact fp_last25 HH.out.1 (by have := hN.out; rw [hnb9.out]; omega))⟩
      clear P hj hin2 hjn
      go_wp2
      go_ret2
      exact ⟨g, rfl, HF.out⟩
end Go.Proofs.YtehbiccpbopkfaaDoor
namespace Go.Proofs.YtehbiccpbopkfaaDoor
open Go.RowKit Gf2
set_option linter.unusedVariables false

-- layer 25: Pack's refusals
set_option maxHeartbeats 4000000 in
set_option maxRecDepth 100000 in
theorem pack25_head (f k m i s l b : Int) (st : Nat) (v : Value) (w : World) (hk : I64 k) (h : ¬ gd25 f k m i s l b) :
    Calls Tryd.prog 7 #[hd25 f k m i s l b st, v] w fun e w' => e = .returned (.tuple #[.slice none 0 0, .int .i64 251]) ∧ Below w.heap.size w w' := by
  have B0 : Bh25 w _ f k m i s l b st := Bh25.new
  have H0 : Hid (Below w.heap.size w (w.alloc (.cells (hc25 f k m i s l b st) 38))) := B0.bel
  have c1 : Hid (∀ W, Calls Tryd.prog 12 #[hd25 f k m i s l b st] W fun e w' => e = .returned (.int .i64 251) ∧ Below W.heap.size W w') := fun W => check25_no f k m i s l b st W hk h
  unfold hd25 at c1 ⊢
  unfold hc25 at B0 H0
  clear h hk
  go_enter Tryd.func7, Tryd.ntmps7
  go_wp2_with (go_at_call 12; (with_reducible refine (c1.out _).mono ?_); rintro e w9 ⟨rfl, hw9⟩; clear c1)
  go_ret2
  exact ⟨rfl, (B0.below hw9).bel⟩
set_option maxHeartbeats 4000000 in
set_option maxRecDepth 100000 in
theorem pack25_lens (f k m i s l b st : Nat) (a : Option Addr) (n cap : Nat) (w : World) (h : Gh25 f k m i s l b) (hn : n ≠ l) :
    Calls Tryd.prog 7 #[hd25 f k m i s l b st, .slice a n cap] w fun e w' => e = .returned (.tuple #[.slice none 0 0, .int .i64 6]) ∧ Below w.heap.size w w' := by
  have B0 : Bh25 w _ f k m i s l b st := Bh25.new
  have c1 : Hid (∀ W, Calls Tryd.prog 12 #[hd25 f k m i s l b st] W fun e w' => e = .returned (.int .i64 0) ∧ Below W.heap.size W w') := fun W => check25_yes f k m i s l b st W h
  unfold hd25 at c1 ⊢
  unfold hc25 at B0
  have D1 : (((n : Nat) : Int) != ((l : Nat) : Int)) = true := by simp; omega
  have D2 : (((n : Nat) : Int) == ((l : Nat) : Int)) = false := by simp; omega
  have D3 : (n == l) = false := by simpa using hn
  have D4 : (n != l) = true := by simpa using hn
  clear h hn
  go_enter Tryd.func7, Tryd.ntmps7
  go_wp2_with (go_at_call 12; (with_reducible refine (c1.out _).mono ?_); rintro e w9 ⟨rfl, hw9⟩; clear c1; have q5 := (B0.below hw9).c5)
  go_ret2
  exact ⟨rfl, (B0.below hw9).bel⟩
end Go.Proofs.YtehbiccpbopkfaaDoor
