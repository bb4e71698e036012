import Derived.Test.YtdolghlphmjcdabKdb
namespace Go.Proofs.Ytdolghlphmjcdab
open Go.RowKit Gf2
set_option linter.unusedVariables false

-- layer 9: KernelDots: Xor, Mul, four new rows
theorem ks_two (R T : Nat → Nat) (S : Nat → Nat → Nat) (j : Nat) : ∀ k, ks (fun i => R i ^^^ T i) S k j = ks T S k j ^^^ ks R S k j
  | 0 => by show (0 : Nat) = 0 ^^^ 0; simp
  | k + 1 => by
    show ks (fun i => R i ^^^ T i) S k j ^^^ fm 285 (R k ^^^ T k) (S k j) = (ks T S k j ^^^ fm 285 (T k) (S k j)) ^^^ (ks R S k j ^^^ fm 285 (R k) (S k j))
    rw [ks_two R T S j k, fld8.xor_fm]
    generalize ks T S k j = a
    generalize ks R S k j = b
    generalize fm 285 (R k) (S k j) = c
    generalize fm 285 (T k) (S k j) = d
    rw [Nat.xor_assoc, Nat.xor_assoc]
    congr 1
    rw [← Nat.xor_assoc, ← Nat.xor_assoc, Nat.xor_comm (b ^^^ c) d, Nat.xor_assoc]
theorem xor9_ok {w : World} {g n : Nat} {D S : Nat → Nat} {v : Value} (hR : Rw w g n D) (hv : Re (fun x => x = g) w v n S) :
    Calls Try.prog 12 #[.slice (some ⟨g, 0, none⟩) n n, v] w fun e w' => e = .returned (.int .i64 0) ∧ Kp g w w' ∧ Rw w' g n (fun j => S j ^^^ D j) :=
  (rw_xor9 hR hv).mono fun e w' ⟨he, h1, h2⟩ => ⟨by rw [he]; unfold er9; rw [if_pos rfl]; rfl, h1, h2.congr (fun j hj => by unfold vl9; rw [if_pos rfl])⟩
theorem mul9_ok {w : World} {g n c : Nat} {D S : Nat → Nat} {v : Value} {p : Addr} {bk klo khi : Nat} (hR : Rw w g n D) (hv : Re (fun x => x = g) w v n S) (hk : Ks w p bk klo khi) (hkl : khi ≤ g) (hc : c < 256) :
    Calls Try.prog 18 #[.pointer (some p), .int .u8 (c : Int), .slice (some ⟨g, 0, none⟩) n n, v] w fun e w' => e = .returned (.int .i64 0) ∧ Kp g w w' ∧ Rw w' g n (fun j => fm 285 c (S j)) :=
  (rw_mul9 hR hv hk (.inr hkl) hc).mono fun e w' ⟨he, h1, h2⟩ => ⟨by rw [he]; unfold er9; rw [if_pos rfl]; rfl, h1, h2.congr (fun j hj => by unfold vl9; rw [if_pos rfl])⟩
theorem made9 (n : Nat) (hn : n ≤ 140737488355328) (w : World) : Rw (w.alloc (.cells (madeCells #[.int .u8 0] n) 5)) w.heap.size n (fun _ => 0) :=
  ⟨by unfold big; omega, fun _ _ => Nat.zero_lt_succ 255, (World.rowIs_made w (.int .u8 0) n 5).congr (fun i hi => rfl)⟩
/-- four new rows. -/
def w4_9 (w : World) (n : Nat) : World := ((((w.alloc (.cells (madeCells #[.int .u8 0] n) 5)).alloc (.cells (madeCells #[.int .u8 0] n) 5)).alloc (.cells (madeCells #[.int .u8 0] n) 5)).alloc (.cells (madeCells #[.int .u8 0] n) 5)).drew
theorem four9 (n : Nat) (hn : n ≤ 140737488355328) (w : World) : Below w.heap.size w (w4_9 w n) ∧ Rw (w4_9 w n) w.heap.size n (fun _ => 0) ∧ Rw (w4_9 w n) (w.heap.size + 1) n (fun _ => 0) ∧ Rw (w4_9 w n) (w.heap.size + 1 + 1) n (fun _ => 0) ∧ Rw (w4_9 w n) (w.heap.size + 1 + 1 + 1) n (fun _ => 0) := by
  obtain ⟨o, ho⟩ : ∃ o, o = Obj.cells (madeCells #[.int .u8 0] n) 5 := ⟨_, rfl⟩
  have m1 := made9 n hn w
  have m2 := made9 n hn (w.alloc o)
  have m3 := made9 n hn ((w.alloc o).alloc o)
  have m4 := made9 n hn (((w.alloc o).alloc o).alloc o)
  unfold w4_9
  rw [← ho] at m1 m2 m3 m4 ⊢
  have s1 : (w.alloc o).heap.size = w.heap.size + 1 := by simp
  have s2 : ((w.alloc o).alloc o).heap.size = w.heap.size + 1 + 1 := by simp
  have s3 : (((w.alloc o).alloc o).alloc o).heap.size = w.heap.size + 1 + 1 + 1 := by simp
  rw [s1] at m2
  rw [s2] at m3
  rw [s3] at m4
  have b1 := bal9 w o
  have b2 := bal9 (w.alloc o) o
  have b3 := bal9 ((w.alloc o).alloc o) o
  have b4 := bal9 (((w.alloc o).alloc o).alloc o) o
  exact ⟨(bt9 (bt9 (bt9 b1 b2) b3) b4).drew, rw_below m1 (bt9 (bt9 b2 b3) b4).drew, rw_below m2 (bt9 b3 b4).drew, rw_below m3 b4.drew, m4.drew9⟩
theorem dots_end {y0 x x3 : World} {n ga gb gc gd : Nat} {A B C D F : Nat → Nat} (h : Hid (Dx9 y0 x n ga gb gc gd A B C D)) (k : Hid (∃ x2, Below x.heap.size x x2 ∧ Kp gd x2 x3 ∧ Rw x3 gd n F)) : Dx9 y0 x3 n ga gb gc gd A B C F := by
  obtain ⟨x2, b2, k2, r2⟩ := k.out
  exact (h.out.up b2).sd k2 r2
theorem dots_keep {x x3 : World} {n gd g : Nat} {F G : Nat → Nat} (k : Hid (∃ x2, Below x.heap.size x x2 ∧ Kp gd x2 x3 ∧ Rw x3 gd n F)) (h : Rw x g n G) (hne : g ≠ gd) : Rw x3 g n G := by
  obtain ⟨x2, b2, k2, r2⟩ := k.out
  exact (rw_below h b2).kp9 k2 hne
theorem Re_of9 {E : Nat → Prop} {w : World} {g n : Nat} {F : Nat → Nat} (h : Rw w g n F) (hE : ¬ E g) : Re E w (.slice (some ⟨g, 0, none⟩) n n) n F := h.re (Nat.le_refl _) (Nat.le_refl _) h.1 hE
theorem bdrew9 {w x : World} (m : Nat) (h : x = w.drewN m) : Below w.heap.size w x := by rw [h]; exact ⟨rfl, rfl, rfl, Nat.le_refl _, fun _ _ => rfl⟩
theorem cal9 {W : World} {a : Addr} {v : Value} {o : Obj} (h : W.cell? a = some v) : (W.alloc o).cell? a = some v := ((bal9 W o).cell (p := a) (cell_lt5 h)).trans h
end Go.Proofs.Ytdolghlphmjcdab
