import Derived.Test.YtefhlnplegagfabDro5
import Derived.Test.YtefhlnplegagfabEbq
import Derived.Test.YtefhlnplegagfabEbn
import Derived.Test.YtefhlnplegagfabEsi
import Derived.Deep.RegionHeld
namespace Go.Proofs.Ytefhlnplegagfab
open Go.RowKit Gf2
set_option linter.unusedVariables false

theorem ls_of_mk {w : World} {base g cp n : Nat} {B c : Nat → Nat} (h : Mk w base (.slice (some ⟨g, 0, none⟩) n cp) n B c) (hg : g < w.heap.size) : Ls w base g n B :=
  ⟨fun r hr => by rw [h.own.cellAt r (by omega), lst_get B hr], h.inj, fun r hr e => h.ne r hr (by rw [e]; rfl), h.lo, fun r hr => (h.rows r hr).lt, hg⟩
theorem mk_none (w : World) (base : Nat) (c : Nat → Nat) : Mk w base (.slice none 0 0) (3 * 0) (fun _ => 0) c :=
  ⟨⟨rfl, .inl ⟨rfl, rfl⟩⟩, fun r s hr => absurd hr (by omega), fun r hr => absurd hr (by omega), fun r hr => absurd hr (by omega), fun r hr => absurd hr (by omega)⟩

set_option maxHeartbeats 2000000 in
set_option maxRecDepth 100000 in
theorem refRow6_nat (a : Nat) (w : World) (ha : a < 256) :
    Calls Try.prog 8 #[.int .u8 (a : Int)] w fun e w' => e = .returned (.slice (some ⟨w.heap.size, 0, none⟩) 256 256) ∧
      w'.rowIs w.heap.size 5 256 (fun x => .int .u8 (fm 285 a x : Nat)) ∧ Below w.heap.size w w' ∧ w'.heap.size = w.heap.size + 1 := by
  have hmk := run_make_row' (P := Try.prog) 22 5 (.int .u8 0) 1 Try.underlying22 info_u8m rfl .i64 .i64 256 (by decide) (by decide)
  have hmk : ∀ w, (Instr.makeSlice 22 (.int .i64 256) (.int .i64 256)).run Try.prog w = .ok (.slice (some ⟨w.heap.size, 0, none⟩) 256 256) (w.alloc (.cells (madeCells #[.int .u8 0] 256) 5)) := hmk
  go_enter Try.func8, Try.ntmps8
  go_wp2
  go_loopw [4] (fun i wr => ∃ k : Nat, k ≤ 256 ∧ i = .int .i64 k ∧ wr.heap.size = w.heap.size + 1 ∧
      wr.rowIs w.heap.size 5 256 (fun x => .int .u8 (if x < k then (fm 285 a x : Nat) else 0)) ∧ Below w.heap.size w wr) (fun i _ => 256 - (intOf i).toNat)
  case atStart =>
    refine ⟨0, by decide, rfl, by simp, ?_, (Below.refl _ _).alloc (Nat.le_refl _) _⟩
    exact (World.rowIs_made w (.int .u8 0) 256 5).congr (fun i _ => by simp)
  case round =>
    obtain ⟨k, hk, rfl, hsz, hr, hb⟩ := hrel
    by_cases hlt : k < 256
    · have c1 := fun w => refMul_nat a k w ha hlt
      have q := hr.cell hlt
      have f := hr.frozen k
      simp only [Nat.lt_irrefl, if_false] at q
      have HR : Hid (wr.heap.size = w.heap.size + 1 ∧ wr.rowIs w.heap.size 5 256 (fun x => .int .u8 (if x < k then (fm 285 a x : Nat) else 0))) := ⟨hsz, hr⟩
      clear hsz hr
      go_wp2_with (go_at_call 12; ((with_reducible refine (c1 _).mono ?_); rintro e w' ⟨rfl, rfl⟩))
      go_roundw
      case rel =>
        obtain ⟨g0, g1⟩ := HR.out
        refine ⟨k + 1, by omega, by go_num, by simp [g0], ?_, hb.setCell (by simp) _⟩
        refine (World.rowIs.set g1 k _).congr (fun i hi => ?_)
        by_cases e : i = k
        · subst e; simp
        · by_cases e2 : i < k
          · simp [e, e2, show i < k + 1 by omega]
          · simp [e, e2, show ¬ i < k + 1 by omega]
      case measure => simp [intOf]; omega
    · have hk5 : k = 256 := by omega
      subst hk5
      go_wp2
      go_ret
      exact ⟨rfl, hr.congr (fun i hi => by simp [hi]), hb, hsz⟩



/-- append([]byte{3}, x...). -/
theorem app3 (w : World) {x : Option Addr} {n cx : Nat} {S : Nat → Nat} (h : Rb w (.slice x n cx) n S) (hn : n ≤ 40) :
    ∃ w' g C F, (Builtin.append_ #[22, 22] 22 #[.slice (some ⟨w.heap.size, 0, none⟩) 1 1, .slice x n cx]).run Try.prog (w.alloc (.cells #[.int .u8 3] 5)) = .ok (.slice (some ⟨g, 0, none⟩) (1 + n) C) w' ∧
      1 + n ≤ C ∧ w.heap.size ≤ g ∧ Rw w' g C F ∧ Below w.heap.size w w' := by
  obtain ⟨b1, b2, a, c', b3, b5, b6, b4⟩ := h
  cases b3
  have r0 := lit_rw [3] w (by decide) (by decide)
  have hb0 : Below w.heap.size w (w.alloc (.cells #[.int .u8 3] 5)) := (Below.refl _ _).alloc (Nat.le_refl _) _
  obtain ⟨w1, g, C, F, hrun, hC, hR, -, hF, hcase⟩ := app8 (w.alloc (.cells #[.int .u8 3] 5)) (g := w.heap.size) (C := 1) (L := 1) r0 (Nat.le_refl _) (x := x) (n := n) (cx := cx) (S := S) b2 (fun h0 => by
    obtain ⟨b, o, e, hl, hcl⟩ := b4 h0
    exact ⟨b, o, e, fun i hi => (hb0.cell (p := ⟨b, o + i, none⟩) hl).trans (hcl i hi)⟩) (by omega)
  have hs : (w.alloc (.cells #[.int .u8 3] 5)).heap.size = w.heap.size + 1 := by simp
  refine ⟨w1, g, C, F, hrun, hC, ?_, hR, ?_⟩
  · rcases hcase with ⟨e, -⟩ | ⟨e, -, -⟩
    · omega
    · rw [hs] at e; omega
  · rcases hcase with ⟨e, ho⟩ | ⟨e, -, hb⟩
    · exact hb0.trans (ho.below (Nat.le_refl _))
    · exact hb0.trans (hb.mono (by rw [hs]; omega))

/-- what stands when the lists are asked for: two kernels, the list cs of n bytes. -/
structure RV (w V : World) (p q : Addr) (l1 h1 l2 h2 g C n : Nat) (c : Nat → Nat) : Prop where
  bel : Below w.heap.size w V
  k : Ker V p l1 h1
  u : Ker V q l2 h2
  cs : Rw V g C c
  nC : n ≤ C
theorem RV.ker {w V W : World} {p q : Addr} {l1 h1 l2 h2 g C n : Nat} {c : Nat → Nat} (h : RV w V p q l1 h1 l2 h2 g C n c) (hb : Below V.heap.size V W) : RV w W p q l1 h1 l2 h2 g C n c :=
  ⟨h.bel.trans (hb.mono h.bel.size), ker_below h.k hb, ker_below h.u hb, rw_below h.cs hb, h.nC⟩
theorem RV.cell {w V : World} {p q : Addr} {l1 h1 l2 h2 g C n : Nat} {c : Nat → Nat} (h : RV w V p q l1 h1 l2 h2 g C n c) {i : Nat} (hi : i < n) : V.cell? ⟨g, i, none⟩ = some (.int .u8 (c i : Nat)) ∧ c i < 256 := by
  have := h.nC
  exact ⟨h.cs.2.2.cell (i := i) (by omega), h.cs.2.1 i (by omega)⟩

theorem below_alloc5 (w : World) (o : Obj) : Below w.heap.size w (w.alloc o).drew := ((Below.refl _ _).alloc (Nat.le_refl _) _).drew
/-- u.Mul(cs[i], d, 1 2 3 4). -/
theorem row_mul {w V W : World} {p q : Addr} {l1 h1 l2 h2 g C n gd i : Nat} {c F : Nat → Nat} (R : RV w W p q l1 h1 l2 h2 g C n c) (rd : Rw W gd 4 F) (hb : Below V.heap.size V W) (hg : g < V.heap.size) (hd : V.heap.size ≤ gd) (hu : h2 ≤ V.heap.size) (hi : i < n) :
    W.cell? ⟨g, i, none⟩ = some (.int .u8 (c i : Nat)) ∧ Calls Try.prog 13 #[.pointer (some q), .int .u8 (c i : Nat), .slice (some ⟨gd, 0, none⟩) 4 4, .slice (some ⟨W.heap.size, 0, none⟩) 4 4] (W.alloc (.cells #[.int .u8 1, .int .u8 2, .int .u8 3, .int .u8 4] 5)).drew fun e w' =>
      e = .returned (.int .i64 0) ∧ w'.cell? ⟨gd, 0, none⟩ = some (.int .u8 (c i : Nat)) ∧ w'.cell? ⟨gd, 2, none⟩ = some (.int .u8 (fm 285 (c i) 3 : Nat)) ∧ w'.cell? ⟨g, i, none⟩ = some (.int .u8 (c i : Nat)) ∧ Below V.heap.size V w' ∧ ∃ F', Rw w' gd 4 F' := by
  obtain ⟨q0, hci⟩ := R.cell hi
  have lg := rd.lt
  have hlo := R.u.lo
  have r00 := lit_rw [1, 2, 3, 4] W (by decide) (by decide)
  have r0 : Rw (W.alloc (.cells #[.int .u8 1, .int .u8 2, .int .u8 3, .int .u8 4] 5)).drew W.heap.size 4 (fun i => [1, 2, 3, 4].getD i 0) := ⟨r00.1, r00.2.1, r00.2.2.drew⟩
  have b0 : Below W.heap.size W (W.alloc (.cells #[.int .u8 1, .int .u8 2, .int .u8 3, .int .u8 4] 5)).drew := ((Below.refl _ _).alloc (Nat.le_refl _) _).drew
  have k0 := ker_below R.u b0
  have d0 := rw_below rd b0
  have lV := hb.size
  refine ⟨q0, (kmul_far q l2 h2 (c i) 4 gd 0 4 F _ _ _ 4 4 _ k0 hci (by decide) (.inr (by omega)) d0 (fun _ => ⟨rfl, Nat.le_refl _⟩) (r0.far0 (by omega))).mono fun e w' ⟨a1, a2, a3⟩ => ?_⟩
  have z0 := a3.2.2.cell (i := 0) (by decide)
  have z2 := a3.2.2.cell (i := 2) (by decide)
  have e0 : pl F 0 4 (fun i_1 => fm 285 (c i) ([1, 2, 3, 4].getD i_1 0)) 0 = c i := by
    have := pl_in (F := F) (o := 0) (n := 4) (S := fun i_1 => fm 285 (c i) ([1, 2, 3, 4].getD i_1 0)) (i := 0) (by decide)
    rw [this]
    exact fld8.fm_one hci
  have e2 : pl F 0 4 (fun i_1 => fm 285 (c i) ([1, 2, 3, 4].getD i_1 0)) 2 = fm 285 (c i) 3 := by
    have := pl_in (F := F) (o := 0) (n := 4) (S := fun i_1 => fm 285 (c i) ([1, 2, 3, 4].getD i_1 0)) (i := 2) (by decide)
    exact this
  refine ⟨a1, by rw [← e0]; exact z0, by rw [← e2]; exact z2, ?_, (hb.trans (b0.mono lV)).trans (a2.below hd), _, a3⟩
  have hgW : g < W.heap.size := by omega
  rw [← q0]
  unfold World.cell?
  rw [a2.2.2 g (by omega), b0.block g hgW]

end Go.Proofs.Ytefhlnplegagfab
