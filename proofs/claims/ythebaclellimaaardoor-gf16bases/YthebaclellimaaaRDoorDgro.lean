import Derived.Test.YthebaclellimaaaRDoorWalki
import Derived.Deep.AppendLies
import Derived.Deep.OwnRows
import Derived.ArgAppend
import Derived.OwnWalk
import Derived.Deep.Onto
namespace Go.Proofs.YthebaclellimaaaRDoor
open Go.RowKit Gf2

/-- lists of 16 numbers that lie in the row lb, each in a block of its own. -/
structure Lh (w : World) (base lb N : Nat) (B : Nat → Nat) : Prop where
  cell : ∀ r, r < N → w.cell? ⟨lb, r, none⟩ = some (.slice (some ⟨B r, 0, none⟩) 16 16)
  inj : ∀ r s, r < N → s < N → B r = B s → r = s
  ne : ∀ r, r < N → B r ≠ lb
  lo : ∀ r, r < N → base ≤ B r
  hi : ∀ r, r < N → B r < w.heap.size
  lh : lb < w.heap.size
/-- what they hold. -/
def Rh (w : World) (N : Nat) (B : Nat → Nat) (F : Nat → Nat → Int) : Prop := ∀ r, r < N → w.rowIs (B r) 39 16 (fun x => .int .u16 (F r x))
/-- the marks. -/
def m1 (r x : Nat) : Int := 1000 * (r : Int) + (x : Int) + 7
def m2 (r x : Nat) : Int := 30000 + 100 * (r : Int) + (x : Int)

theorem Rh.set {w : World} {base lb N : Nat} {B : Nat → Nat} {F : Nat → Nat → Int} (h : Rh w N B F) (L : Lh w base lb N B) {i j : Nat} {v : Int} (hi : i < N) :
    Rh (w.setCell ⟨B i, j, none⟩ (.int .u16 v)) N B (fun r x => if r = i ∧ x = j then v else F r x) := by
  intro r hr
  by_cases e : r = i
  · subst e
    refine (World.rowIs.set (h r hr) j _).congr (fun x hx => ?_)
    by_cases e2 : x = j
    · simp [e2]
    · simp [e2]
  · refine (World.rowIs.setOther (h r hr) (a := ⟨B i, j, none⟩) (fun e2 => e (L.inj r i hr hi e2)) _).congr (fun x hx => ?_)
    simp [e]
theorem Lh.set {w : World} {base lb N : Nat} {B : Nat → Nat} (L : Lh w base lb N B) {i j : Nat} (hi : i < N) (v : Value) : Lh (w.setCell ⟨B i, j, none⟩ v) base lb N B := by
  refine ⟨fun r hr => ?_, L.inj, L.ne, L.lo, fun r hr => by simpa using L.hi r hr, by simpa using L.lh⟩
  rw [World.cell?_of_block (w := w) (Below.heap_setCell _ _ _ _ (fun e => L.ne i hi e.symm))]
  exact L.cell r hr
theorem Lh.below {w w' : World} {base lb N : Nat} {B : Nat → Nat} (L : Lh w base lb N B) (hb : Below w.heap.size w w') : Lh w' base lb N B :=
  ⟨fun r hr => (hb.cell (p := ⟨lb, r, none⟩) L.lh).trans (L.cell r hr), L.inj, L.ne, L.lo, fun r hr => Nat.lt_of_lt_of_le (L.hi r hr) hb.size, Nat.lt_of_lt_of_le L.lh hb.size⟩
theorem Rh.below {w w' : World} {N : Nat} {B : Nat → Nat} {F : Nat → Nat → Int} (h : Rh w N B F) (hb : Below w.heap.size w w') : Rh w' N B F :=
  fun r hr => (h r hr).of_block (hb.block _ (h r hr).lt)
/-- a list that was grown. -/
def Gh (w : World) (G r : Nat) : Prop := G < w.heap.size ∧ ∀ x, x < 80 → w.cell? ⟨G, 16 + x, none⟩ = some (.int .u16 (m2 r x))
theorem Gh.keep {w w' : World} {G r : Nat} (h : Gh w G r) (hs : w.heap.size ≤ w'.heap.size) (hb : w'.heap[G]? = w.heap[G]?) : Gh w' G r :=
  ⟨Nat.lt_of_lt_of_le h.1 hs, fun x hx => (World.cell?_of_block (w := w) (a := ⟨G, 16 + x, none⟩) hb).trans (h.2 x hx)⟩
def mk1 (r : Nat) : List Value := (List.range 16).map fun x => .int .u16 (m1 r x)
def mk2 (r n : Nat) : List Value := (List.range n).map fun x => .int .u16 (m2 r x)
theorem mk1_len (r : Nat) : (mk1 r).length = 16 := by simp [mk1]
theorem mk2_succ (r n : Nat) : mk2 r (n + 1) = mk2 r n ++ [.int .u16 (m2 r n)] := by unfold mk2; rw [List.range_succ, List.map_append]; rfl
theorem gh_of_owns {w : World} {H g cap r : Nat} (h : w.ownsRow H 24 1 (.slice (some ⟨g, 0, none⟩) 96 cap) 96 (mk1 r ++ mk2 r 80)) (hg : g < w.heap.size) : Gh w g r := by
  refine ⟨hg, fun x hx => ?_⟩
  rw [h.cellAt (16 + x) (by omega), List.getElem?_append_right (by rw [mk1_len]; omega), mk1_len, show 16 + x - 16 = x by omega]
  simp [mk2, hx]
theorem mk1_cell {w : World} {b r : Nat} (h : w.rowIs b 39 16 (fun x => .int .u16 (m1 r x))) (o : Obj) :
    ∀ a, some (⟨b, 0, none⟩ : Addr) = some a → ∀ j u, (mk1 r)[j]? = some u → (w.alloc o).cell? (a.add j) = some u := by
  intro a ha j u hu
  obtain rfl : (⟨b, 0, none⟩ : Addr) = a := Option.some.inj ha
  by_cases hj : j < 16
  · have e : (⟨b, 0, none⟩ : Addr).add j = ⟨b, j, none⟩ := by unfold Addr.add; split <;> simp_all
    have hu2 : (mk1 r)[j]? = some (.int .u16 (m1 r j)) := by simp [mk1, hj]
    rw [← Option.some.inj (hu2.symm.trans hu), e]
    exact (h.alloc o).cell hj
  · rw [List.getElem?_eq_none (by rw [mk1_len]; omega)] at hu
    cases hu
theorem info_list16 : ∃ i, Tryd.prog.info? 40 = some i ∧ i.zero = some (Value.slice none 0 0) ∧ i.size = 1 ∧ i.bytes = 24 := by
  have h : (Tryd.prog.info? 40).map (fun i => (i.zero, i.size, i.bytes)) = some (some (Value.slice none 0 0), 1, 24) := by kernel_rfl
  obtain ⟨i, hi, hz⟩ := Option.map_eq_some_iff.1 h
  simp only [Prod.mk.injEq] at hz
  exact ⟨i, hi, hz.1, hz.2.1, hz.2.2⟩
/-- the grown lists, as values. -/
def mg (G C : Nat → Nat) (n : Nat) : List Value := (List.range n).map fun r => .slice (some ⟨G r, 0, none⟩) 96 (C r)
theorem mg_get (G C : Nat → Nat) {n r : Nat} (h : r < n) : (mg G C n)[r]? = some (.slice (some ⟨G r, 0, none⟩) 96 (C r)) := by simp [mg, h]
theorem mg_succ (G C : Nat → Nat) (n g c : Nat) : mg (fun r => if r = n then g else G r) (fun r => if r = n then c else C r) (n + 1) = mg G C n ++ [.slice (some ⟨g, 0, none⟩) 96 c] := by
  unfold mg
  rw [List.range_succ, List.map_append]
  congr 1
  · apply List.map_congr_left
    intro r hr
    have := List.mem_range.1 hr
    have e : r ≠ n := by omega
    simp [e]
  · simp

set_option maxHeartbeats 4000000 in
set_option maxRecDepth 100000 in
theorem grown_any (base lb N lcap : Nat) (B : Nat → Nat) (F0 : Nat → Nat → Int) (w : World) (hN : N ≤ 3) (hbase : base ≤ w.heap.size) (L : Lh w base lb N B) (R : Rh w N B F0) :
    Calls Tryd.prog 16 #[.slice (some ⟨lb, 0, none⟩) N lcap] w fun e w' => e = .returned (.bool true) ∧ Below base w w' := by
  go_enter Tryd.func16, Tryd.ntmps16
  go_wp2
  go_loopw [16] (fun iv wr => ∃ (i : Nat) (F : Nat → Nat → Int), i ≤ N ∧ iv = .int .i64 i ∧ Lh wr base lb N B ∧ Rh wr N B F ∧ (∀ r, r < i → ∀ x, x < 16 → F r x = m1 r x) ∧ Below base w wr ∧ wr.heap.size = w.heap.size) (fun iv _ => N - (intOf iv).toNat)
  case atStart => exact ⟨0, F0, Nat.zero_le _, rfl, L, R, fun r hr => absurd hr (by omega), Below.refl _ _, rfl⟩
  case round =>
    obtain ⟨i, F, hi, rfl, L1, R1, hF, hb, hsz⟩ := hrel
    clear L R
    by_cases hlt : i < N
    · have iN : ((i : Nat) : Int) < (N : Int) := by omega
      have q1 := L1.cell i hlt
      go_wp2
      go_loopw [23] (fun jv wq => ∃ (j : Nat) (F' : Nat → Nat → Int), j ≤ 16 ∧ jv = .int .i64 j ∧ Lh wq base lb N B ∧ Rh wq N B F' ∧ (∀ r, r < i → ∀ x, x < 16 → F' r x = m1 r x) ∧ (∀ x, x < j → F' i x = m1 i x) ∧ Below base w wq ∧ wq.heap.size = w.heap.size) (fun jv _ => 16 - (intOf jv).toNat)
      case atStart => exact ⟨0, F, Nat.zero_le _, rfl, L1, R1, hF, fun x hx => absurd hx (by omega), hb, hsz⟩
      case round =>
        obtain ⟨j, F', hj, rfl, L2, R2, hF1, hF2, hb2, hsz2⟩ := hrel
        by_cases hjlt : j < 16
        · have q2 := (R2 i hlt).cell hjlt
          have f2 := (R2 i hlt).frozen j
          have jN : ((j : Nat) : Int) < 16 := by omega
          have HR : Hid (Lh wr base lb N B ∧ Rh wr N B F' ∧ (∀ r, r < i → ∀ x, x < 16 → F' r x = m1 r x) ∧ (∀ x, x < j → F' i x = m1 i x) ∧ Below base w wr ∧ wr.heap.size = w.heap.size) := ⟨L2, R2, hF1, hF2, hb2, hsz2⟩
          clear L2 R2 hF1 hF2 hb2 hsz2 L1 R1 hF hb hsz q1
          go_wp2
          go_roundw
          case rel =>
            obtain ⟨g1, g2, g3, g4, g5, g6⟩ := HR.out
            refine ⟨j + 1, _, by omega, by go_num, g1.set hlt _, g2.set g1 hlt, fun r hr x hx => ?_, fun x hx => ?_, g5.setCell (g1.lo i hlt) _, by simpa using g6⟩
            · rw [if_neg (by omega)]; exact g3 r hr x hx
            · by_cases e2 : x = j
              · rw [if_pos ⟨rfl, e2⟩, e2]; rfl
              · rw [if_neg (by omega)]; exact g4 x (by omega)
          case measure => simp [intOf]; omega
        · have hj6 : j = 16 := by omega
          subst hj6
          have HR : Hid (Lh wr base lb N B ∧ Rh wr N B F' ∧ (∀ r, r < i → ∀ x, x < 16 → F' r x = m1 r x) ∧ (∀ x, x < 16 → F' i x = m1 i x) ∧ Below base w wr ∧ wr.heap.size = w.heap.size) := ⟨L2, R2, hF1, hF2, hb2, hsz2⟩
          clear L2 R2 hF1 hF2 hb2 hsz2 L1 R1 hF hb hsz q1
          go_wp2
          go_roundw
          case rel =>
            obtain ⟨g1, g2, g3, g4, g5, g6⟩ := HR.out
            refine ⟨i + 1, F', by omega, by go_num, g1, g2, fun r hr x hx => ?_, g5, g6⟩
            by_cases e2 : r = i
            · rw [e2]; exact g4 x hx
            · exact g3 r (by omega) x hx
          case measure => simp [intOf]; omega
    · have hiN : N = i := by omega
      subst hiN
      have R2 : Rh wr N B m1 := fun r hr => (R1 r hr).congr (fun x hx => by rw [hF r hr x hx])
      clear R1 hF
      obtain ⟨wM, hwM⟩ : ∃ wM : World, wM = wr := ⟨wr, rfl⟩
      rw [← hwM] at L1 R2 hb hsz
      have HM : Hid (Lh wM base lb N B ∧ Rh wM N B m1 ∧ Below base w wM ∧ wM.heap.size = w.heap.size) := ⟨L1, R2, hb, hsz⟩
      have hwM0 : Hid (wM = wr) := hwM
      clear L1 R2 hb hsz hwM
      go_wp2
      go_loopw [6, 39] (fun mv iv wq => ∃ (i : Nat) (G C : Nat → Nat), i ≤ N ∧ iv = .int .i64 i ∧ Below wM.heap.size wM wq ∧ wq.ownsRow wM.heap.size 40 1 mv i (mg G C i) ∧
          (∀ r, r < i → Gh wq (G r) r ∧ mv.ownBlock ≠ some (G r))) (fun _ iv _ => N - (intOf iv).toNat)
      case atStart => exact ⟨0, fun _ => 0, fun _ => 0, Nat.zero_le _, rfl, by rw [hwM0.out]; exact Below.refl _ _, World.ownsRow_nil _ _ _ _, fun r hr => absurd hr (by omega)⟩
      case round =>
        obtain ⟨i, G, C, hi2, rfl, hb4, own4, hG4⟩ := hrel
        by_cases hlt : i < N
        · have iN : ((i : Nat) : Int) < (N : Int) := by omega
          have q1 := (HM.out.1.below hb4).cell i hlt
          obtain ⟨ws, hws⟩ : ∃ ws : World, ws = wr := ⟨wr, rfl⟩
          rw [← hws] at hb4 own4 hG4
          have HW : Hid (Below wM.heap.size wM ws ∧ ws.ownsRow wM.heap.size 40 1 u6 i (mg G C i) ∧ (∀ r, r < i → Gh ws (G r) r ∧ u6.ownBlock ≠ some (G r))) := ⟨hb4, own4, hG4⟩
          have hws0 : Hid (ws = wr) := hws
          clear hb4 own4 hG4 hws
          go_wp2
          go_loopw [8, 9] (fun gv jv wq => ∃ j : Nat, j ≤ 80 ∧ jv = .int .i64 j ∧ Below ws.heap.size ws wq ∧ ((j = 0 ∧ gv = .slice (some ⟨B i, 0, none⟩) 16 16) ∨
              (0 < j ∧ wq.ownsRow ws.heap.size 24 1 gv (16 + j) (mk1 i ++ mk2 i j)))) (fun _ jv _ => 80 - (intOf jv).toNat)
          case atStart => exact ⟨0, Nat.zero_le _, rfl, by rw [hws0.out]; exact Below.refl _ _, .inl ⟨rfl, rfl⟩⟩
          case round =>
            obtain ⟨j, hj, rfl, hbj, hcase⟩ := hrel
            obtain ⟨i5, j1, j2, j3, j4⟩ := info_u16
            by_cases hjlt : j < 80
            · have jN : ((j : Nat) : Int) < 80 := by omega
              have HE : Hid ((30000 + 100 * (i : Int) + (j : Int)) = m2 i j) := rfl
              rcases hcase with ⟨rfl, rfl⟩ | ⟨hj0, hown⟩
              · have R4 := ((HM.out.2.1.below HW.out.1) i hlt)
                have R5 := R4.of_block (hbj.block _ R4.lt)
                have R6 : Hid _ := mk1_cell R5
                clear R5 R4
                go_wp2_with (at_builtin; go_must (refine wpList_append_grows _ rfl _ _ 40 rfl 24 i5 (.int .u16 0) 1 2 Tryd.underlying40 j1 j2 j3 j4 rfl (by decide) (some ⟨B i, 0, none⟩) 16 16 (mk1 i) rfl (fun h => by cases h) (by rw [mk1_len]) (R6.out _) _ 1 1 [.int .u16 (m2 i 0)] rfl rfl ?c1 ?c2 (by decide) ?c3 (by decide) ?_))
                case c1 =>
                  intro k u hk
                  match k, hk with
                  | 0, hk => simp at hk; subst hk; simp [Addr.add, m2]
                case c2 => intro u hu; simp at hu; subst hu; rfl
                case c3 => unfold maxLen; omega
                · intro v' w' hown hgrow
                  go_wp2
                  go_roundw
                  case rel =>
                    have hs1 := hbj.size
                    have hs2 := hgrow.size
                    simp at hs2
                    refine ⟨1, by omega, rfl, (hbj.alloc hbj.size _).grown hgrow (by simp; omega) (fun k hk => by cases hk), .inr ⟨by omega, ?_⟩⟩
                    refine World.ownsRow.mono hown ?_
                    have := hbj.size
                    simp
                    omega
                  case measure => simp [intOf]
              · have hbase2 := hbj.size
                go_wp2_with (at_builtin; go_must (refine wpList_append_lies _ rfl _ _ 40 rfl ws.heap.size 24 i5 (.int .u16 0) 1 2 Tryd.underlying40 j1 j2 j3 j4 rfl (by decide) _ _ _ rfl (hown.alloc _) _ 1 1 [.int .u16 (m2 i j)] rfl rfl ?c1 ?c2 (by decide) ?c3 ?c4 ?c5 _ rfl ?_))
                case c1 =>
                  intro k u hk
                  match k, hk with
                  | 0, hk => simp at hk; subst hk; simp [Addr.add, m2]
                case c2 => intro u hu; simp at hu; subst hu; rfl
                case c3 => unfold maxLen; omega
                case c4 => omega
                case c5 => simp; omega
                · intro g cap wA hownA hgrow hat hltA
                  go_wp2
                  go_roundw
                  case rel =>
                    have hs2 := hgrow.size
                    simp at hs2
                    refine ⟨j + 1, by omega, by go_num, (hbj.alloc hbj.size _).grown hgrow (by simp; omega) (fun k hk => (hown.lt k hk).1), .inr ⟨by omega, ?_⟩⟩
                    rw [mk2_succ, ← List.append_assoc, ← Nat.add_assoc]
                    exact hownA
                  case measure => simp [intOf]; omega
            · have hj3 : j = 80 := by omega
              subst hj3
              rcases hcase with ⟨h, _⟩ | ⟨hj0, hown⟩
              · omega
              · obtain ⟨g, cap, rfl, hgl, hgh⟩ := hown.form (by omega)
                have hG := gh_of_owns hown hgh
                obtain ⟨hb4, own4, hG4⟩ := HW.out
                have own6 := owns_below own4 hbj
                obtain ⟨i6, k1, k2, k3, k4⟩ := info_list16
                have hs0 := hbj.size
                have hs4 := hb4.size
                have HV : Hid (Gh wr g i ∧ Below wM.heap.size wM ws ∧ (∀ r, r < i → Gh ws (G r) r ∧ u6.ownBlock ≠ some (G r)) ∧ (∀ k, u6.ownBlock = some k → wM.heap.size ≤ k ∧ k < ws.heap.size) ∧ Below ws.heap.size ws wr) := ⟨hG, hb4, hG4, own4.lt, hbj⟩
                clear hb4 own4 hG4 hG hbj hown HW
                go_wp2_with (at_builtin; go_must (refine wpList_append_lies _ rfl _ _ 42 rfl wM.heap.size 40 i6 (.slice none 0 0) 1 24 Tryd.underlying42 k1 k2 k3 k4 rfl (by decide) _ _ _ rfl (own6.alloc _) _ 1 1 [.slice (some ⟨g, 0, none⟩) 96 cap] rfl rfl ?c1 ?c2 (by decide) ?c3 ?c4 ?c5 _ rfl ?_))
                case c1 =>
                  intro k u hk
                  match k, hk with
                  | 0, hk => simp at hk; subst hk; simp [Addr.add]
                case c2 => intro u hu; simp at hu; subst hu; rfl
                case c3 => unfold maxLen; omega
                case c4 => omega
                case c5 => simp; omega
                · intro g' cap' wA hownA hgrow hat hltA
                  have hs2 := hgrow.size
                  simp at hs2 hat
                  obtain ⟨v1, v2, v3, v4, v5⟩ := HV.out
                  have FIN : Hid (Below wM.heap.size wM wA ∧ wA.ownsRow wM.heap.size 40 1 (.slice (some ⟨g', 0, none⟩) (i + 1) cap') (i + 1) (mg (fun r => if r = i then g else G r) (fun r => if r = i then cap else C r) (i + 1)) ∧ ∀ r, r < i + 1 → Gh wA (if r = i then g else G r) r ∧ (Value.slice (some ⟨g', 0, none⟩) (i + 1) cap').ownBlock ≠ some (if r = i then g else G r)) := by
                    refine ⟨((v2.trans (v5.mono hs4)).alloc (by omega) _).grown hgrow (by simp; omega) (fun k hk => (v4 k hk).1), by rw [mg_succ]; exact hownA, fun r hr => ?_⟩
                    by_cases e : r = i
                    · subst e
                      rw [if_pos rfl]
                      refine ⟨(v1.keep (by simp : wr.heap.size ≤ (wr.alloc _).heap.size) (heap_alloc_old _ _ hgh)).keep hgrow.size (hgrow.block g (by simp; omega) (fun e => by have := v4 g e.symm; omega)), fun e => ?_⟩
                      have e : g' = g := Option.some.inj e
                      rcases hat with h | h
                      · have := v4 g' h; omega
                      · omega
                    · rw [if_neg e]
                      obtain ⟨y1, y2⟩ := v3 r (by omega)
                      have y3 := y1.1
                      refine ⟨((y1.keep hs0 (v5.block _ y3)).keep (by simp : wr.heap.size ≤ (wr.alloc _).heap.size) (heap_alloc_old _ _ (by omega))).keep hgrow.size (hgrow.block (G r) (by simp; omega) (fun e => y2 e.symm)), fun e => ?_⟩
                      have e : g' = G r := Option.some.inj e
                      rcases hat with h | h
                      · rw [e] at h; exact y2 h
                      · omega
                  clear v1 v2 v3 v4 v5 hownA hgrow hat HV
                  go_wp2
                  go_roundw
                  case rel =>
                    obtain ⟨x1, x2, x3⟩ := FIN.out
                    exact ⟨i + 1, _, _, by omega, by go_num, x1, x2, x3⟩
                  case measure => simp [intOf]; omega
        · have hiN : N = i := by omega
          subst hiN
          have L4 := HM.out.1.below hb4
          have R4 := HM.out.2.1.below hb4
          have H4 : Hid (Below base w wr) := HM.out.2.2.1.trans (hb4.mono (by rw [HM.out.2.2.2]; exact hbase))
          go_wp2
          go_loopw [64] (fun iv wq => ∃ i : Nat, i ≤ N ∧ iv = .int .i64 i ∧ wq = wr) (fun iv _ => N - (intOf iv).toNat)
          case atStart => exact ⟨0, Nat.zero_le _, rfl, rfl⟩
          case round =>
            obtain ⟨i, hi3, rfl, hwr⟩ := hrel
            rw [← hwr] at L4 R4 own4 hG4 H4
            by_cases hlt : i < N
            · have iN : ((i : Nat) : Int) < (N : Int) := by omega
              obtain ⟨gm, cm, rfl, hgl, hgh⟩ := own4.form (by omega)
              have q1 := L4.cell i hlt
              have q2 := own4.cellAt i (by omega)
              rw [mg_get G C hlt] at q2
              have HW : Hid (Rh wr N B m1 ∧ Gh wr (G i) i) := ⟨R4, (hG4 i hlt).1⟩
              have HZ : Hid (wr = _) := hwr
              clear L4 R4 own4 hG4 hb4 hwr H4
              go_wp2
              go_loopw [80] (fun jv wq => ∃ j : Nat, j ≤ 16 ∧ jv = .int .i64 j ∧ wq = wr) (fun jv _ => 16 - (intOf jv).toNat)
              case atStart => exact ⟨0, Nat.zero_le _, rfl, rfl⟩
              case round =>
                obtain ⟨j, hj, rfl, hwq⟩ := hrel
                rw [← hwq] at q1 q2 HW
                by_cases hjlt : j < 16
                · have jN : ((j : Nat) : Int) < 16 := by omega
                  have q3 : wr.cell? ⟨B i, j, none⟩ = some (.int .u16 (1000 * (i : Int) + (j : Int) + 7)) := (HW.out.1 i hlt).cell hjlt
                  have HQ : Hid (wr = _) := hwq
                  clear hwq
                  go_wp2
                  go_roundw
                  case rel => exact ⟨j + 1, by omega, by go_num, HQ.out⟩
                  case measure => simp [intOf]; omega
                · have hj5 : j = 16 := by omega
                  subst hj5
                  have HQ : Hid (wr = _) := hwq
                  clear hwq
                  go_wp2
                  go_loopw [13] (fun jv wq => ∃ j : Nat, j ≤ 80 ∧ jv = .int .i64 j ∧ wq = wr) (fun jv _ => 80 - (intOf jv).toNat)
                  case atStart => exact ⟨0, Nat.zero_le _, rfl, rfl⟩
                  case round =>
                    obtain ⟨p, hp, rfl, hwp⟩ := hrel
                    rw [← hwp] at q1 q2 HW
                    by_cases hplt : p < 80
                    · have pN : ((p : Nat) : Int) < 80 := by omega
                      have q3 : wr.cell? ⟨G i, 16 + p, none⟩ = some (.int .u16 (30000 + 100 * (i : Int) + (p : Int))) := HW.out.2.2 p hplt
                      have HP : Hid (wr = _) := hwp
                      clear hwp
                      go_wp2
                      go_roundw
                      case rel => exact ⟨p + 1, by omega, by go_num, HP.out⟩
                      case measure => simp [intOf]; omega
                    · have hp5 : p = 80 := by omega
                      subst hp5
                      have HP : Hid (wr = _) := hwp
                      clear hwp
                      go_wp2
                      go_roundw
                      case rel => exact ⟨i + 1, by omega, by go_num, by rw [HP.out, HQ.out, HZ.out]⟩
                      case measure => simp [intOf]; omega
            · have hiN : N = i := by omega
              subst hiN
              have HH := H4.out
              go_wp2
              go_ret
              exact ⟨rfl, by first | exact HH | (rw [hwr]; exact HH) | (rw [← hwr]; exact HH)⟩
end Go.Proofs.YthebaclellimaaaRDoor
