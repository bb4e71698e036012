import Derived.Test.YtefhlnplegagfabEba
import Derived.Below
import Derived.Deep.OwnRows
import Derived.Laws.CopyOwn
import Derived.Deep.QuietTactic
import Derived.BigQuiet
import Derived.Deep.AppendLies
import Derived.ArgAppend
import Derived.OwnWalk
import Derived.Deep.Onto
namespace Go.Proofs.Ytefhlnplegagfab
open Go.RowKit Gf2

/-- lists of 256 bytes that lie in the row lb, each in a block of its own. -/
structure Ls (w : World) (base lb N : Nat) (B : Nat → Nat) : Prop where
  cell : ∀ r, r < N → w.cell? ⟨lb, r, none⟩ = some (.slice (some ⟨B r, 0, none⟩) 256 256)
  inj : ∀ r s, r < N → s < N → B r = B s → r = s
  ne : ∀ r, r < N → B r ≠ lb
  lo : ∀ r, r < N → base ≤ B r
  hi : ∀ r, r < N → B r < w.heap.size
  lh : lb < w.heap.size
/-- what they hold. -/
def Rws (w : World) (N : Nat) (B : Nat → Nat) (F : Nat → Nat → Nat) : Prop := ∀ r, r < N → w.rowIs (B r) 5 256 (fun x => .int .u8 (F r x : Nat))

theorem Rws.set {w : World} {base lb N : Nat} {B : Nat → Nat} {F : Nat → Nat → Nat} (h : Rws w N B F) (L : Ls w base lb N B) {i j v : Nat} (hi : i < N) :
    Rws (w.setCell ⟨B i, j, none⟩ (.int .u8 (v : Nat))) N B (fun r x => if r = i ∧ x = j then v else F r x) := by
  intro r hr
  by_cases e : r = i
  · subst e
    refine (World.rowIs.set (h r hr) j _).congr (fun x hx => ?_)
    by_cases e2 : x = j
    · simp [e2]
    · simp [e2]
  · refine (World.rowIs.setOther (h r hr) (a := ⟨B i, j, none⟩) (fun e2 => e (L.inj r i hr hi e2)) _).congr (fun x hx => ?_)
    simp [e]
theorem Ls.set {w : World} {base lb N : Nat} {B : Nat → Nat} (L : Ls w base lb N B) {i j : Nat} (hi : i < N) (v : Value) : Ls (w.setCell ⟨B i, j, none⟩ v) base lb N B := by
  refine ⟨fun r hr => ?_, L.inj, L.ne, L.lo, fun r hr => by simpa using L.hi r hr, by simpa using L.lh⟩
  rw [World.cell?_of_block (w := w) (Below.heap_setCell _ _ _ _ (fun e => L.ne i hi e.symm))]
  exact L.cell r hr
theorem Ls.below {w w' : World} {base lb N : Nat} {B : Nat → Nat} (L : Ls w base lb N B) (hb : Below w.heap.size w w') : Ls w' base lb N B :=
  ⟨fun r hr => (hb.cell (p := ⟨lb, r, none⟩) L.lh).trans (L.cell r hr), L.inj, L.ne, L.lo, fun r hr => Nat.lt_of_lt_of_le (L.hi r hr) hb.size, Nat.lt_of_lt_of_le L.lh hb.size⟩
theorem Rws.below {w w' : World} {N : Nat} {B : Nat → Nat} {F : Nat → Nat → Nat} (h : Rws w N B F) (hb : Below w.heap.size w w') : Rws w' N B F :=
  fun r hr => (h r hr).of_block (hb.block _ (h r hr).lt)
/-- a list that was grown. -/
def Gok (w : World) (G r : Nat) : Prop := G < w.heap.size ∧ ∀ x, x < 556 → w.cell? ⟨G, x, none⟩ = some (.int .u8 ((if x < 256 then 2 * r + 1 else 2 * r + 2 : Nat) : Int))
theorem Gok.below {w w' : World} {G r H : Nat} (h : Gok w G r) (hb : Below H w w') (hH : G < H) : Gok w' G r :=
  ⟨Nat.lt_of_lt_of_le h.1 hb.size, fun x hx => (hb.cell (p := ⟨G, x, none⟩) hH).trans (h.2 x hx)⟩
theorem Gok.set {w : World} {G r : Nat} (h : Gok w G r) {a : Addr} (ha : G ≠ a.block) (v : Value) : Gok (w.setCell a v) G r :=
  ⟨by simpa using h.1, fun x hx => (World.cell?_of_block (w := w) (a := ⟨G, x, none⟩) (Below.heap_setCell _ _ _ _ ha)).trans (h.2 x hx)⟩
theorem gok_of_owns {w : World} {H g cap r : Nat} (h : w.ownsRow H 5 1 (.slice (some ⟨g, 0, none⟩) 556 cap) 556 (List.replicate 256 (Value.int .u8 (2 * (r : Int) + 1)) ++ List.replicate 300 (Value.int .u8 (2 * (r : Int) + 2)))) (hg : g < w.heap.size) : Gok w g r := by
  refine ⟨hg, fun x hx => ?_⟩
  rw [h.cellAt x (by omega)]
  by_cases e : x < 256
  · rw [List.getElem?_append_left (by rw [List.length_replicate]; exact e), List.getElem?_replicate, if_pos e, if_pos e, Int.natCast_add, Int.natCast_mul]; rfl
  · rw [List.getElem?_append_right (by rw [List.length_replicate]; omega), List.length_replicate, List.getElem?_replicate, if_pos (by omega), if_neg e, Int.natCast_add, Int.natCast_mul]; rfl

theorem info_bytes : ∃ i, Try.prog.info? 5 = some i ∧ i.zero = some (Value.int .u8 0) ∧ i.size = 1 ∧ i.bytes = 1 := by
  obtain ⟨i, hi, hz⟩ := Option.map_eq_some_iff.1 info_u8m
  simp only [Prod.mk.injEq] at hz
  exact ⟨i, hi, hz.1, hz.2.1, hz.2.2⟩
theorem info_list : (Try.prog.info? 22).map (fun i => (i.zero, i.size, i.bytes)) = some (some (Value.slice none 0 0), 1, 24) := by kernel_rfl
theorem rep_cell {w : World} {b : Nat} {i : Int} (h : w.rowIs b 5 256 (fun _ => .int .u8 i)) (o : Obj) :
    ∀ a, some (⟨b, 0, none⟩ : Addr) = some a → ∀ j u, (List.replicate 256 (Value.int .u8 i))[j]? = some u → (w.alloc o).cell? (a.add j) = some u := by
  intro a ha j u hu
  obtain rfl : (⟨b, 0, none⟩ : Addr) = a := Option.some.inj ha
  rw [List.getElem?_replicate] at hu
  split at hu
  · next hj =>
    have e : (⟨b, 0, none⟩ : Addr).add j = ⟨b, j, none⟩ := by unfold Addr.add; split <;> simp_all
    rw [← Option.some.inj hu, e]
    exact (h.alloc o).cell hj
  · cases hu
theorem rep_snoc (xs : List Value) (v : Value) (j : Nat) : (xs ++ List.replicate j v) ++ [v] = xs ++ List.replicate (j + 1) v := by
  rw [List.append_assoc, List.replicate_succ']

set_option maxHeartbeats 4000000 in
set_option maxRecDepth 100000 in
theorem apart_any (base lb N lcap : Nat) (B : Nat → Nat) (F0 : Nat → Nat → Nat) (w : World) (hN : N ≤ 123) (hbase : base ≤ w.heap.size) (L : Ls w base lb N B) (R : Rws w N B F0) :
    Calls Try.prog 9 #[.slice (some ⟨lb, 0, none⟩) N lcap] w fun e w' => e = .returned (.bool true) ∧ Below base w w' := by
  go_enter Try.func9, Try.ntmps9
  go_wp2
  go_loopw [3] (fun iv wr => ∃ (i : Nat) (F : Nat → Nat → Nat), i ≤ N ∧ iv = .int .i64 i ∧ Ls wr base lb N B ∧ Rws wr N B F ∧ (∀ r, r < i → ∀ x, x < 256 → F r x = 2 * r + 1) ∧ Below base w wr ∧ wr.heap.size = w.heap.size) (fun iv _ => N - (intOf iv).toNat)
  case atStart => exact ⟨0, F0, Nat.zero_le _, rfl, L, R, fun r hr => absurd hr (by omega), Below.refl _ _, rfl⟩
  case round =>
    obtain ⟨i, F, hi, rfl, L1, R1, hF, hb, hsz⟩ := hrel
    clear L R
    by_cases hlt : i < N
    · have iN : ((i : Nat) : Int) < (N : Int) := by omega
      go_wp2
      go_loopw [4] (fun jv wq => ∃ (j : Nat) (F' : Nat → Nat → Nat), j ≤ 256 ∧ jv = .int .i64 j ∧ Ls wq base lb N B ∧ Rws wq N B F' ∧ (∀ r, r < i → ∀ x, x < 256 → F' r x = 2 * r + 1) ∧ (∀ x, x < j → F' i x = 2 * i + 1) ∧ Below base w wq ∧ wq.heap.size = w.heap.size) (fun jv _ => 256 - (intOf jv).toNat)
      case atStart => exact ⟨0, F, Nat.zero_le _, rfl, L1, R1, hF, fun x hx => absurd hx (by omega), hb, hsz⟩
      case round =>
        obtain ⟨j, F', hj, rfl, L2, R2, hF1, hF2, hb2, hsz2⟩ := hrel
        have q1 := L2.cell i hlt
        by_cases hjlt : j < 256
        · have q2 := (R2 i hlt).cell hjlt
          have f2 := (R2 i hlt).frozen j
          have jN : ((j : Nat) : Int) < 256 := by omega
          have iN : ((i : Nat) : Int) < (N : Int) := by omega
          have HR : Hid (Ls wr base lb N B ∧ Rws wr N B F' ∧ (∀ r, r < i → ∀ x, x < 256 → F' r x = 2 * r + 1) ∧ (∀ x, x < j → F' i x = 2 * i + 1) ∧ Below base w wr ∧ wr.heap.size = w.heap.size) := ⟨L2, R2, hF1, hF2, hb2, hsz2⟩
          clear L2 R2 hF1 hF2 hb2 hsz2 L1 R1 hF hb hsz
          go_wp2
          go_roundw
          case rel =>
            obtain ⟨g1, g2, g3, g4, g5, g6⟩ := HR.out
            have e : (2 * (i : Int) + 1) = ((2 * i + 1 : Nat) : Int) := by omega
            rw [e]
            refine ⟨j + 1, _, by omega, by go_num, g1.set hlt _, g2.set g1 hlt, fun r hr x hx => ?_, fun x hx => ?_, g5.setCell (g1.lo i hlt) _, by simpa using g6⟩
            · rw [if_neg (by omega)]; exact g3 r hr x hx
            · by_cases e2 : x = j
              · rw [if_pos ⟨rfl, e2⟩]
              · rw [if_neg (by omega)]; exact g4 x (by omega)
          case measure => simp [intOf]; omega
        · have hj6 : j = 256 := by omega
          subst hj6
          have iN : ((i : Nat) : Int) < (N : Int) := by omega
          have HR : Hid (Ls wr base lb N B ∧ Rws wr N B F' ∧ (∀ r, r < i → ∀ x, x < 256 → F' r x = 2 * r + 1) ∧ (∀ x, x < 256 → F' i x = 2 * i + 1) ∧ Below base w wr ∧ wr.heap.size = w.heap.size) := ⟨L2, R2, hF1, hF2, hb2, hsz2⟩
          clear L2 R2 hF1 hF2 hb2 hsz2 L1 R1 hF hb hsz
          go_wp2
          go_roundw
          case rel =>
            obtain ⟨g1, g2, g3, g4, g5, g6⟩ := HR.out
            refine ⟨i + 1, F', by omega, by go_num, g1, g2, fun r hr x hx => ?_, g5, g6⟩
            by_cases e2 : r = i
            · rw [e2]; exact g4 x hx
            · exact g3 r (by omega) x hx
          case measure => simp [intOf]; omega
    · have hiN : N = i := by omega
      subst hiN
      have R2 : Rws wr N B (fun r _ => 2 * r + 1) := fun r hr => (R1 r hr).congr (fun x hx => by rw [hF r hr x hx])
      clear R1 hF
      have hmk := run_make_row' (P := Try.prog) 25 22 (.slice none 0 0) 24 Try.underlying25 info_list rfl .i64 .i64 N (by omega) (by omega)
      have hgs := World.rowIs_made wr (.slice none 0 0) N 22
      rw [hsz] at hgs
      have L3 := L1.below (w' := wr.alloc (.cells (madeCells #[.slice none 0 0] N) 22)) ((Below.refl _ _).alloc (Nat.le_refl _) _)
      have R3 := R2.below (w' := wr.alloc (.cells (madeCells #[.slice none 0 0] N) 22)) ((Below.refl _ _).alloc (Nat.le_refl _) _)
      have hb3 := hb.alloc (by rw [hsz]; exact hbase) (.cells (madeCells #[.slice none 0 0] N) 22)
      have lbne : lb ≠ w.heap.size := by have := L1.lh; omega
      have Bne : ∀ r, r < N → B r ≠ w.heap.size := fun r hr => by have := L1.hi r hr; omega
      clear L1 R2 hb
      go_wp2
      go_loopw [6] (fun iv wq => ∃ (i : Nat) (S : Nat → Value), i ≤ N ∧ iv = .int .i64 i ∧ Ls wq base lb N B ∧ Rws wq N B (fun r _ => 2 * r + 1) ∧ wq.rowIs w.heap.size 22 N S ∧
          (∀ r, r < i → ∃ G C, S r = .slice (some ⟨G, 0, none⟩) 556 C ∧ G ≠ w.heap.size ∧ Gok wq G r) ∧ Below base w wq) (fun iv _ => N - (intOf iv).toNat)
      case atStart => exact ⟨0, _, Nat.zero_le _, rfl, L3, R3, hgs, fun r hr => absurd hr (by omega), hb3⟩
      case round =>
        obtain ⟨i, S, hi2, rfl, L4, R4, hg4, hG4, hb4⟩ := hrel
        clear L3 R3 hgs hb3
        by_cases hlt : i < N
        · have iN : ((i : Nat) : Int) < (N : Int) := by omega
          have q1 := L4.cell i hlt
          obtain ⟨ws, hws⟩ : ∃ ws : World, ws = wr := ⟨wr, rfl⟩
          rw [← hws] at L4 R4 hg4 hG4 hb4
          have HW : Hid (Ls ws base lb N B ∧ Rws ws N B (fun r _ => 2 * r + 1) ∧ ws.rowIs w.heap.size 22 N S ∧ (∀ r, r < i → ∃ G C, S r = .slice (some ⟨G, 0, none⟩) 556 C ∧ G ≠ w.heap.size ∧ Gok ws G r) ∧ Below base w ws) := ⟨L4, R4, hg4, hG4, hb4⟩
          have hws0 : Hid (ws = wr) := hws
          clear L4 R4 hg4 hG4 hb4 hws
          go_wp2
          go_loopw [7, 8] (fun gv jv wq => ∃ j : Nat, j ≤ 300 ∧ jv = .int .i64 j ∧ Below ws.heap.size ws wq ∧ ((j = 0 ∧ gv = .slice (some ⟨B i, 0, none⟩) 256 256) ∨
              (0 < j ∧ wq.ownsRow ws.heap.size 5 1 gv (256 + j) (List.replicate 256 (Value.int .u8 (2 * (i : Int) + 1)) ++ List.replicate j (Value.int .u8 (2 * (i : Int) + 2)))))) (fun _ jv _ => 300 - (intOf jv).toNat)
          case atStart => exact ⟨0, Nat.zero_le _, rfl, by rw [hws0.out]; exact Below.refl _ _, .inl ⟨rfl, rfl⟩⟩
          case round =>
            obtain ⟨j, hj, rfl, hbj, hcase⟩ := hrel
            obtain ⟨i5, j1, j2, j3, j4⟩ := info_bytes
            by_cases hjlt : j < 300
            · rcases hcase with ⟨rfl, rfl⟩ | ⟨hj0, hown⟩
              · have R5 := ((HW.out.2.1 i hlt).of_block (hbj.block _ (HW.out.2.1 i hlt).lt)).congr (g := fun _ => .int .u8 (2 * (i : Int) + 1)) (fun x _ => by rw [Int.natCast_add, Int.natCast_mul]; rfl)
                have R6 : Hid _ := rep_cell R5
                clear R5
                go_wp2_with (at_builtin; go_must (refine wpList_append_grows _ rfl _ _ 22 rfl 5 i5 (.int .u8 0) 1 1 Try.underlying22 j1 j2 j3 j4 rfl (by decide) (some ⟨B i, 0, none⟩) 256 256 (List.replicate 256 (Value.int .u8 (2 * (i : Int) + 1))) rfl (fun h => by cases h) (by rw [List.length_replicate]) (R6.out _) _ 1 1 [.int .u8 (2 * (i : Int) + 2)] rfl rfl ?c1 ?c2 (by decide) ?c3 (by decide) ?_))
                case c1 =>
                  intro k u hk
                  match k, hk with
                  | 0, hk => simp at hk; subst hk; simp [Addr.add]
                case c2 => intro u hu; simp at hu; subst hu; rfl
                case c3 => unfold maxLen; omega
                · intro v' w' hown hgrow
                  go_wp2
                  go_roundw
                  case rel =>
                    have hs1 := hbj.size
                    have hs2 := hgrow.size
                    simp at hs2
                    refine ⟨1, by omega, rfl, (hbj.alloc hbj.size _).grown hgrow (by simp; omega) (fun k hk => by cases hk), .inr ⟨by omega, ?_⟩⟩
                    refine World.ownsRow.mono hown ?_
                    have := hbj.size
                    simp
                    omega
                  case measure => simp [intOf]
              · have hbase2 := hbj.size
                go_wp2_with (at_builtin; go_must (refine wpList_append_lies _ rfl _ _ 22 rfl ws.heap.size 5 i5 (.int .u8 0) 1 1 Try.underlying22 j1 j2 j3 j4 rfl (by decide) _ _ _ rfl (hown.alloc _) _ 1 1 [.int .u8 (2 * (i : Int) + 2)] rfl rfl ?c1 ?c2 (by decide) ?c3 ?c4 ?c5 _ rfl ?_))
                case c1 =>
                  intro k u hk
                  match k, hk with
                  | 0, hk => simp at hk; subst hk; simp [Addr.add]
                case c2 => intro u hu; simp at hu; subst hu; rfl
                case c3 => unfold maxLen; omega
                case c4 => omega
                case c5 => simp; omega
                · intro g cap wA hownA hgrow hat hltA
                  go_wp2
                  go_roundw
                  case rel =>
                    have hs2 := hgrow.size
                    simp at hs2
                    refine ⟨j + 1, by omega, by go_num, (hbj.alloc hbj.size _).grown hgrow (by simp; omega) (fun k hk => (hown.lt k hk).1), .inr ⟨by omega, ?_⟩⟩
                    rw [← rep_snoc, ← Nat.add_assoc]
                    exact hownA
                  case measure => simp [intOf]; omega
            · have hj3 : j = 300 := by omega
              subst hj3
              rcases hcase with ⟨h, _⟩ | ⟨hj0, hown⟩
              · omega
              · obtain ⟨g, cap, rfl, hgl, hgh⟩ := hown.form (by omega)
                have hG := gok_of_owns hown hgh
                obtain ⟨L4, R4, hg4, hG4, hb4⟩ := HW.out
                have hg5 := hg4.of_block (hbj.block _ hg4.lt)
                have q2 := hg5.cell hlt
                have f2 := hg5.frozen i
                have hgne : g ≠ w.heap.size := by have := hg4.lt; omega
                have iN : ((i : Nat) : Int) < (N : Int) := by omega
                have FIN : Hid (Ls (wr.setCell ⟨w.heap.size, i, none⟩ (.slice (some ⟨g, 0, none⟩) 556 cap)) base lb N B ∧ Rws (wr.setCell ⟨w.heap.size, i, none⟩ (.slice (some ⟨g, 0, none⟩) 556 cap)) N B (fun r _ => 2 * r + 1) ∧
                    (wr.setCell ⟨w.heap.size, i, none⟩ (.slice (some ⟨g, 0, none⟩) 556 cap)).rowIs w.heap.size 22 N (fun r => if r = i then .slice (some ⟨g, 0, none⟩) 556 cap else S r) ∧
                    (∀ r, r < i + 1 → ∃ G C, (if r = i then Value.slice (some ⟨g, 0, none⟩) 556 cap else S r) = .slice (some ⟨G, 0, none⟩) 556 C ∧ G ≠ w.heap.size ∧ Gok (wr.setCell ⟨w.heap.size, i, none⟩ (.slice (some ⟨g, 0, none⟩) 556 cap)) G r) ∧
                    Below base w (wr.setCell ⟨w.heap.size, i, none⟩ (.slice (some ⟨g, 0, none⟩) 556 cap))) := by
                  have L5 := L4.below hbj
                  have R5 := R4.below hbj
                  refine ⟨⟨fun r hr => ?_, L5.inj, L5.ne, L5.lo, fun r hr => by simpa using L5.hi r hr, by simpa using L5.lh⟩, fun r hr => (R5 r hr).setOther (a := ⟨w.heap.size, i, none⟩) (Bne r hr) _, hg5.set i _, fun r hr => ?_, (hb4.trans (hbj.mono (by have := hb4.size; omega))).setCell hbase _⟩
                  · rw [World.cell?_of_block (w := wr) (Below.heap_setCell _ _ _ _ lbne)]; exact L5.cell r hr
                  · by_cases e : r = i
                    · subst e
                      exact ⟨g, cap, if_pos rfl, hgne, hG.set (a := ⟨w.heap.size, r, none⟩) hgne _⟩
                    · obtain ⟨G, C, h1, h2, h3⟩ := hG4 r (by omega)
                      exact ⟨G, C, by rw [if_neg e, h1], h2, (h3.below hbj h3.1).set (a := ⟨w.heap.size, i, none⟩) h2 _⟩
                clear L4 R4 hg4 hG4 hb4 hg5 hG HW hown
                go_wp2
                go_roundw
                case rel =>
                  obtain ⟨x1, x2, x3, x4, x5⟩ := FIN.out
                  exact ⟨i + 1, _, by omega, by go_num, x1, x2, x3, x4, x5⟩
                case measure => simp [intOf]; omega
        · have hiN : N = i := by omega
          subst hiN
          go_wp2
          go_loopw [9] (fun iv wq => ∃ i : Nat, i ≤ N ∧ iv = .int .i64 i ∧ wq = wr) (fun iv _ => N - (intOf iv).toNat)
          case atStart => exact ⟨0, Nat.zero_le _, rfl, rfl⟩
          case round =>
            obtain ⟨i, hi3, rfl, hwr⟩ := hrel
            rw [← hwr] at L4 R4 hg4 hG4 hb4
            by_cases hlt : i < N
            · have iN : ((i : Nat) : Int) < (N : Int) := by omega
              obtain ⟨G, C, hS, hGne, hGok⟩ := hG4 i hlt
              have q1 := L4.cell i hlt
              have q2 := hg4.cell hlt
              rw [hS] at q2
              have HW : Hid (Rws wr N B (fun r _ => 2 * r + 1) ∧ Gok wr G i) := ⟨R4, hGok⟩
              have HZ : Hid (wr = _) := hwr
              clear L4 R4 hg4 hG4 hb4 hGok hS hwr
              go_wp2
              go_loopw [11] (fun jv wq => ∃ j : Nat, j ≤ 556 ∧ jv = .int .i64 j ∧ wq = wr) (fun jv _ => 556 - (intOf jv).toNat)
              case atStart => exact ⟨0, Nat.zero_le _, rfl, rfl⟩
              case round =>
                obtain ⟨j, hj, rfl, hwq⟩ := hrel
                rw [← hwq] at q1 q2 HW
                by_cases hjlt : j < 556
                · have jN : ((j : Nat) : Int) < 556 := by omega
                  have q3 := HW.out.2.2 j hjlt
                  by_cases h6 : j < 256
                  · have q4 := (HW.out.1 i hlt).cell h6
                    rw [if_pos h6] at q3
                    have jL : ((j : Nat) : Int) < 256 := by omega
                    have D1 : decide ((j : Int) < 256) = true := by simpa using jL
                    have D2 : decide ((256 : Int) ≤ j) = false := by simp; omega
                    have HQ : Hid (wr = _) := hwq
                    clear hwq
                    go_wp2
                    go_roundw
                    case rel => exact ⟨j + 1, by omega, by go_num, HQ.out⟩
                    case measure => simp [intOf]; omega
                  · rw [if_neg h6] at q3
                    have jL : (256 : Int) ≤ ((j : Nat) : Int) := by omega
                    have D1 : decide ((j : Int) < 256) = false := by simp; omega
                    have D2 : decide ((256 : Int) ≤ j) = true := by simpa using jL
                    have HQ : Hid (wr = _) := hwq
                    clear hwq
                    go_wp2
                    go_roundw
                    case rel => exact ⟨j + 1, by omega, by go_num, HQ.out⟩
                    case measure => simp [intOf]; omega
                · have hj5 : j = 556 := by omega
                  subst hj5
                  have HQ : Hid (wr = _) := hwq
                  clear hwq
                  go_wp2
                  go_roundw
                  case rel => exact ⟨i + 1, by omega, by go_num, by rw [HQ.out, HZ.out]⟩
                  case measure => simp [intOf]; omega
            · have hiN : N = i := by omega
              subst hiN
              rw [hwr] at hb4
              go_wp2
              go_ret
              exact ⟨rfl, hb4⟩
end Go.Proofs.Ytefhlnplegagfab
