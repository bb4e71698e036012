import Derived.Test.YtldacjpkblffbabYma
namespace Go.Proofs.Ytldacjpkblffbab
open Go.RowKit Gf2
set_option linter.unusedVariables false

theorem info_l16m : (Try.prog.info? 24).map (fun i => (i.zero, i.size, i.bytes)) = some (some (Value.slice none 0 0), 1, 24) := by kernel_rfl
/-- the lists while they are marked: those below i, and j places of list i. -/
def Pn (w W : World) (base lb gb N : Nat) (B L C : Nat → Nat) (i j : Nat) : Prop := ∃ F S, Mn W base lb N B L C F ∧ W.rowIs gb 24 N S ∧ (∀ r, r < i → S r = .slice (some ⟨B r, 0, none⟩) (L r) (C r)) ∧ (∀ r, r < i → ∀ x, x < L r → F r x = r) ∧ (∀ x, x < j → F i x = i) ∧ Bk base gb N B w W
section
variable {w W : World} {base lb gb N : Nat} {B L C : Nat → Nat} {i j : Nat}
theorem Pn.mark (h : Pn w W base lb gb N B L C i j) (hi : i < N) (hN : N ≤ 250) (hg : ∀ r, r < N → B r ≠ gb) {k : Nat} (hk : k = i) : Pn w (W.setCell ⟨B i, j, none⟩ (.int .u8 (k : Nat))) base lb gb N B L C i (j + 1) := by
  rw [hk]
  obtain ⟨F, S, h1, h2, h3, h4, h5, h6⟩ := h
  refine ⟨_, S, h1.set (j := j) hi (by omega), h2.of_block (Below.heap_setCell _ _ _ _ (fun e => hg i hi e.symm)), h3, fun r hr x hx => ?_, fun x hx => ?_, h6.set _ _ (h1.lo i hi) (.inr ⟨i, hi, rfl⟩)⟩
  · rw [if_neg (by omega)]
    exact h4 r hr x hx
  · by_cases e : x = j
    · rw [if_pos ⟨rfl, e⟩]
    · rw [if_neg (by omega)]
      exact h5 x (by omega)
theorem Pn.next (h : Pn w W base lb gb N B L C i (L i)) (hi : i < N) (hl : lb ≠ gb) (hg : ∀ r, r < N → B r ≠ gb) (hb : base ≤ gb) : Pn w (W.setCell ⟨gb, i, none⟩ (.slice (some ⟨B i, 0, none⟩) (L i) (C i))) base lb gb N B L C (i + 1) 0 := by
  obtain ⟨F, S, h1, h2, h3, h4, h5, h6⟩ := h
  refine ⟨F, _, h1.other _ hl hg, h2.set i _, fun r hr => ?_, fun r hr x hx => ?_, fun x hx => absurd hx (Nat.not_lt_zero _), h6.set _ _ hb (.inl (Nat.le_refl _))⟩
  · by_cases e : r = i
    · subst e; rw [if_pos rfl]
    · rw [if_neg e]; exact h3 r (by omega)
  · by_cases e : r = i
    · subst e; exact h5 x hx
    · exact h4 r (by omega) x hx
theorem Pn.done (h : Pn w W base lb gb N B L C N 0) (hl : lb ≠ gb) (hg : ∀ r, r < N → B r ≠ gb) (hb : base ≤ gb) : Gn W base lb gb N B L C (fun _ => 0) B C ∧ Bk base gb N B w W := by
  obtain ⟨F, S, h1, h2, h3, h4, h5, h6⟩ := h
  exact ⟨h1.gn (h2.congr fun r hr => h3 r hr) h4 hg hl hb, h6⟩
theorem Pn.at (h : Pn w W base lb gb N B L C i j) (hi : i < N) : W.cell? ⟨lb, i, none⟩ = some (.slice (some ⟨B i, 0, none⟩) (L i) (C i)) := by
  obtain ⟨F, S, h1, -⟩ := h
  exact h1.cell i hi
theorem Pn.cells (h : Pn w W base lb gb N B L C i j) (hi : i < N) (hj : j < L i) : (∃ z, W.cell? ⟨B i, j, none⟩ = some (.int .u8 z)) ∧ W.frozen? ⟨B i, j, none⟩ = false := by
  obtain ⟨F, S, h1, -⟩ := h
  have := h1.cl i hi
  exact ⟨⟨_, (h1.row i hi).2.2.cell (i := j) (by omega)⟩, (h1.row i hi).2.2.frozen j⟩
theorem Pn.slot (h : Pn w W base lb gb N B L C i j) (hi : i < N) : (∃ z, W.cell? ⟨gb, i, none⟩ = some z) ∧ W.frozen? ⟨gb, i, none⟩ = false := by
  obtain ⟨F, S, h1, h2, -⟩ := h
  exact ⟨⟨_, h2.cell hi⟩, h2.frozen i⟩
end
/-- how far each list has grown. -/
def Jf (i j r : Nat) : Nat := if r < i then 70 else if r = i then j else 0
theorem Jf_at (i j : Nat) : Jf i j i = j := by unfold Jf; rw [if_neg (Nat.lt_irrefl _), if_pos rfl]
theorem Jf_lt {i j r : Nat} (h : r < i) : Jf i j r = 70 := if_pos h
theorem Jf_more (i j : Nat) : (fun r => if r = i then Jf i j i + 1 else Jf i j r) = Jf i (j + 1) := by
  funext r
  unfold Jf
  by_cases e : r = i
  · subst e; simp
  · simp [e]
theorem Jf_next (i : Nat) : Jf i 70 = Jf (i + 1) 0 := by
  funext r
  unfold Jf
  by_cases e : r < i
  · rw [if_pos e, if_pos (by omega)]
  · by_cases e2 : r = i
    · rw [if_neg e, if_pos e2, if_pos (by omega)]
    · rw [if_neg e, if_neg e2, if_neg (by omega)]; split <;> rfl
theorem Jf_zero : (fun _ => 0) = Jf 0 0 := by
  funext r
  unfold Jf
  rw [if_neg (Nat.not_lt_zero _)]; split <;> rfl

set_option maxHeartbeats 8000000 in
set_option maxRecDepth 100000 in
theorem apart16 (base lb N lcap : Nat) (B L C : Nat → Nat) (F0 : Nat → Nat → Nat) (w : World) (hN : N ≤ 250) (hbase : base ≤ w.heap.size) (M : Mn w base lb N B L C F0) :
    Calls Try.prog 18 #[.slice (some ⟨lb, 0, none⟩) N lcap] w fun e w' => e = .returned (.bool true) ∧ Bk base w.heap.size N B w w' := by
  have hmk := run_make_row' (P := Try.prog) 27 24 (.slice none 0 0) 24 Try.underlying27 info_l16m rfl .i64 .i64 N (by omega) (by omega)
  have hgs := World.rowIs_made w (.slice none 0 0) N 24
  have lne : lb ≠ w.heap.size := by have := M.lh; omega
  have Bne : ∀ r, r < N → B r ≠ w.heap.size := fun r hr => by have := (M.row r hr).lt; omega
  have Ll : ∀ r, r < N → L r ≤ 1000 := fun r hr => (M.cl r hr).2
  have P0 : Pn w (w.alloc (.cells (madeCells #[.slice none 0 0] N) 24)) base lb w.heap.size N B L C 0 0 := ⟨F0, _, M.below ((Below.refl _ _).alloc (Nat.le_refl _) _), hgs, fun r hr => absurd hr (Nat.not_lt_zero _), fun r hr => absurd hr (Nat.not_lt_zero _), fun r hr => absurd hr (Nat.not_lt_zero _), (Below.refl _ _).alloc hbase _, fun k hk _ => Below.heap_alloc w _ k hk⟩
  have HP : Hid _ := P0
  have HB : Hid (lb ≠ w.heap.size ∧ (∀ r, r < N → B r ≠ w.heap.size) ∧ (∀ r, r < N → L r ≤ 1000) ∧ base ≤ w.heap.size) := ⟨lne, Bne, Ll, hbase⟩
  clear P0 hgs M lne Bne Ll hbase
  go_enter Try.func18, Try.ntmps18
  go_wp2
  clear hmk
  go_loopw [4] (fun iv wr => ∃ i : Nat, i ≤ N ∧ iv = .int .i64 i ∧ Pn w wr base lb w.heap.size N B L C i 0) (fun iv _ => N - (intOf iv).toNat)
  case atStart => exact ⟨0, Nat.zero_le _, rfl, HP.out⟩
  case round =>
    obtain ⟨i, hi, rfl, hP⟩ := hrel
    clear HP
    by_cases hlt : i < N
    · have iN : ((i : Nat) : Int) < (N : Int) := by omega
      have HQ : Hid _ := hP
      clear hP
      go_wp2
      go_loopw [5] (fun jv wq => ∃ j : Nat, j ≤ L i ∧ jv = .int .i64 j ∧ Pn w wq base lb w.heap.size N B L C i j) (fun jv _ => L i - (intOf jv).toNat)
      case atStart => exact ⟨0, Nat.zero_le _, rfl, HQ.out⟩
      case round =>
        obtain ⟨j, hj, rfl, hP⟩ := hrel
        clear HQ
        have q1 := hP.at hlt
        by_cases hjl : j < L i
        · have jN : ((j : Nat) : Int) < (L i : Int) := by omega
          have jL := HB.out.2.2.1 i hlt
          obtain ⟨⟨z, q2⟩, f2⟩ := hP.cells hlt hjl
          have m1 : IntKind.u8.wrap (i : Int) = (i : Int) := by rw [IntKind.wrap_u8]; omega
          have HQ : Hid _ := hP
          clear hP
          go_wp2
          go_roundw
          case rel => exact ⟨j + 1, hjl, by go_num, Pn.mark HQ.out hlt hN HB.out.2.1 rfl⟩
          case measure => simp [intOf]; omega
        · obtain rfl : j = L i := by omega
          obtain ⟨⟨z, q2⟩, f2⟩ := hP.slot hlt
          have HQ : Hid _ := hP
          clear hP
          go_wp2
          go_roundw
          case rel => exact ⟨i + 1, hlt, by go_num, Pn.next HQ.out hlt HB.out.1 HB.out.2.1 HB.out.2.2.2⟩
          case measure => simp [intOf]; omega
    · obtain rfl : N = i := by omega
      obtain ⟨hG, hb⟩ := hP.done HB.out.1 HB.out.2.1 HB.out.2.2.2
      rw [Jf_zero] at hG
      have HG : Hid (Gn wr base lb w.heap.size N B L C (Jf 0 0) B C ∧ Bk base w.heap.size N B w wr) := ⟨hG, hb⟩
      clear hP hG hb
      go_wp2
      go_loopw [6] (fun iv wq => ∃ (i : Nat) (G Cg : Nat → Nat), i ≤ N ∧ iv = .int .i64 i ∧ Gn wq base lb w.heap.size N B L C (Jf i 0) G Cg ∧ Bk base w.heap.size N B w wq) (fun iv _ => N - (intOf iv).toNat)
      case atStart => exact ⟨0, _, _, Nat.zero_le _, rfl, HG.out⟩
      case round =>
        obtain ⟨i, G, Cg, hi2, rfl, hG, hb⟩ := hrel
        clear HG
        by_cases hlt : i < N
        · have iN : ((i : Nat) : Int) < (N : Int) := by omega
          have HG : Hid (Gn wr base lb w.heap.size N B L C (Jf i 0) G Cg ∧ Bk base w.heap.size N B w wr) := ⟨hG, hb⟩
          clear hG hb
          go_wp2
          go_loopw [7] (fun jv wq => ∃ (j : Nat) (G Cg : Nat → Nat), j ≤ 70 ∧ jv = .int .i64 j ∧ Gn wq base lb w.heap.size N B L C (Jf i j) G Cg ∧ Bk base w.heap.size N B w wq) (fun jv _ => 70 - (intOf jv).toNat)
          case atStart => exact ⟨0, _, _, Nat.zero_le _, rfl, HG.out⟩
          case round =>
            obtain ⟨j, G, Cg, hj, rfl, hG, hb⟩ := hrel
            clear HG
            by_cases hjl : j < 70
            · have jN : ((j : Nat) : Int) < 70 := by omega
              have q1 := hG.gcell.cell hlt
              rw [Jf_at] at q1
              have jL := HB.out.2.2.1 i hlt
              obtain ⟨w', g', C', hrun, hg', hG', hb'⟩ := hG.step (Nat.le_trans HB.out.2.2.2 hb.1.size) hlt hN (by rw [Jf_at]; omega)
              rw [Jf_more, Jf_at] at hG'
              rw [Jf_at] at hrun hb'
              have q2 := hg'.cell hlt
              have f2 := hg'.frozen i
              have m1 : IntKind.u8.wrap (i : Int) = (i : Int) := by rw [IntKind.wrap_u8]; omega
              have HG : Hid (Gn _ base lb w.heap.size N B L C (Jf i (j + 1)) _ _ ∧ Bk base w.heap.size N B w _) := ⟨hG', hb.trans hb'⟩
              clear hG hb hg' hG' hb'
              go_wp2_with (at_builtin; refine Lib.wpList_append_run _ rfl _ _ _ _ rfl _ _ rfl rfl _ _ hrun ?_; clear hrun)
              go_roundw
              case rel => exact ⟨j + 1, _, _, hjl, by go_num, HG.out⟩
              case measure => simp [intOf]; omega
            · obtain rfl : j = 70 := by omega
              rw [Jf_next] at hG
              have HG : Hid (Gn wr base lb w.heap.size N B L C (Jf (i + 1) 0) G Cg ∧ Bk base w.heap.size N B w wr) := ⟨hG, hb⟩
              clear hG hb
              go_wp2
              go_roundw
              case rel => exact ⟨i + 1, _, _, hlt, by go_num, HG.out⟩
              case measure => simp [intOf]; omega
        · obtain rfl : N = i := by omega
          have HG : Hid (Gn wr base lb w.heap.size N B L C (Jf N 0) G Cg ∧ Bk base w.heap.size N B w wr) := ⟨hG, hb⟩
          clear hG hb
          go_wp2
          go_loopw [8] (fun iv wq => ∃ i : Nat, i ≤ N ∧ iv = .int .i64 i ∧ wq = wr) (fun iv _ => N - (intOf iv).toNat)
          case atStart => exact ⟨0, Nat.zero_le _, rfl, rfl⟩
          case round =>
            obtain ⟨i, hi3, rfl, hwr⟩ := hrel
            subst hwr
            by_cases hlt : i < N
            · have iN : ((i : Nat) : Int) < (N : Int) := by omega
              have jL := HB.out.2.2.1 i hlt
              have q1 := HG.out.1.cell i hlt
              have q2 := HG.out.1.gcell.cell hlt
              rw [Jf_lt hlt] at q2
              obtain ⟨F, hR, hF⟩ := HG.out.1.row i hlt
              have hCg := HG.out.1.le i hlt
              rw [Jf_lt hlt] at hF hCg
              have m1 : IntKind.u8.wrap (i : Int) = (i : Int) := by rw [IntKind.wrap_u8]; omega
              have HR : Hid ((∀ x, x < L i + 70 → wr.cell? ⟨G i, x, none⟩ = some (.int .u8 (i : Int))) ∧ ∀ x, x < L i → wr.cell? ⟨B i, x, none⟩ = some (.int .u8 (i : Int))) := ⟨fun x hx => by have c := hR.2.2.cell (i := x) (by omega); rw [hF x hx] at c; exact c, fun x hx => by exact HG.out.1.old i hlt x hx⟩
              clear hR hF hCg
              go_wp2
              go_loopw [9] (fun jv wq => ∃ j : Nat, j ≤ L i + 70 ∧ jv = .int .i64 j ∧ wq = wr) (fun jv _ => L i + 70 - (intOf jv).toNat)
              case atStart => exact ⟨0, Nat.zero_le _, rfl, rfl⟩
              case round =>
                obtain ⟨j, hj, rfl, hwq⟩ := hrel
                subst hwq
                by_cases hjl : j < L i + 70
                · have q3 := HR.out.1 j hjl
                  have jN : ((j : Nat) : Int) < ((L i + 70 : Nat) : Int) := by omega
                  by_cases h6 : j < L i
                  · have q4 := HR.out.2 j h6
                    have j6 : ((j : Nat) : Int) < (L i : Int) := by omega
                    have D2 : decide ((L i : Int) ≤ j) = false := by simp; omega
                    go_wp2
                    go_roundw
                    case rel => exact ⟨j + 1, by omega, by go_num, by first | rfl | trivial⟩
                    case measure => simp [intOf]; omega
                  · have j6 : (L i : Int) ≤ ((j : Nat) : Int) := by omega
                    have D1 : decide ((j : Int) < (L i : Int)) = false := by simp; omega
                    go_wp2
                    go_roundw
                    case rel => exact ⟨j + 1, by omega, by go_num, by first | rfl | trivial⟩
                    case measure => simp [intOf]; omega
                · obtain rfl : j = L i + 70 := by omega
                  go_wp2
                  go_roundw
                  case rel => exact ⟨i + 1, hlt, by go_num, by first | rfl | trivial⟩
                  case measure => simp [intOf]; omega
            · obtain rfl : N = i := by omega
              go_wp2
              go_ret
              exact ⟨rfl, HG.out.2⟩
end Go.Proofs.Ytldacjpkblffbab
