import Derived.Test.YtaepcecjblojjabDoorDres
import Derived.Test.YtaepcecjblojjabDoorGfi
import Derived.Deep.AppendLies
namespace Go.Proofs.YtaepcecjblojjabDoor
open Go.RowKit Gf2

theorem inf24 : ∃ i, Tryd.prog.info? 26 = some i ∧ i.zero = some (.int .u64 0) ∧ i.size = 1 ∧ i.bytes = 8 := by
  have h : (Tryd.prog.info? 26).isSome = true := by kernel_rfl
  obtain ⟨i, hi⟩ := Option.isSome_iff_exists.1 h
  have z : (Tryd.prog.info? 26).bind (·.zero) = some (.int .u64 0) := by kernel_rfl
  have s : (Tryd.prog.info? 26).map (·.size) = some 1 := by kernel_rfl
  have b : (Tryd.prog.info? 26).map (·.bytes) = some 8 := by kernel_rfl
  rw [hi] at z s b
  exact ⟨i, hi, z, by simpa using s, by simpa using b⟩

/-- two lists of numbers in memory, each in a block of its own. -/
structure TwoRows (w : World) (N : Nat) (sa fa : Option Addr) (cs cf : Nat) (L : List (Nat × Nat)) : Prop where
  s : w.ownsRow N 26 1 (.slice sa L.length cs) L.length (L.map fun q => Value.int .u64 (q.1 : Int))
  f : w.ownsRow N 26 1 (.slice fa L.length cf) L.length (L.map fun q => Value.int .u64 (q.2 : Int))
  ne : ∀ g, sa.map (·.block) = some g → fa.map (·.block) ≠ some g
  sz : N ≤ w.heap.size

theorem own_get {w : World} {N : Nat} {a : Option Addr} {n c : Nat} {xs : List Value} (h : w.ownsRow N 26 1 (.slice a n c) n xs) {j : Nat} (hj : j < n) :
    ∃ g, a = some ⟨g, 0, none⟩ ∧ g < w.heap.size ∧ w.cell? ⟨g, j, none⟩ = xs[j]? := by
  obtain ⟨hl, h⟩ := h
  rcases h with ⟨_, h0⟩ | ⟨g, cap, cur, e, hb, hh, hn, hm, hs, ht⟩
  · omega
  · simp at e
    obtain ⟨rfl, -⟩ := e
    refine ⟨g, rfl, (Array.getElem?_eq_some_iff.1 hh).1, ?_⟩
    rw [cell_of_row w g j cur 26 (0, 0) hh, ← ht, List.getElem?_take]
    simp [hj]

theorem TwoRows.gets {w : World} {N : Nat} {sa fa : Option Addr} {cs cf : Nat} {L : List (Nat × Nat)} (h : TwoRows w N sa fa cs cf L) {j : Nat} (hj : j < L.length) :
    ∃ g g', sa = some ⟨g, 0, none⟩ ∧ fa = some ⟨g', 0, none⟩ ∧ w.cell? ⟨g, j, none⟩ = some (.int .u64 ((L[j].1 : Nat) : Int)) ∧ w.cell? ⟨g', j, none⟩ = some (.int .u64 ((L[j].2 : Nat) : Int)) := by
  obtain ⟨g, e1, -, c1⟩ := own_get h.s hj
  obtain ⟨g', e2, -, c2⟩ := own_get h.f hj
  refine ⟨g, g', e1, e2, ?_, ?_⟩
  · rw [c1]; simp [hj]
  · rw [c2]; simp [hj]

theorem red_take {L : List (Nat × Nat)} {j : Nat} (hj : j < L.length) (q : Nat × Nat) : red (L.take (j + 1)) q = stp (red (L.take j) q) L[j] := by
  rw [List.take_succ_eq_append_getElem hj, red_snoc]

theorem red_bounds {a p i : Nat} (hp : p ≠ 0) (h33 : len p ≤ 33) {L : List (Nat × Nat)} (hL : ∀ c ∈ L, Fits a p i c) {q : Nat × Nat} (hq : Fits a p i q) (hi : i ≤ 32) (j : Nat) : (red (L.take j) q).1 < 4294967296 ∧ (red (L.take j) q).2 < 4294967296 := by
  have h := red_fits hp (L.take j) q (fun c hc => hL c (List.mem_of_mem_take hc)) hq
  refine ⟨?_, (len_le (n := 32)).1 (by have := h.2; omega)⟩
  rw [h.1]; exact pmod_lt_32 _ hp h33
theorem fits_bounds {a p i : Nat} (hp : p ≠ 0) (h33 : len p ≤ 33) {q : Nat × Nat} (hq : Fits a p i q) (hi : i ≤ 32) : q.1 < 4294967296 ∧ q.2 < 4294967296 := by
  refine ⟨?_, (len_le (n := 32)).1 (by have := hq.2; omega)⟩
  rw [hq.1]; exact pmod_lt_32 _ hp h33

theorem tuple2 {x : Int} {b c : Bool} (h : b = c) : Ending.returned (.tuple #[.int .u64 x, .bool b]) = .returned (.tuple #[.int .u64 x, .bool c]) := by rw [h]

theorem comb_bounds {a p i want : Nat} (hp : p ≠ 0) (h33 : len p ≤ 33) {L : List (Nat × Nat)} (hL : ∀ c ∈ L, Fits a p i c) (hi : i ≤ 32) (j : Nat) : (red (L.take j) (pmod want p, 0)).1 < 4294967296 ∧ (red (L.take j) (pmod want p, 0)).2 < 4294967296 := by
  induction j with
  | zero => exact ⟨by simp [red]; exact pmod_lt_32 _ hp h33, by simp [red]⟩
  | succ j ih =>
    by_cases hj : j < L.length
    · rw [red_take hj]
      have hc := fits_bounds hp h33 (hL _ (List.getElem_mem hj)) hi
      unfold stp
      split
      · exact ⟨Nat.xor_lt_two_pow (n := 32) ih.1 hc.1, Nat.xor_lt_two_pow (n := 32) ih.2 hc.2⟩
      · exact ih
    · rw [List.take_of_length_le (by omega)] at ih ⊢
      exact ih

theorem two_apart {sa fa : Option Addr} {n m c d : Nat} (h : ∀ g, sa.map (·.block) = some g → fa.map (·.block) ≠ some g) :
    (Value.slice fa n c).ownBlock = none ∨ (Value.slice fa n c).ownBlock ≠ (Value.slice sa m d).ownBlock := by
  cases fa with
  | none => exact .inl rfl
  | some x =>
    right
    cases sa with
    | none => simp [Value.ownBlock]
    | some y =>
      simp only [Value.ownBlock]
      intro e
      have := h y.block rfl
      simp at e this
      exact this e

theorem two_grown {w wA wB : World} {N : Nat} {sa fa : Option Addr} {cs cf V U g g' cap cap' : Nat} {L : List (Nat × Nat)} {o o' : Obj} (h : TwoRows w N sa fa cs cf L)
    (hown : wA.ownsRow N 26 1 (.slice (some ⟨g, 0, none⟩) (L.length + 1) cap) (L.length + 1) ((L.map fun q => Value.int .u64 (q.1 : Int)) ++ [Value.int .u64 (V : Int)]))
    (hgrow : (w.alloc o).grownBy wA (Value.slice sa L.length cs).ownBlock) (hat : (Value.slice sa L.length cs).ownBlock = some g ∨ g = w.heap.size + 1) (hlt : g < wA.heap.size)
    (hown' : wB.ownsRow N 26 1 (.slice (some ⟨g', 0, none⟩) (L.length + 1) cap') (L.length + 1) ((L.map fun q => Value.int .u64 (q.2 : Int)) ++ [Value.int .u64 (U : Int)]))
    (hgrow' : (wA.alloc o').grownBy wB (Value.slice fa L.length cf).ownBlock) (hat' : (Value.slice fa L.length cf).ownBlock = some g' ∨ g' = wA.heap.size + 1) (_hlt' : g' < wB.heap.size) :
    TwoRows wB N (some ⟨g, 0, none⟩) (some ⟨g', 0, none⟩) cap cap' (L ++ [(V, U)]) := by
  have hs1 : w.heap.size + 1 ≤ wA.heap.size := by have := hgrow.size; simpa using this
  have hs2 : wA.heap.size + 1 ≤ wB.heap.size := by have := hgrow'.size; simpa using this
  have hgf : (Value.slice fa L.length cf).ownBlock ≠ some g := by
    intro e
    rcases hat with h1 | h1
    · rcases two_apart (n := L.length) (m := L.length) (c := cf) (d := cs) h.ne with h2 | h2
      · rw [h2] at e; cases e
      · exact h2 (e.trans h1.symm)
    · have := (h.f.lt g e).2
      omega
  have l1 : (L ++ [(V, U)]).length = L.length + 1 := by simp
  refine ⟨?_, ?_, ?_, by have := h.sz; omega⟩
  · rw [l1]
    have := (hown.alloc o').kept hgrow' (.inr (fun e => hgf e.symm))
    simpa using this
  · rw [l1]; simpa using hown'
  · intro k hk e
    simp at hk e
    subst hk
    rcases hat' with h1 | h1
    · exact hgf (by rw [h1, e])
    · omega

set_option maxRecDepth 100000 in
set_option maxHeartbeats 2000000 in
theorem combine_nat (a want p n : Nat) (w : World) (ha : a < 18446744073709551616) (hw : want < 18446744073709551616) (hp : p < 18446744073709551616) (hp0 : p ≠ 0) (h33 : len p ≤ 33) (hn : n ≤ 32) :
    Calls Tryd.prog 47 #[.int .u64 (a : Int), .int .u64 (want : Int), .int .u64 (p : Int), .int .i64 (n : Int)] w fun e w' => e = .returned (.tuple #[.int .u64 ((comb a want p n).2 : Nat), .bool (decide ((comb a want p n).1 = 0))]) ∧ Below w.heap.size w w' := by
  have hx0 := pmod_lt_32 (mul (2 ^ 0) a) hp0 h33
  have c1 : ∀ w, Calls Tryd.prog 56 #[.int .u64 (a : Int), .int .u64 (p : Int)] w fun e w' => e = .returned (.int .u64 (pmod (mul (2 ^ 0) a) p : Nat)) ∧ w' = w := fun w => by
    have h := rest_nat a p w ha hp hp0
    rw [show mul (2 ^ 0) a = a by rw [Nat.pow_zero, one_mul]]
    exact h
  have c2 := fun w => rest_nat want p w hw hp hp0
  go_enter Tryd.func47, Tryd.ntmps47
  go_wp2_with (go_at_call 56; with_reducible refine (c1 _).mono ?_; rintro e w1 ⟨rfl, rfl⟩)
  go_loopw [10, 11, 12, 13] (fun vs vf x y wr => ∃ (i : Nat) (sa fa : Option Addr) (cs cf : Nat), i ≤ n ∧ vs = .slice sa (elim a p i).length cs ∧ vf = .slice fa (elim a p i).length cf ∧ x = .int .u64 ((pmod (mul (2 ^ i) a) p : Nat) : Int) ∧ y = .int .i64 i ∧ TwoRows wr w1.heap.size sa fa cs cf (elim a p i) ∧ Below w1.heap.size w1 wr) (fun _ _ _ y _ => n - (intOf y).toNat)
  case atStart =>
    exact ⟨0, none, none, 0, 0, Nat.zero_le _, rfl, rfl, rfl, rfl, ⟨World.ownsRow_nil _ _ _ _, World.ownsRow_nil _ _ _ _, fun g h => by simp at h, Nat.le_refl _⟩, Below.refl _ _⟩
  case round =>
    obtain ⟨i, sa, fa, cs, cf, hi, rfl, rfl, rfl, rfl, htr, hbw⟩ := hrel
    by_cases hlt : i < n
    · have hfit := elim_fits (a := a) hp0 i
      have hlen := elim_length a p i
      have q0 : Fits a p (i + 1) (pmod (mul (2 ^ i) a) p, 2 ^ i) := ⟨rfl, by rw [len_two_pow]; omega⟩
      have hL1 : ∀ c ∈ elim a p i, Fits a p (i + 1) c := fun c hc => (hfit c hc).1.mono (by omega)
      have hrb := red_bounds hp0 h33 hL1 q0 (by omega)
      have hxi := pmod_lt_32 (mul (2 ^ i) a) hp0 h33
      have hi2 : 2 ^ i ≤ 2147483648 := by
        have : 2 ^ i ≤ 2 ^ 31 := Nat.pow_le_pow_right (by decide) (by omega)
        have e : (2 : Nat) ^ 31 = 2147483648 := rfl
        omega
      have hwr : IntKind.u64.wrap (2 ^ i) = ((2 ^ i : Nat) : Int) := by
        have e : ((2 : Int) ^ i) = ((2 ^ i : Nat) : Int) := by simp
        rw [e]; exact wrap_nat _ (by omega)
      have HEL : Hid (elim a p (i + 1) = if (red (elim a p i) (pmod (mul (2 ^ i) a) p, 2 ^ i)).1 = 0 then elim a p i else elim a p i ++ [red (elim a p i) (pmod (mul (2 ^ i) a) p, 2 ^ i)]) := rfl
      generalize hL : elim a p i = L at *
      generalize hX : pmod (mul (2 ^ i) a) p = X at *
      have hHX : Hid (pmod (mul (2 ^ i) a) p = X) := hX
      have hHL : Hid (elim a p i = L) := hL
      clear hX hL q0 hL1 c1 c2 hx0
      have HW : Hid (IntKind.u64.wrap (2 ^ i) = ((2 ^ i : Nat) : Int)) := hwr
      go_wp2
      go_loopw [14, 15, 16] (fun v u y ws => ∃ j : Nat, j ≤ L.length ∧ v = .int .u64 ((red (L.take j) (X, 2 ^ i)).1 : Nat) ∧ u = .int .u64 ((red (L.take j) (X, 2 ^ i)).2 : Nat) ∧ y = .int .i64 j ∧ ws = wr) (fun _ _ y _ => L.length - (intOf y).toNat)
      case atStart => exact ⟨0, Nat.zero_le _, by simp [red], by simp [red], rfl, rfl⟩
      case round =>
        obtain ⟨j, hj, rfl, rfl, rfl, rfl⟩ := hrel
        by_cases hjl : j < L.length
        · obtain ⟨g, g', rfl, rfl, cg, cg'⟩ := htr.gets hjl
          have hcm : L[j] ∈ L := List.getElem_mem hjl
          obtain ⟨hcf, hc0⟩ := hfit _ hcm
          obtain ⟨b1, b2⟩ := fits_bounds hp0 h33 hcf (by omega)
          obtain ⟨v1, v2⟩ := hrb j
          have HR : Hid (red (L.take (j + 1)) (X, 2 ^ i) = stp (red (L.take j) (X, 2 ^ i)) L[j]) := red_take hjl _
          have hdl : len L[j].1 ≤ 32 := len_le.2 b1
          have hdp := len_pos.2 hc0
          have cd : ∀ w, Calls Tryd.prog 22 #[.int .u64 ((L[j].1 : Nat) : Int)] w fun e w' => e = .returned (.int .i64 ((len L[j].1 - 1 : Nat) : Int)) ∧ w' = w := fun w => by
            have h := refDegree_nat L[j].1 w (by omega)
            rw [show ((len L[j].1 : Int) - 1) = ((len L[j].1 - 1 : Nat) : Int) by omega] at h
            exact h
          have cv := fun w => refDegree_nat (red (L.take j) (X, 2 ^ i)).1 w (by omega)
          have hlv : len (red (L.take j) (X, 2 ^ i)).1 ≤ 64 := len_le.2 (by omega)
          have HST : Hid (stp (red (L.take j) (X, 2 ^ i)) L[j] = if (red (L.take j) (X, 2 ^ i)).1 / 2 ^ (len L[j].1 - 1) % 2 = 1 then ((red (L.take j) (X, 2 ^ i)).1 ^^^ L[j].1, (red (L.take j) (X, 2 ^ i)).2 ^^^ L[j].2) else red (L.take j) (X, 2 ^ i)) := rfl
          generalize hq : red (L.take j) (X, 2 ^ i) = q at *
          generalize hcc : L[j] = c at *
          obtain ⟨V, U⟩ := q
          obtain ⟨s1, f1⟩ := c
          simp only at *
          have HQ : Hid (red (L.take j) (X, 2 ^ i) = (V, U)) := hq
          clear hq hcc hcm hcf
          generalize hdd : len s1 - 1 = d at *
          have hd64 : d < 64 := by omega
          have X1 := u64_xor_nat V s1 (by omega) (by omega)
          have X2 := u64_xor_nat U f1 (by omega) (by omega)
          clear hdd hrb hfit
          by_cases hV0 : V = 0
          · have hl0 : len V ≤ 0 := by rw [hV0, len_zero]; decide
            have HN : Hid (red (L.take (j + 1)) (X, 2 ^ i) = (V, U)) := by
              show red (L.take (j + 1)) (X, 2 ^ i) = (V, U)
              rw [HR.out, HST.out, hV0, if_neg (by simp)]
            clear hV0
            go_wp2_with (go_at_call 22; first | (with_reducible refine (cv _).mono ?_; rintro e w2 ⟨rfl, rfl⟩) | (with_reducible refine (cd _).mono ?_; rintro e w2 ⟨rfl, rfl⟩))
            go_roundw
            case rel => exact ⟨j + 1, by omega, by rw [HN.out], by rw [HN.out], by go_num, by trivial⟩
            case measure => simp [intOf]; omega
          · have hl1 : 1 ≤ len V := len_pos.2 hV0
            by_cases hbit : V / 2 ^ d % 2 = 1
            · have T := shr_one (A := V) (i := d) (by omega) hbit
              have HN : Hid (red (L.take (j + 1)) (X, 2 ^ i) = (V ^^^ s1, U ^^^ f1)) := by
                show red (L.take (j + 1)) (X, 2 ^ i) = (V ^^^ s1, U ^^^ f1)
                rw [HR.out, HST.out, if_pos hbit]
              clear hbit hV0
              go_wp2_with (go_at_call 22; first | (with_reducible refine (cv _).mono ?_; rintro e w2 ⟨rfl, rfl⟩) | (with_reducible refine (cd _).mono ?_; rintro e w2 ⟨rfl, rfl⟩))
              go_roundw
              case rel => exact ⟨j + 1, by omega, by rw [HN.out], by rw [HN.out], by go_num, by trivial⟩
              case measure => simp [intOf]; omega
            · have T := shr_not (A := V) (i := d) (by omega) hbit
              have HN : Hid (red (L.take (j + 1)) (X, 2 ^ i) = (V, U)) := by
                show red (L.take (j + 1)) (X, 2 ^ i) = (V, U)
                rw [HR.out, HST.out, if_neg hbit]
              clear hbit hV0
              go_wp2_with (go_at_call 22; first | (with_reducible refine (cv _).mono ?_; rintro e w2 ⟨rfl, rfl⟩) | (with_reducible refine (cd _).mono ?_; rintro e w2 ⟨rfl, rfl⟩))
              go_roundw
              case rel => exact ⟨j + 1, by omega, by rw [HN.out], by rw [HN.out], by go_num, by trivial⟩
              case measure => simp [intOf]; omega
        · have hjL : j = L.length := by omega
          have HB := hrb L.length
          rw [hjL, List.take_length] at *
          have HX2 : Hid (pmod (mul (2 ^ (i + 1)) a) p = pmod (2 * X) p) := by
            show pmod (mul (2 ^ (i + 1)) a) p = pmod (2 * X) p
            rw [← hHX.out, ← mul_two_left (pmod _ p), pmod_mul_right _ _ hp0, mul_two_left, Nat.pow_succ, Nat.mul_comm, two_mul']
          have c3 : ∀ w, Calls Tryd.prog 56 #[.int .u64 (2 * (X : Int)), .int .u64 (p : Int)] w fun e w' => e = .returned (.int .u64 (pmod (2 * X) p : Nat)) ∧ w' = w := fun w => rest_nat (2 * X) p w (by omega) hp hp0
          have w2 : IntKind.u64.wrap (2 * (X : Int)) = 2 * (X : Int) := by rw [IntKind.wrap_u64]; omega
          generalize hq : red L (X, 2 ^ i) = q at *
          obtain ⟨V, U⟩ := q
          simp only at *
          clear hq hjL hj hrb hfit
          by_cases hV0 : V = 0
          · have T : ((V : Int) != 0) = false := by rw [hV0]; rfl
            have HN : Hid (elim a p (i + 1) = L) := by
              show elim a p (i + 1) = L
              rw [HEL.out, if_pos hV0]
            clear hV0
            go_wp2_with (go_at_call 56; with_reducible refine (c3 _).mono ?_; rintro e w3 ⟨rfl, rfl⟩)
            go_roundw
            case rel =>
              refine ⟨i + 1, sa, fa, cs, cf, by omega, by rw [HN.out], by rw [HN.out], by rw [HX2.out], by go_num, by rw [HN.out]; exact htr, hbw⟩
            case measure => simp [intOf]; omega
          · have T : ((V : Int) != 0) = true := by simp; omega
            have HN : Hid (elim a p (i + 1) = L ++ [(V, U)]) := by
              show elim a p (i + 1) = L ++ [(V, U)]
              rw [HEL.out, if_neg hV0]
            obtain ⟨i24, j1, j2, j3, j4⟩ := inf24
            clear hV0
            have hbase := htr.sz
            have hlL : L.length ≤ 32 := by omega
            go_wp2_with (at_builtin; go_must (refine wpList_append_lies _ rfl _ _ 74 rfl w1.heap.size 26 i24 (.int .u64 0) 1 8 Tryd.underlying74 j1 j2 j3 j4 rfl (by decide) _ _ _ rfl (htr.s.alloc _) _ 1 1 [.int .u64 (V : Int)] rfl rfl ?c1 ?c2 (by decide) ?c3 ?c4 ?c5 _ rfl ?_))
            case c1 =>
              intro k u hk
              match k, hk with
              | 0, hk => simp at hk; subst hk; simp [Addr.add]
            case c2 => intro u hu; simp at hu; subst hu; rfl
            case c3 => unfold maxLen; omega
            case c4 => omega
            case c5 => simp; omega
            · intro g cap wA hown hgrow hat hlt
              have hwA : wr.heap.size + 1 ≤ wA.heap.size := by have := hgrow.size; simpa using this
              have hownF : wA.ownsRow w1.heap.size 26 1 (.slice fa L.length cf) L.length (L.map fun q => Value.int .u64 (q.2 : Int)) :=
                (htr.f.alloc _).kept hgrow (two_apart htr.ne)
              go_wp2_with (at_builtin; refine wpList_append_lies _ rfl _ _ 74 rfl w1.heap.size 26 i24 (.int .u64 0) 1 8 Tryd.underlying74 j1 j2 j3 j4 rfl (by decide) _ _ _ rfl (hownF.alloc _) ⟨wA.heap.size, 0, none⟩ 1 1 [.int .u64 (U : Int)] rfl rfl ?c1 ?c2 (by decide) ?c3 ?c4 ?c5 _ rfl ?_)
              case c1 =>
                intro k u hk
                match k, hk with
                | 0, hk => simp at hk; subst hk; simp [Addr.add]
              case c2 => intro u hu; simp at hu; subst hu; rfl
              case c3 => unfold maxLen; omega
              case c4 => omega
              case c5 => simp; omega
              · intro g' cap' wB hown' hgrow' hat' hlt'
                go_wp2_with (go_at_call 56; with_reducible refine (c3 _).mono ?_; rintro e w3 ⟨rfl, rfl⟩)
                go_roundw
                case rel =>
                  refine ⟨i + 1, some ⟨g, 0, none⟩, some ⟨g', 0, none⟩, cap, cap', by omega, by rw [HN.out]; simp, by rw [HN.out]; simp, by rw [HX2.out], by go_num, ?_, ?_⟩
                  · rw [HN.out]
                    exact two_grown htr hown hgrow hat hlt hown' hgrow' hat' hlt'
                  · exact ((hbw.alloc hbw.size _).grown hgrow (by simp; omega) (fun k hk => (htr.s.lt k hk).1)).alloc (by omega) _ |>.grown hgrow' (by simp; omega) (fun k hk => (htr.f.lt k hk).1)
                case measure => simp [intOf]; omega
    · have hin : i = n := by omega
      subst hin
      have hfit := elim_fits (a := a) hp0 i
      have hlen := elim_length a p i
      have q0 : Fits a p i (0, 0) := ⟨by simp only; rw [zero_mul]; exact (pmod_small (by rw [len_zero]; exact len_pos.2 hp0)).symm, by simp [len_zero]⟩
      have hV0 := pmod_lt_32 want hp0 h33
      have hrb : ∀ j, (red ((elim a p i).take j) (pmod want p, 0)).1 < 4294967296 ∧ (red ((elim a p i).take j) (pmod want p, 0)).2 < 4294967296 :=
        fun j => comb_bounds hp0 h33 (fun c hc => (hfit c hc).1) hn j
      have HCO : Hid (comb a want p i = red (elim a p i) (pmod want p, 0)) := rfl
      generalize hL : elim a p i = L at *
      generalize hX : pmod want p = X at *
      clear hL hX q0 c1 hx0
      go_wp2_with (go_at_call 56; with_reducible refine (c2 _).mono ?_; rintro e w3 ⟨rfl, rfl⟩)
      go_loopw [17, 18, 19] (fun v u y ws => ∃ j : Nat, j ≤ L.length ∧ v = .int .u64 ((red (L.take j) (X, 0)).1 : Nat) ∧ u = .int .u64 ((red (L.take j) (X, 0)).2 : Nat) ∧ y = .int .i64 j ∧ ws = w3) (fun _ _ y _ => L.length - (intOf y).toNat)
      case atStart => exact ⟨0, Nat.zero_le _, by simp [red], by simp [red], rfl, rfl⟩
      case round =>
        obtain ⟨j, hj, rfl, rfl, rfl, rfl⟩ := hrel
        by_cases hjl : j < L.length
        · obtain ⟨g, g', rfl, rfl, cg, cg'⟩ := htr.gets hjl
          have hcm : L[j] ∈ L := List.getElem_mem hjl
          obtain ⟨hcf, hc0⟩ := hfit _ hcm
          obtain ⟨b1, b2⟩ := fits_bounds hp0 h33 hcf (by omega)
          obtain ⟨v1, v2⟩ := hrb j
          have HR : Hid (red (L.take (j + 1)) (X, 0) = stp (red (L.take j) (X, 0)) L[j]) := red_take hjl _
          have hdl : len L[j].1 ≤ 32 := len_le.2 b1
          have hdp := len_pos.2 hc0
          have cd : ∀ w, Calls Tryd.prog 22 #[.int .u64 ((L[j].1 : Nat) : Int)] w fun e w' => e = .returned (.int .i64 ((len L[j].1 - 1 : Nat) : Int)) ∧ w' = w := fun w => by
            have h := refDegree_nat L[j].1 w (by omega)
            rw [show ((len L[j].1 : Int) - 1) = ((len L[j].1 - 1 : Nat) : Int) by omega] at h
            exact h
          have HST : Hid (stp (red (L.take j) (X, 0)) L[j] = if (red (L.take j) (X, 0)).1 / 2 ^ (len L[j].1 - 1) % 2 = 1 then ((red (L.take j) (X, 0)).1 ^^^ L[j].1, (red (L.take j) (X, 0)).2 ^^^ L[j].2) else red (L.take j) (X, 0)) := rfl
          generalize hq : red (L.take j) (X, 0) = q at *
          generalize hcc : L[j] = c at *
          obtain ⟨V, U⟩ := q
          obtain ⟨s1, f1⟩ := c
          simp only at *
          clear hq hcc hcm hcf
          generalize hdd : len s1 - 1 = d at *
          have hd64 : d < 64 := by omega
          have X1 := u64_xor_nat V s1 (by omega) (by omega)
          have X2 := u64_xor_nat U f1 (by omega) (by omega)
          clear hdd hrb hfit
          by_cases hbit : V / 2 ^ d % 2 = 1
          · have T := shr_one (A := V) (i := d) (by omega) hbit
            have HN : Hid (red (L.take (j + 1)) (X, 0) = (V ^^^ s1, U ^^^ f1)) := by
              show red (L.take (j + 1)) (X, 0) = (V ^^^ s1, U ^^^ f1)
              rw [HR.out, HST.out, if_pos hbit]
            clear hbit
            go_wp2_with (go_at_call 22; with_reducible refine (cd _).mono ?_; rintro e w2 ⟨rfl, rfl⟩)
            go_roundw
            case rel => exact ⟨j + 1, by omega, by rw [HN.out], by rw [HN.out], by go_num, by trivial⟩
            case measure => simp [intOf]; omega
          · have T := shr_not (A := V) (i := d) (by omega) hbit
            have HN : Hid (red (L.take (j + 1)) (X, 0) = (V, U)) := by
              show red (L.take (j + 1)) (X, 0) = (V, U)
              rw [HR.out, HST.out, if_neg hbit]
            clear hbit
            go_wp2_with (go_at_call 22; with_reducible refine (cd _).mono ?_; rintro e w2 ⟨rfl, rfl⟩)
            go_roundw
            case rel => exact ⟨j + 1, by omega, by rw [HN.out], by rw [HN.out], by go_num, by trivial⟩
            case measure => simp [intOf]; omega
        · have hjL : j = L.length := by omega
          rw [hjL, List.take_length] at *
          go_wp2
          go_ret2
          rw [HCO.out]
          exact ⟨tuple2 (by rw [Bool.eq_iff_iff]; simp), hbw⟩
end Go.Proofs.YtaepcecjblojjabDoor
